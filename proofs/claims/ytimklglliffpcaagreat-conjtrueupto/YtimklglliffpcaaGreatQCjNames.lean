/- The names of the map of conj.must, in their order. -/
import Derived.Test.YtimklglliffpcaaGreatQCjMap
namespace Go.Proofs.YtimklglliffpcaaGreat
open Go.RowKit Go.Sort Go.Shelf Go.Maps

theorem sortsT (m : Nat) : AnyZ.SortsIn Tryz.prog Tryz.sortedA_ren Fence.wide m :=
  ⟨fun blk off cap ss W hH hblk hsz => callsIn_wide.2 (Any.slices_Sort_string Tryz.sortS blk off cap ss W hH hblk hsz),
   fun p cap W => callsIn_wide.2 (Any.slices_Sort_string_none Tryz.sortS p cap W)⟩
/-- The names of all files, in their order. -/
def NamesOf {α : Type} (f : ByteArray → Option α) (l : List ByteArray) : Prop := l.Pairwise (fun x y => x.data.toList < y.data.toList) ∧ ∀ nm, nm ∈ l ↔ (f nm).isSome = true
def toBA (x : List UInt8) : ByteArray := ⟨x.toArray⟩
theorem toBA_list (x : List UInt8) : (toBA x).data.toList = x := by simp [toBA]
theorem names_of {w : World} {m n : Nat} {f : ByteArray → Option (Nat × Nat × Nat)} {D : DataW Unit} (h1 : w.ownsMap Tryz.prog 9 Rq m n D) (h2 : ∀ nm zd, D.atKey (.string nm.data.toList) zd = match f nm with | none => zd | some g => dq g) {ss : List (List UInt8)} (hp : ss.Perm (strKeys D)) :
    NamesOf f ((ss.mergeSort fun x y => decide (x ≤ y)).map toBA) := by
  obtain ⟨es, hD, hpw, _⟩ := h1.entries keyS
  obtain ⟨es', hD', hko⟩ := h1.keysOf
  obtain rfl : es = es' := by rw [hD] at hD'; simpa using hD'
  subst hD
  have hk : ∀ p ∈ es, ∃ x, p.1 = .string x := fun p hp => by obtain ⟨v, hv⟩ := hko p hp; obtain ⟨x, _, hx, _⟩ := Maps.keyOf_str Tryz.underlying9 hv; exact ⟨x, hx⟩
  have hnd : ss.Nodup := by
    refine hp.symm.nodup ?_
    show (es.map fun p => strOf p.1).Nodup
    refine List.pairwise_map.2 (hpw.imp_of_mem fun {p q} hp' hq' hne e => hne ?_)
    obtain ⟨a, ha⟩ := hk p hp'
    obtain ⟨b, hb⟩ := hk q hq'
    rw [ha, hb] at e ⊢
    exact congrArg _ e
  have hmem : ∀ x, x ∈ ss ↔ (f (toBA x)).isSome = true := fun x => by
    rw [hp.mem_iff]
    have hh : x ∈ strKeys (.map es) ↔ has (.map es) (.string x) = true := by
      rw [has_eq, List.any_eq_true]
      show x ∈ es.map (fun p => strOf p.1) ↔ _
      rw [List.mem_map]
      constructor
      · rintro ⟨p, hp', rfl⟩
        obtain ⟨a, ha⟩ := hk p hp'
        exact ⟨p, hp', by rw [ha]; simp [Lit.sameKey, strOf]⟩
      · rintro ⟨p, hp', hs⟩
        obtain ⟨a, ha⟩ := hk p hp'
        rw [ha] at hs
        exact ⟨p, hp', by rw [ha]; simpa [Lit.sameKey, strOf] using hs⟩
    rw [hh]
    have h3 := h2 (toBA x)
    rw [toBA_list] at h3
    cases hf : f (toBA x) with
    | none =>
      rw [hf] at h3
      rw [has_false_of_atKey h3]; simp
    | some g =>
      rw [hf] at h3
      rw [has_true_of_atKey (y := dq g) h3]; simp
  have hperm : (ss.mergeSort fun x y => decide (x ≤ y)).Perm ss := List.mergeSort_perm _ _
  have tr : ∀ a b c : List UInt8, leB a b = true → leB b c = true → leB a c = true := fun a b c h1 h2 => by simp only [leB, decide_eq_true_eq] at *; exact List.le_trans h1 h2
  have to : ∀ a b : List UInt8, (leB a b || leB b a) = true := fun a b => by simp only [leB, Bool.or_eq_true, decide_eq_true_eq]; exact List.le_total a b
  have hs := List.pairwise_mergeSort tr to ss
  have hnd2 : (ss.mergeSort leB).Nodup := hperm.symm.nodup hnd
  refine ⟨?_, fun nm => ?_⟩
  · rw [List.pairwise_map]
    refine (hs.and hnd2).imp fun {x y} h => ?_
    rw [toBA_list, toBA_list]
    have h4 : x ≤ y := by simpa [leB] using h.1
    exact Classical.byContradiction fun hn => h.2 (List.le_antisymm h4 (List.not_lt.1 hn))
  · rw [List.mem_map]
    constructor
    · rintro ⟨x, hx, rfl⟩
      exact (hmem x).1 (hperm.mem_iff.1 hx)
    · intro h
      refine ⟨nm.data.toList, hperm.mem_iff.2 ((hmem _).2 ?_), ?_⟩
      · rw [show toBA nm.data.toList = nm from ba_ext (toBA_list _)]; exact h
      · exact ba_ext (toBA_list _)
theorem strKeys_len {D : DataW Unit} (h : Maps.IsMap D) : (strKeys D).length = Maps.size D := by
  obtain ⟨es, rfl⟩ := h
  simp [strKeys, Maps.size]
theorem names_nodup {α : Type} {f : ByteArray → Option α} {l : List ByteArray} (h : NamesOf f l) : l.Nodup := h.1.imp fun {a b} hab e => by subst e; exact List.lt_irrefl _ hab
theorem keys_any (m : Nat) (W : World) : Calls Tryz.prog 125 #[.map (some m)] W fun e w' => e = .returned (.func (.func 166) #[] #[.pointer (some ⟨W.heap.size, 0, none⟩)]) ∧ w' = W.alloc (.cells #[.map (some m)] 144) :=
  (callsIn_wide (n := 5)).1 (AnyZ.keys_in Tryz.keysA Fence.wide 5 trivial rfl (some m) W)
set_option maxHeartbeats 1000000 in
theorem sorted_any {W : World} {m n : Nat} {f : ByteArray → Option (Nat × Nat × Nat)} (h : SM W m n f) (hn : n ≤ 1000000000) :
    Calls Tryz.prog 120 #[.func (.func 166) #[] #[.pointer (some ⟨W.heap.size, 0, none⟩)]] (W.alloc (.cells #[.map (some m)] 144)) fun e w' => (∃ q cap l, e = .returned (.slice q l.length cap) ∧ OwnK encS 9 1 (W.heap.size + 1) w' q cap l ∧ NamesOf f l ∧ l.length ≤ n) ∧ Below (W.heap.size + 1) (W.alloc (.cells #[.map (some m)] 144)) w' := by
  obtain ⟨D, h1, h2⟩ := h
  have hsz := h1.size_le
  have hbl := h1.lt
  have hseq : SeqGives Fence.wide 2 Tryz.prog 166 #[.pointer (some ⟨W.heap.size, 0, none⟩)] encStr (fun ss => ss.Perm (strKeys D)) (Maps.size D) (W.alloc (.cells #[.map (some m)] 144)) :=
    AnyZ.keys_gives (ρ := Tryz.keysA_ren) { Tryz.keysA with } Fence.wide _ trivial rfl (by omega) W.heap.size m n D _ (by simp) (by simp) (by
      obtain ⟨es, clock, hb, Ft, hs, hD⟩ := h1
      exact ⟨es, clock, (Below.heap_alloc _ _ m hbl).trans hb, Ft, hs, hD⟩)
  have cS := AnyZ.sorted_in Tryz.sortedA Fence.wide 5 trivial trivial trivial trivial rfl (by omega) (sortsT _) (enters_of Tryz.func162 (by kernel_rfl) rfl) 166 #[.pointer (some ⟨W.heap.size, 0, none⟩)] trivial (enters_of Tryz.func166 (by kernel_rfl) rfl) _ _ (by unfold maxLen; omega) (by omega) _ hseq
  change CallsIn _ _ Tryz.prog 120 _ _ _ at cS
  refine (callsIn_wide.1 cS).mono ?_
  rintro e w' ⟨v, ss, rfl, hS, hrow, hnil, hb⟩
  have hno := names_of h1 h2 hS
  have hlen : ((ss.mergeSort fun x y => decide (x ≤ y)).map toBA).length = ss.length := by simp
  obtain ⟨q', cap', rfl, _⟩ := OwnK.shape hrow
  refine ⟨⟨q', cap', (ss.mergeSort fun x y => decide (x ≤ y)).map toBA, by rw [hlen], ?_, hno, by rw [hlen, hS.length_eq, strKeys_len h1.isMap]; exact hsz⟩, by simpa using hb⟩
  unfold OwnK
  have e5 : ((ss.mergeSort fun x y => decide (x ≤ y)).map toBA).map (fun x : ByteArray => x.data.toList) = ss.mergeSort fun x y => decide (x ≤ y) := by
    rw [List.map_map]
    conv => rhs; rw [← List.map_id (ss.mergeSort fun x y => decide (x ≤ y))]
    exact List.map_congr_left fun x _ => toBA_list x
  rw [hlen, flatS, e5]
  exact ownsRow_base_a hrow (by simp)
theorem SM.len {w : World} {m n : Nat} {f : ByteArray → Option (Nat × Nat × Nat)} (h : SM w m n f) : ∃ (D : DataW Unit), w.ownsMap Tryz.prog 9 Rq m n D ∧ Maps.size D ≤ n := by
  obtain ⟨D, h1, _⟩ := h
  exact ⟨D, h1, h1.size_le⟩
end Go.Proofs.YtimklglliffpcaaGreat

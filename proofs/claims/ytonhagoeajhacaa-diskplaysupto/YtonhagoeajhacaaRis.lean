/- disk.rising: the names of all files, in their order. -/
import Derived.Test.YtonhagoeajhacaaApp
import Derived.Test.YtonhagoeajhacaaShk
namespace Go.Proofs.Ytonhagoeajhacaa
open Go.RowKit Go.Sort Go.Shelf Go.Maps

theorem sortsT (m : Nat) : AnyZ.SortsIn Try.prog Try.sortedA_ren Fence.wide m :=
  ⟨fun blk off cap ss W hH hblk hsz => callsIn_wide.2 (Any.slices_Sort_string Try.sortS blk off cap ss W hH hblk hsz),
   fun p cap W => callsIn_wide.2 (Any.slices_Sort_string_none Try.sortS p cap W)⟩
/-- The names of all files, in their order. -/
def NamesOf {α : Type} (f : ByteArray → Option α) (l : List ByteArray) : Prop := l.Pairwise (fun x y => x.data.toList < y.data.toList) ∧ ∀ nm, nm ∈ l ↔ (f nm).isSome = true
def toBA (x : List UInt8) : ByteArray := ⟨x.toArray⟩
theorem toBA_list (x : List UInt8) : (toBA x).data.toList = x := by simp [toBA]
theorem names_of {w : World} {m n : Nat} {f : ByteArray → Option Nat} {D : DataW Unit} (h1 : w.ownsMap Try.prog  9 Rp m n D) (h2 : ∀ nm zd, D.atKey (.string nm.data.toList) zd = match f nm with | none => zd | some g => .lit (.int .i64 (g : Int))) {ss : List (List UInt8)} (hp : ss.Perm (strKeys D)) :
    NamesOf f ((ss.mergeSort fun x y => decide (x ≤ y)).map toBA) := by
  obtain ⟨es, hD, hpw, _⟩ := h1.entries keyS
  obtain ⟨es', hD', hko⟩ := h1.keysOf
  obtain rfl : es = es' := by rw [hD] at hD'; simpa using hD'
  subst hD
  have hk : ∀ p ∈ es, ∃ x, p.1 = .string x := fun p hp => by obtain ⟨v, hv⟩ := hko p hp; obtain ⟨x, _, hx, _⟩ := Maps.keyOf_str Try.underlying9 hv; exact ⟨x, hx⟩
  have hnd : ss.Nodup := by
    refine hp.symm.nodup ?_
    show (es.map fun p => strOf p.1).Nodup
    refine List.pairwise_map.2 (hpw.imp_of_mem fun {p q} hp' hq' hne e => hne ?_)
    obtain ⟨a, ha⟩ := hk p hp'
    obtain ⟨b, hb⟩ := hk q hq'
    rw [ha, hb] at e ⊢
    exact congrArg _ e
  have hmem : ∀ x, x ∈ ss ↔ (f (toBA x)).isSome = true := fun x => by
    rw [hp.mem_iff]
    have hh : x ∈ strKeys (.map es) ↔ has (.map es) (.string x) = true := by
      rw [has_eq, List.any_eq_true]
      show x ∈ es.map (fun p => strOf p.1) ↔ _
      rw [List.mem_map]
      constructor
      · rintro ⟨p, hp', rfl⟩
        obtain ⟨a, ha⟩ := hk p hp'
        exact ⟨p, hp', by rw [ha]; simp [Lit.sameKey, strOf]⟩
      · rintro ⟨p, hp', hs⟩
        obtain ⟨a, ha⟩ := hk p hp'
        rw [ha] at hs
        exact ⟨p, hp', by rw [ha]; simpa [Lit.sameKey, strOf] using hs⟩
    rw [hh]
    have h3 := h2 (toBA x)
    rw [toBA_list] at h3
    cases hf : f (toBA x) with
    | none =>
      rw [hf] at h3
      rw [has_false_of_atKey h3]; simp
    | some g =>
      rw [hf] at h3
      rw [has_true_of_atKey (y := .lit (.int .i64 (g : Int))) h3]; simp
  have hperm : (ss.mergeSort fun x y => decide (x ≤ y)).Perm ss := List.mergeSort_perm _ _
  have tr : ∀ a b c : List UInt8, leB a b = true → leB b c = true → leB a c = true := fun a b c h1 h2 => by simp only [leB, decide_eq_true_eq] at *; exact List.le_trans h1 h2
  have to : ∀ a b : List UInt8, (leB a b || leB b a) = true := fun a b => by simp only [leB, Bool.or_eq_true, decide_eq_true_eq]; exact List.le_total a b
  have hs := List.pairwise_mergeSort tr to ss
  have hnd2 : (ss.mergeSort leB).Nodup := hperm.symm.nodup hnd
  refine ⟨?_, fun nm => ?_⟩
  · rw [List.pairwise_map]
    refine (hs.and hnd2).imp fun {x y} h => ?_
    rw [toBA_list, toBA_list]
    have h4 : x ≤ y := by simpa [leB] using h.1
    exact Classical.byContradiction fun hn => h.2 (List.le_antisymm h4 (List.not_lt.1 hn))
  · rw [List.mem_map]
    constructor
    · rintro ⟨x, hx, rfl⟩
      exact (hmem x).1 (hperm.mem_iff.1 hx)
    · intro h
      refine ⟨nm.data.toList, hperm.mem_iff.2 ((hmem _).2 ?_), ?_⟩
      · rw [show toBA nm.data.toList = nm from ba_ext (toBA_list _)]; exact h
      · exact ba_ext (toBA_list _)
theorem strKeys_len {D : DataW Unit} (h : Maps.IsMap D) : (strKeys D).length = Maps.size D := by
  obtain ⟨es, rfl⟩ := h
  simp [strKeys, Maps.size]
set_option maxHeartbeats 1000000 in
theorem rising_any {B : Nat → Prop} {w : World} {g : Nat} {s : Dk} (hd : DkAt B w g s) (hn : s.n ≤ 1000000000) :
    Calls Try.prog 33 #[.pointer (some ⟨g, 0, none⟩)] w fun e w' => (∃ q cap l, e = .returned (.slice q l.length cap) ∧ OwnK encS 9 1 w.heap.size w' q cap l ∧ NamesOf s.get l ∧ l.length ≤ s.n) ∧ Below w.heap.size w w' := by
  obtain ⟨m, h, q, c, hi⟩ := hd
  obtain ⟨⟨c0, c1, c2, c3, c4⟩, _⟩ := cells5 hi.box
  obtain ⟨D, h1, h2⟩ := hi.map
  have hsz := h1.size_le
  have hbl := h1.lt
  refine (callsIn_wide (n := 6)).1 ?_
  have hseq : SeqGives Fence.wide 2 Try.prog 61 #[.pointer (some ⟨w.heap.size, 0, none⟩)] encStr (fun ss => ss.Perm (strKeys D)) (Maps.size D) (w.alloc (.cells #[.map (some m)] 44)) :=
    AnyZ.keys_gives (ρ := Try.keysA_ren) { Try.keysA with } Fence.wide _ trivial rfl (by omega) w.heap.size m s.n D _ (by simp) (by simp) (by
      obtain ⟨es, clock, hb, Ft, hs, hD⟩ := h1
      exact ⟨es, clock, (Below.heap_alloc _ _ m hbl).trans hb, Ft, hs, hD⟩)
  have cK : ∀ mb W, CallsIn Fence.wide 5 Try.prog 52 #[.map mb] W fun e w' => e = .returned (.func (.func 61) #[] #[.pointer (some ⟨W.heap.size, 0, none⟩)]) ∧ w' = W.alloc (.cells #[.map mb] 44) := fun mb W => AnyZ.keys_in Try.keysA Fence.wide 5 trivial rfl mb W
  have cS := AnyZ.sorted_in Try.sortedA Fence.wide 5 trivial trivial trivial trivial rfl (by omega) (sortsT _) (enters_of Try.func60 (by kernel_rfl) rfl) 61 #[.pointer (some ⟨w.heap.size, 0, none⟩)] trivial (enters_of Try.func61 (by kernel_rfl) rfl) _ _ (by unfold maxLen; omega) (by omega) _ hseq
  change CallsIn _ _ Try.prog 51 _ _ _ at cS
  have hfK : Fence.wide.fn 52 := trivial
  have hfS : Fence.wide.fn 51 := trivial
  have H1 := hide h1
  have H2 := hide h2
  clear hi h1 h2 hseq
  refine callsIn_of_wp Try.func33 rfl trivial ?_ rfl
  simp only [Try.ntmps33, List.size_toArray, List.length_cons, List.length_nil, Nat.reduceAdd, Nat.reduceSub, Array.replicate_succ, Array.replicate_zero, List.push_toArray, List.append_toArray, List.nil_append, List.cons_append]
  gi_wp2_with (first
    | (gi_at_call 52; refine (cK _ _).mono ?_; rintro e w' ⟨rfl, rfl⟩)
    | (gi_at_call 51; refine cS.mono ?_; rintro e w' ⟨v, ss, rfl, hS, hrow, hnil, hb⟩))
  go_ret
  have hno := names_of (unhide H1) (unhide H2) hS
  have hlen : ((ss.mergeSort fun x y => decide (x ≤ y)).map toBA).length = ss.length := by simp
  obtain ⟨q', cap', rfl, _⟩ := OwnK.shape hrow
  refine ⟨⟨q', cap', (ss.mergeSort fun x y => decide (x ≤ y)).map toBA, by rw [hlen]; rfl, ?_, ⟨hno.1, fun nm => (hno.2 nm).trans (by simp)⟩, by rw [hlen, hS.length_eq, strKeys_len (unhide H1).isMap]; exact hsz⟩, ((Below.refl _ w).alloc (Nat.le_refl _) _).trans (hb.mono (by simp))⟩
  unfold OwnK
  rw [hlen, flatS, List.map_map]
  exact ownsRow_base_a hrow (by simp)
end Go.Proofs.Ytonhagoeajhacaa

/- Clone, rising, Attrs and Event once more: what they return is a row of the call's own. -/
import Derived.Test.YtojeihchkdkkgabPlaysLaw
namespace Go.Proofs.Ytojeihchkdkkgab
open Go.RowKit Go.Sort Go.Shelf

theorem shape_sortWorld {α : Type} [Inhabited α] {enc : α → List Value} {k : Nat} {w : World} {g n : Nat} {d : Array α} {os : Array Obj} {cur : Array Value} {e : TypeId} {fr : Nat × Nat} (h : w.heap[g]? = some (.cells cur e fr)) : ∃ cur', (sortWorldK enc k w g 0 n d os).heap[g]? = some (.cells cur' e fr) ∧ cur'.size = cur.size := by
  have hg : g < w.heap.size := (Array.getElem?_eq_some_iff.1 h).1
  unfold sortWorldK putRowK
  simp only [grow, putRow, mapBlock, Sort.ahead]
  rw [Array.getElem?_append_left (by simpa using hg), Array.getElem?_modify]
  simp only [if_true, h, Option.map_some]
  exact ⟨_, rfl, by simp [putCells]⟩
/-- The row of q is whole: cap elements of k cells, none frozen. -/
def ShK (e : TypeId) (k : Nat) (w : World) (q : Option Addr) (cap : Nat) : Prop := ∀ g, q = some ⟨g, 0, none⟩ → ∃ cur, w.heap[g]? = some (.cells cur e (0, 0)) ∧ cur.size = cap * k
theorem OwnK.sh {α : Type} [Inhabited α] {enc : α → List Value} {e : TypeId} {k B : Nat} {w : World} {q : Option Addr} {cap : Nat} {l : List α} (h : OwnK enc e k B w q cap l) : ShK e k w q cap := fun g hq => by
  subst hq
  rcases h.2 with ⟨h0, _⟩ | ⟨g', cap', cur, hv, _, hblk, _, _, hs, _⟩
  · cases h0
  · injection hv with h1 h2 h3
    cases h1
    subst h3
    exact ⟨cur, hblk, hs⟩
theorem OwnK.ofP {B : Nat} {w : World} {q : Option Addr} {cap : Nat} {l : List (ByteArray × Int × Int × ByteArray)} (hN : NewP B w q cap l) (hs : ShK 52 4 w q cap) : OwnK encP 52 4 B w q cap l := by
  rcases hN with ⟨rfl, rfl, rfl⟩ | ⟨g, rfl, hB, hg, hH, h1, h2⟩
  · exact OwnK.nil _ _
  · obtain ⟨cur, hblk, hsz⟩ := hs g rfl
    refine ⟨by simp, Or.inr ⟨g, cap, cur, rfl, hB, hblk, h1, h2, hsz, ?_⟩⟩
    apply List.ext_getElem?
    intro t
    by_cases ht : t < l.length * 4
    · have hc := (hH t (by simpa using ht)).1
      rw [Nat.zero_add, cell_of_row w g t cur 52 (0, 0) hblk] at hc
      rw [List.getElem?_take, if_pos ht, Array.getElem?_toList, hc]
      have hf : t < (flatK encP 4 l.toArray).size := by simpa using ht
      rw [Array.getElem?_toList, Array.getElem?_eq_getElem hf, getElem!_pos _ t hf]
      rfl
    · rw [List.getElem?_eq_none (by rw [List.length_take]; omega), List.getElem?_eq_none (by simp; omega)]
theorem cloneA_someO (b off cap : Nat) (l : List (ByteArray × Int)) (w : World) (hl : l.length * 24 ≤ 140737488355328) (hA : AtsAt w b off l) :
    Calls Try.prog 37 #[.slice (some ⟨b, off, none⟩) l.length cap] w fun e w' => ∃ q cap', e = .returned (.slice q l.length cap') ∧ OwnK encA 26 2 w.heap.size w' q cap' l ∧ q ≠ none ∧ Below w.heap.size w w' := by
  obtain ⟨i0, hi, hz0, hz1, hz2⟩ := info_parts Try.info26
  have hc := AnyE.slices_Clone Try.cloneA i0 (.agg #[.string ⟨#[]⟩, .int .i64 0]) 2 24 hi hz0 hz1 hz2 rfl (by decide) Try.sizeOf26 b off l.length cap (flatK encA 2 l.toArray).toList w (by simp) (by unfold maxLen; omega) hl hA.flat (fun u hu => by
    rw [Array.mem_toList_iff] at hu
    obtain ⟨j, hj, rfl⟩ := Array.mem_iff_getElem.1 hu
    have hg := get_flatK encA 2 l.toArray j (by simpa using hj)
    rw [getElem!_pos _ j hj] at hg
    rw [hg]
    have hm : j % 2 = 0 ∨ j % 2 = 1 := by omega
    rcases hm with e | e <;> rw [e] <;> rfl)
  change Calls Try.prog 37 _ _ _ at hc
  refine hc.mono fun e w' ⟨v', he, hown, hv, hb⟩ => ?_
  have hown2 : w'.ownsRow w.heap.size 26 2 v' l.length (flatK encA 2 l.toArray).toList := by first | exact hown | (have h := hown; simp at h; exact h)
  obtain ⟨q, cap', rfl, hq⟩ := OwnK.shape hown2
  exact ⟨q, cap', by rw [he], hown2, fun e => hv (hq e), hb⟩
set_option maxHeartbeats 1000000 in
theorem cloneA_emptyO (a : Addr) (cap : Nat) (w : World) :
    Calls Try.prog 37 #[.slice (some a) 0 cap] w fun e w' => ∃ q cap', e = .returned (.slice q 0 cap') ∧ OwnK encA 26 2 w.heap.size w' q cap' [] ∧ q ≠ none ∧ Below w.heap.size w w' := by
  obtain ⟨i0, hi, hz0, hz1, hz2⟩ := info_parts Try.info26
  have q22 : ∀ (w : World) (a : Option Addr) (n c n' c' : Nat), (binOp .eql 22 (.slice a n c) (.slice none n' c')).run Try.prog w = .ok (.bool a.isNone) w := fun w a n c n' c' => Lib.run_eql_slice_nil w _ _ a n c n' c' Try.underlying22
  go_enter Try.func37, Try.ntmps37
  go_wp2_with (at_builtin; refine wpList_append_own _ rfl _ _ 22 rfl w.heap.size 26 i0 (.agg #[.string ⟨#[]⟩, .int .i64 0]) 2 24 Try.underlying22 hi hz0 hz1 hz2 rfl (by decide) _ _ _ rfl (World.ownsRow_made w #[] 0 (Nat.le_refl _) (Nat.zero_le _) (by simp)) a 0 cap [] rfl rfl (fun j u h => by simp at h) (fun u h => by simp at h) (by unfold maxLen; omega) (by omega) (by simp) ?_)
  intro v' w1 hown hgrow hnil
  go_wp2
  go_ret
  have hown2 : w1.ownsRow w.heap.size 26 2 v' (#[] : Array (ByteArray × Int)).size (flatK encA 2 #[]).toList := by simpa [flatK] using hown
  obtain ⟨q, cap', rfl, hq⟩ := OwnK.shape hown2
  exact ⟨q, cap', rfl, hown2, fun e => hnil (hq e), ((Below.refl _ w).alloc (Nat.le_refl _) _).grown hgrow (by simp) (by intro k hk; simp [Value.ownBlock] at hk; omega)⟩
theorem cloneA_own (p : Option Addr) (cap : Nat) (l : List (ByteArray × Int)) (w : World) (hl : l.length * 24 ≤ 140737488355328) (hp : p = none → l.length = 0 ∧ cap = 0) (hA : AtsOf w p l) :
    Calls Try.prog 37 #[.slice p l.length cap] w fun e w' => ∃ q cap', e = .returned (.slice q l.length cap') ∧ OwnK encA 26 2 w.heap.size w' q cap' l ∧ (q = none ↔ p = none) ∧ Below w.heap.size w w' := by
  cases p with
  | none =>
    obtain ⟨h0, rfl⟩ := hp rfl
    obtain rfl : l = [] := List.length_eq_zero_iff.1 h0
    refine (cloneA_nil w).mono fun e w' ⟨he, hw⟩ => ?_
    subst hw
    exact ⟨none, 0, he, OwnK.nil _ _, by simp, Below.refl _ _⟩
  | some a =>
    by_cases h0 : l.length = 0
    · obtain rfl : l = [] := List.length_eq_zero_iff.1 h0
      exact (cloneA_emptyO a cap w).mono fun e w' ⟨q, cap', he, hN, hq, hb⟩ => ⟨q, cap', he, hN, by simp [hq], hb⟩
    · obtain ⟨b, off, hpe, _, hAt⟩ := hA (by omega)
      obtain rfl : a = ⟨b, off, none⟩ := by simpa using hpe
      exact (cloneA_someO b off cap l w hl hAt).mono fun e w' ⟨q, cap', he, hN, hq, hb⟩ => ⟨q, cap', he, hN, by simp [hq], hb⟩
theorem cloneP_someO (b off cap : Nat) (l : List (ByteArray × Int × Int × ByteArray)) (w : World) (hl : l.length * 48 ≤ 140737488355328) (hA : PrsAt w b off l) :
    Calls Try.prog 46 #[.slice (some ⟨b, off, none⟩) l.length cap] w fun e w' => ∃ q cap', e = .returned (.slice q l.length cap') ∧ OwnK encP 52 4 w.heap.size w' q cap' l ∧ q ≠ none ∧ Below w.heap.size w w' := by
  obtain ⟨i0, hi, hz0, hz1, hz2⟩ := info_parts Try.info52
  have hc := AnyE.slices_Clone Try.cloneP i0 (.agg #[.string ⟨#[]⟩, .int .i64 0, .int .i64 0, .string ⟨#[]⟩]) 4 48 hi hz0 hz1 hz2 rfl (by decide) Try.sizeOf52 b off l.length cap (flatK encP 4 l.toArray).toList w (by simp) (by unfold maxLen; omega) hl hA.flat (fun u hu => by
    rw [Array.mem_toList_iff] at hu
    obtain ⟨j, hj, rfl⟩ := Array.mem_iff_getElem.1 hu
    have hg := get_flatK encP 4 l.toArray j (by simpa using hj)
    rw [getElem!_pos _ j hj] at hg
    rw [hg]
    have hm : j % 4 = 0 ∨ j % 4 = 1 ∨ j % 4 = 2 ∨ j % 4 = 3 := by omega
    rcases hm with e | e | e | e <;> rw [e] <;> rfl)
  change Calls Try.prog 46 _ _ _ at hc
  refine hc.mono fun e w' ⟨v', he, hown, hv, hb⟩ => ?_
  have hown2 : w'.ownsRow w.heap.size 52 4 v' l.length (flatK encP 4 l.toArray).toList := by first | exact hown | (have h := hown; simp at h; exact h)
  obtain ⟨q, cap', rfl, hq⟩ := OwnK.shape hown2
  exact ⟨q, cap', by rw [he], hown2, fun e => hv (hq e), hb⟩
set_option maxHeartbeats 1000000 in
theorem cloneP_emptyO (a : Addr) (cap : Nat) (w : World) :
    Calls Try.prog 46 #[.slice (some a) 0 cap] w fun e w' => ∃ q cap', e = .returned (.slice q 0 cap') ∧ OwnK encP 52 4 w.heap.size w' q cap' [] ∧ q ≠ none ∧ Below w.heap.size w w' := by
  obtain ⟨i0, hi, hz0, hz1, hz2⟩ := info_parts Try.info52
  have q22 : ∀ (w : World) (a : Option Addr) (n c n' c' : Nat), (binOp .eql 23 (.slice a n c) (.slice none n' c')).run Try.prog w = .ok (.bool a.isNone) w := fun w a n c n' c' => Lib.run_eql_slice_nil w _ _ a n c n' c' Try.underlying23
  go_enter Try.func46, Try.ntmps46
  go_wp2_with (at_builtin; refine wpList_append_own _ rfl _ _ 23 rfl w.heap.size 52 i0 (.agg #[.string ⟨#[]⟩, .int .i64 0, .int .i64 0, .string ⟨#[]⟩]) 4 48 Try.underlying23 hi hz0 hz1 hz2 rfl (by decide) _ _ _ rfl (World.ownsRow_made w #[] 0 (Nat.le_refl _) (Nat.zero_le _) (by simp)) a 0 cap [] rfl rfl (fun j u h => by simp at h) (fun u h => by simp at h) (by unfold maxLen; omega) (by omega) (by simp) ?_)
  intro v' w1 hown hgrow hnil
  go_wp2
  go_ret
  have hown2 : w1.ownsRow w.heap.size 52 4 v' (#[] : Array (ByteArray × Int × Int × ByteArray)).size (flatK encP 4 #[]).toList := by simpa [flatK] using hown
  obtain ⟨q, cap', rfl, hq⟩ := OwnK.shape hown2
  exact ⟨q, cap', rfl, hown2, fun e => hnil (hq e), ((Below.refl _ w).alloc (Nat.le_refl _) _).grown hgrow (by simp) (by intro k hk; simp [Value.ownBlock] at hk; omega)⟩
theorem cloneP_own (p : Option Addr) (cap : Nat) (l : List (ByteArray × Int × Int × ByteArray)) (w : World) (hl : l.length * 48 ≤ 140737488355328) (hp : p = none → l.length = 0 ∧ cap = 0) (hA : PrsOf w p l) :
    Calls Try.prog 46 #[.slice p l.length cap] w fun e w' => ∃ q cap', e = .returned (.slice q l.length cap') ∧ OwnK encP 52 4 w.heap.size w' q cap' l ∧ (q = none ↔ p = none) ∧ Below w.heap.size w w' := by
  cases p with
  | none =>
    obtain ⟨h0, rfl⟩ := hp rfl
    obtain rfl : l = [] := List.length_eq_zero_iff.1 h0
    refine (cloneP_nil w).mono fun e w' ⟨he, hw⟩ => ?_
    subst hw
    exact ⟨none, 0, he, OwnK.nil _ _, by simp, Below.refl _ _⟩
  | some a =>
    by_cases h0 : l.length = 0
    · obtain rfl : l = [] := List.length_eq_zero_iff.1 h0
      exact (cloneP_emptyO a cap w).mono fun e w' ⟨q, cap', he, hN, hq, hb⟩ => ⟨q, cap', he, hN, by simp [hq], hb⟩
    · obtain ⟨b, off, hpe, _, hAt⟩ := hA (by omega)
      obtain rfl : a = ⟨b, off, none⟩ := by simpa using hpe
      exact (cloneP_someO b off cap l w hl hAt).mono fun e w' ⟨q, cap', he, hN, hq, hb⟩ => ⟨q, cap', he, hN, by simp [hq], hb⟩
theorem attrs_own (b : Nat) (l : List (ByteArray × Int)) (w : World) (hl : l.length * 24 ≤ 140737488355328) (hS : SchAt w b l) :
    Calls Try.prog 16 #[.pointer (some ⟨b, 0, none⟩)] w fun e w' => ∃ q cap, e = .returned (.slice q l.length cap) ∧ OwnK encA 26 2 w.heap.size w' q cap l ∧ Below w.heap.size w w' := by
  obtain ⟨h0, p, cap, hc, hA, hp⟩ := hS
  have hcl := cloneA_own p cap l w hl hp hA
  clear hA hp
  go_enter Try.func16, Try.ntmps16
  go_wp2_with (first | (go_at_call 37; refine hcl.mono ?_; rintro e w1 ⟨q, cap', rfl, hN, _, b1⟩))
  go_ret
  exact ⟨q, cap', rfl, hN, b1⟩
theorem sortP_sh (c g cap : Nat) (l : List (ByteArray × Int × Int × ByteArray)) (w : World) (hl : l.length < 4611686018427387904) (hH : HoldsK encP 4 w g 0 l.toArray) (hg : g < w.heap.size) (hc : w.cell? ⟨c, 0, none⟩ = some (.func (.func 35) #[] #[])) (hb : c < w.heap.size) (hne : c ≠ g) :
    Calls Try.prog 47 #[.slice (some ⟨g, 0, none⟩) l.length cap, .func (.func 48) #[] #[.pointer (some ⟨c, 0, none⟩)]] w fun e w' => e = .returned (.tuple #[]) ∧ ∃ l', l'.Perm l ∧ Rises nmP l' ∧ HoldsK encP 4 w' g 0 l'.toArray ∧ g < w'.heap.size ∧ Below g w w' ∧ ∀ cur, w.heap[g]? = some (.cells cur 52 (0, 0)) → ∃ cur', w'.heap[g]? = some (.cells cur' 52 (0, 0)) ∧ cur'.size = cur.size := by
  have eg : ∀ args w, (callFunc 48 args).run Try.prog w = .ok (.enter 48 args) w := enters_of Try.func48 (by kernel_rfl) rfl
  have hcon := AnyQ.slices_SortFunc Try.sortP 4 Try.isAgg52 Try.sizeOf52 encP (fun _ => rfl) (fun x v hv => by simp [encP] at hv; rcases hv with rfl | rfl | rfl | rfl <;> rfl) cfP swoP 48 #[.pointer (some ⟨c, 0, none⟩)] g 0 cap l.toArray w eg (cmpLaysP c g 0 l.toArray.size w hc hb hne) hH hg (by simpa using hl)
  change Calls Try.prog 47 _ _ _ at hcon
  have es : l.toArray.size = l.length := by simp
  rw [es] at hcon
  refine hcon.mono fun e w' ⟨he, d', n, os, hp, hs, hw⟩ => ⟨he, d'.toList, ?_, ?_, ?_⟩
  · have := perm_of (d := l.toArray) (by rw [es]; exact hp)
    simpa using this
  · exact rises_of (fun _ _ => rfl) (hp.1.trans es) hs
  · subst hw
    obtain ⟨a, b⟩ := holds_sortWorld (n := n) (os := os) hg hH hp.1
    exact ⟨by simpa using a, b, below_sortWorld w g n d' os hg, fun cur hc => shape_sortWorld hc⟩
/-- What rising returns. -/
def RisenO (w : World) (p : Option Addr) (l : List (ByteArray × Int × Int × ByteArray)) (e : Ending) (w' : World) : Prop :=
  (∃ l' q cap', e = .returned (.tuple #[.slice q l'.length cap', .bool true]) ∧ l'.Perm l ∧ Strict nmP l' ∧ OwnK encP 52 4 w.heap.size w' q cap' l' ∧ (q = none ↔ p = none)) ∨ (e = .returned (.tuple #[.slice none 0 0, .bool false]) ∧ ¬ (l.map nmP).Nodup)

set_option maxHeartbeats 2000000 in
theorem risingP_own (p : Option Addr) (cap : Nat) (l : List (ByteArray × Int × Int × ByteArray)) (w : World) (hl : l.length * 48 ≤ 140737488355328) (hp : p = none → l.length = 0 ∧ cap = 0) (hA : PrsOf w p l) :
    Calls Try.prog 34 #[.slice p l.length cap, .func (.func 35) #[] #[]] w fun e w' => RisenO w p l e w' ∧ Below w.heap.size w w' := by
  have mixed : Try.prog.follows .mixedOrders = true := by kernel_rfl
  have eN : ∀ args w, (callFunc 35 args).run Try.prog w = .ok (.enter 35 args) w := enters_of Try.func35 (by kernel_rfl) rfl
  have hcl := cloneP_own p cap l (w.alloc (.cells #[.func (.func 35) #[] #[]] 70)) hl hp (hA.below ((Below.refl _ _).alloc (Nat.le_refl _) _))
  have hcell : (w.alloc (.cells #[.func (.func 35) #[] #[]] 70)).cell? ⟨w.heap.size, 0, none⟩ = some (.func (.func 35) #[] #[]) := by go_simp
  have Hcell := hide hcell
  clear hcell hA
  by_cases h0 : l.length = 0
  · obtain rfl : l = [] := List.length_eq_zero_iff.1 h0
    simp only [List.length_nil] at hcl ⊢
    have hso := fun (q : Option Addr) (cap : Nat) (fv : Value) (W : World) => sortP_none q cap fv W
    go_enter Try.func34, Try.ntmps34
    go_wp2_with (first
      | (go_at_call 46; refine hcl.mono ?_; rintro e w1 ⟨q, cap', rfl, hN, hq, b1⟩; have B1 := hide b1; have HN := hide hN; have Hq := hide hq; clear b1 hN hq)
      | (go_at_call 47; refine (hso _ _ _ _).mono ?_; rintro e w2 ⟨rfl, rfl⟩))
    go_loop [7] (fun i => i = .int .i64 1) (fun _ => 0)
    case atStart => rfl
    case round =>
      subst hrel
      go_wp2
      refine bodyPost_ret (v := .tuple #[.slice q 0 cap', .bool true]) (by simp [results, Try.results34, go_sem]) rfl ?_
      refine ⟨Or.inl ⟨[], q, cap', rfl, List.Perm.refl _, List.Pairwise.nil, (unhide HN).mono (by simp), unhide Hq⟩, ?_⟩
      exact below_sub ((Below.refl _ _).alloc (Nat.le_refl _) _) (unhide B1)
  · have hso := fun (g cap : Nat) (W : World) (h1 : HoldsK encP 4 W g 0 l.toArray) (h2 : g < W.heap.size) (h3 : W.cell? ⟨w.heap.size, 0, none⟩ = some (.func (.func 35) #[] #[])) (h4 : w.heap.size < W.heap.size) (h5 : w.heap.size ≠ g) => sortP_sh w.heap.size g cap l W (by omega) h1 h2 h3 h4 h5
    go_enter Try.func34, Try.ntmps34
    go_wp2_with (first
      | (go_at_call 46; refine hcl.mono ?_; rintro e w1 ⟨q, cap', rfl, hO, hq, b1⟩; have Hq := hide hq; have HO := hide hO; have hN := hO.newP; clear hO; (rcases hN with ⟨_, hln, _⟩ | ⟨g, rfl, hBg, hgw, hH, hcap, hcm⟩; (exact absurd (by rw [hln]; rfl) h0)); have hBg' : w.heap.size + 1 ≤ g := (by simpa using hBg); have hc1 := (b1.cell (p := ⟨w.heap.size, 0, none⟩) (by simp)).trans (unhide Hcell); have B1 := hide b1; have HH := hide hH; clear b1 hH hq)
      | (go_at_call 47; refine (hso g cap' _ (unhide HH) hgw hc1 (by omega) (by omega)).mono ?_; rintro e w2 ⟨rfl, l', hperm, hrise, hH2, hgw2, b2, hsh⟩; have Hsh : Hid (∃ cur', w2.heap[g]? = some (.cells cur' 52 (0, 0)) ∧ cur'.size = cap' * 4) := hide (by (obtain ⟨cur, hc, hz⟩ := (unhide HO).sh g rfl); (obtain ⟨cur', hc', hz'⟩ := hsh cur hc); exact ⟨cur', hc', hz'.trans hz⟩); clear hsh; have Hperm := hide hperm; have Hrise := hide hrise; have HH2 := hide hH2; have B2 := hide b2; have hc2 := (b2.cell (p := ⟨w.heap.size, 0, none⟩) (by simp; omega)).trans hc1; clear hperm hrise hH2 b2))
    have hlen : l'.length = l.length := (unhide Hperm).length_eq
    have hcw2 : w.heap.size < w2.heap.size := by omega
    have Hc2 := hide hc2
    have Hat := hide (PrsAt.of_holds (unhide HH2))
    clear hc1 hc2
    go_loopw [7] (fun i wr => ∃ m : Nat, m + 1 ≤ l.length ∧ i = .int .i64 ((m : Int) + 1) ∧ Below w2.heap.size w2 wr ∧ ∀ (j : Nat) (x y : ByteArray × Int × Int × ByteArray), j < m → l'[j]? = some x → l'[j + 1]? = some y → nmP x ≠ nmP y) (fun i _ => l.length - (intOf i).toNat)
    case atStart => exact ⟨0, by omega, rfl, Below.refl _ _, fun j x y h => by omega⟩
    case round =>
      obtain ⟨m, hm, rfl, hbel, hdif⟩ := hrel
      have Hdif := hide hdif
      clear hdif
      by_cases hlt : m + 1 < l.length
      · obtain ⟨x, hx, _⟩ := get_at (l := l') (k := m) (by omega)
        obtain ⟨y, hy, _⟩ := get_at (l := l') (k := m + 1) (by omega)
        have Hx := hide hx
        have Hy := hide hy
        have hcg : ∀ n os, (grow (wr.drewN n) os).cell? ⟨w.heap.size, 0, none⟩ = some (.func (.func 35) #[] #[]) := cell_grown (by exact Nat.lt_of_lt_of_le hcw2 hbel.size) ((hbel.cell (by exact hcw2)).trans (unhide Hc2))
        have hgr : g < wr.heap.size := Nat.lt_of_lt_of_le hgw2 hbel.size
        obtain ⟨a0, a1, a2, a3⟩ := (unhide Hat).below hbel hgw2 m x hx
        obtain ⟨b0, b1, b2, b3⟩ := (unhide Hat).below hbel hgw2 (m + 1) y hy
        simp only [Nat.zero_add] at a0 a1 a2 a3 b0 b1 b2 b3
        have x0 : ∀ n os, (grow (wr.drewN n) os).cell? ⟨g, m * 4, none⟩ = some (.string x.1) := cell_grown (by exact hgr) a0
        have x1 : ∀ n os, (grow (wr.drewN n) os).cell? ⟨g, m * 4 + 1, none⟩ = some (.int .i64 x.2.1) := cell_grown (by exact hgr) a1
        have x2 : ∀ n os, (grow (wr.drewN n) os).cell? ⟨g, m * 4 + 2, none⟩ = some (.int .i64 x.2.2.1) := cell_grown (by exact hgr) a2
        have x3 : ∀ n os, (grow (wr.drewN n) os).cell? ⟨g, m * 4 + 3, none⟩ = some (.string x.2.2.2) := cell_grown (by exact hgr) a3
        have y0 : ∀ n os, (grow (wr.drewN n) os).cell? ⟨g, (m + 1) * 4, none⟩ = some (.string y.1) := cell_grown (by exact hgr) b0
        have y1 : ∀ n os, (grow (wr.drewN n) os).cell? ⟨g, (m + 1) * 4 + 1, none⟩ = some (.int .i64 y.2.1) := cell_grown (by exact hgr) b1
        have y2 : ∀ n os, (grow (wr.drewN n) os).cell? ⟨g, (m + 1) * 4 + 2, none⟩ = some (.int .i64 y.2.2.1) := cell_grown (by exact hgr) b2
        have y3 : ∀ n os, (grow (wr.drewN n) os).cell? ⟨g, (m + 1) * 4 + 3, none⟩ = some (.string y.2.2.2) := cell_grown (by exact hgr) b3
        clear hx hy a0 a1 a2 a3 b0 b1 b2 b3
        have ki0 : (0 : Int) ≤ (m : Int) := by omega
        have ki1 : (m : Int) < (l.length : Int) := by omega
        have kj0 : (0 : Int) ≤ (m : Int) + 1 := by omega
        have kj1 : (m : Int) + 1 < (l.length : Int) := by omega
        have kt : ((m : Int) + 1).toNat = m + 1 := by omega
        have ks := wrap_nat m (by omega)
        cases hq : (x.1.toList == y.1.toList) with
        | true =>
          have Hno := hide (not_nodup (nm := nmP) (unhide Hperm) (unhide Hx) (unhide Hy) (by simpa [nmP] using hq))
          go_wp2
          go_quiet_grown (first | (go_at_fn 35; refine Calls.grown_of (pairName_any _ _)))
          go_wp2
          go_ret2
          refine ⟨Or.inr ⟨rfl, unhide Hno⟩, ?_⟩
          exact (((below_sub ((Below.refl _ _).alloc (Nat.le_refl _) _) (unhide B1)).trans ((unhide B2).mono (by omega))).trans ((below_grown_any hbel (by have := hbel.size; omega) _ _).mono (by omega)))
        | false =>
          have Hne : Hid (nmP x ≠ nmP y) := hide (by simpa [nmP] using hq)
          go_wp2
          go_quiet_grown (first | (go_at_fn 35; refine Calls.grown_of (pairName_any _ _)))
          go_wp2
          go_roundw
          case rel => exact ⟨m + 1, by omega, by go_num, below_grown_any hbel hbel.size _ _, fun j x' y' hj hx' hy' => by
            by_cases e : j = m
            · subst e
              obtain rfl : x' = x := Option.some.inj (hx'.symm.trans (unhide Hx))
              obtain rfl : y' = y := Option.some.inj (hy'.symm.trans (unhide Hy))
              exact unhide Hne
            · exact unhide Hdif j x' y' (by omega) hx' hy'⟩
          case measure => simp [intOf]; omega
      · have hst := hide (strict_of (unhide Hrise) (fun j x y hx hy => unhide Hdif j x y (by have := (List.getElem?_eq_some_iff.1 hy).1; omega) hx hy))
        have hge : ¬ (m : Int) + 1 < (l.length : Int) := by omega
        go_wp2
        go_ret2
        refine ⟨Or.inl ⟨l', some ⟨g, 0, none⟩, cap', (by rw [hlen]; rfl), unhide Hperm, unhide hst, ?_, unhide Hq⟩, ?_⟩
        · refine OwnK.ofP (?_) (fun g' hg' => by
            cases hg'
            obtain ⟨cur', hc', hz'⟩ := unhide Hsh
            exact ⟨cur', (hbel.block g hgw2).trans hc', hz'⟩)
          exact Or.inr ⟨g, rfl, by omega, Nat.lt_of_lt_of_le hgw2 hbel.size, fun t ht => ⟨(hbel.cell (by exact hgw2)).trans (unhide HH2 t ht).1, (hbel.frozen (by exact hgw2)).trans (unhide HH2 t ht).2⟩, by omega, hcm⟩
        · exact (((below_sub ((Below.refl _ _).alloc (Nat.le_refl _) _) (unhide B1)).trans ((unhide B2).mono (by omega))).trans (hbel.mono (by omega)))
set_option maxHeartbeats 1000000 in
theorem event_own (b : Nat) (al : List (ByteArray × Int)) (p : Option Addr) (cap : Nat) (l : List (ByteArray × Int × Int × ByteArray)) (w : World) (ha : al.length ≤ 140737488355328) (hl : l.length * 48 ≤ 140737488355328) (hS : SchAt w b al) (hp : p = none → l.length = 0 ∧ cap = 0) (hA : PrsOf w p l) (hfit : l.all (fitOk al) = true ∧ (l.map nmP).Nodup) :
    Calls Try.prog 13 #[.pointer (some ⟨b, 0, none⟩), .slice p l.length cap] w fun e w' => (∃ es q cap', e = .returned (.tuple #[.slice q es.length cap', .int .i64 0]) ∧ es.Perm l ∧ Strict nmP es ∧ OwnK encP 52 4 w.heap.size w' q cap' es) ∧ Below w.heap.size w w' := by
  have hal := allP_any b al p cap l w ha (by omega) hS hA
  rw [hfit.1] at hal
  have Hnd := hide hfit.2
  have hri := fun (W : World) (hb : Below w.heap.size w W) => risingP_own p cap l W hl hp (hA.below hb)
  clear hfit hA hp hS
  go_enter Try.func13, Try.ntmps13
  go_wp2_with (first
    | (go_at_call 32; refine hal.mono ?_; rintro e w1 ⟨rfl, b1⟩)
    | (go_at_call 34; refine (hri _ b1).mono ?_; rintro e w2 ⟨hres, b2⟩; rcases hres with ⟨l', q, cap', rfl, hperm, hstr, hN, hq⟩ | ⟨rfl, hno⟩))
  · have HN := hide hN
    have Hp := hide hperm
    have Hs := hide hstr
    have hbb := hide (below_sub b1 b2)
    have hb1 := b1.size
    clear hN hperm hstr hri b1 b2 hq
    go_wp2
    go_ret2
    exact ⟨⟨l', q, cap', rfl, unhide Hp, unhide Hs, (unhide HN).mono hb1⟩, unhide hbb⟩
  · exact absurd (unhide Hnd) hno
end Go.Proofs.Ytojeihchkdkkgab

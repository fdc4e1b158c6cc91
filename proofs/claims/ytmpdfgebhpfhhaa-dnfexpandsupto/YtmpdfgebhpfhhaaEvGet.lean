/- What schema.Get, slices.Contains and strings.HasPrefix return, at these programs' types. -/
import Derived.Test.YtmpdfgebhpfhhaaLeaves
import Derived.Test.YtmpdfgebhpfhhaaClone
namespace Go.Proofs.Ytmpdfgebhpfhhaa
open Go.RowKit Go.Sort

set_option maxHeartbeats 2000000 in
theorem join_any (op : Int) (q : Option Addr) (c : Nat) (kids : List Nd) (w : World) (hk : NdsOf w q c kids) (hwt : wtL kids ≤ 1000000000) :
    Calls Try.prog 29 #[.int .i64 op, .slice q kids.length c] w fun e w' => NewT w.heap.size w' (joinT op kids) e ∧ Below w.heap.size w w' := by
  have B0 := hide ((Below.refl w.heap.size w).alloc (Nat.le_refl _) (.cells #[.int .i64 0, .string ⟨#[]⟩, .slice none 0 0, .slice none 0 0, .int .i64 0, .int .i64 0, .int .i64 0, .slice none 0 0] 28))
  have hln := len_size kids
  have hln2 := sizeL_wt kids
  by_cases h0 : kids.length = 0
  · obtain rfl : kids = [] := List.length_eq_zero_iff.1 h0
    simp only [List.length_nil]
    clear hk h0 hln hln2
    go_enter Try.func29, Try.ntmps29
    go_wp2
    refine bodyPost_ret (v := .agg #[.int .i64 0, .string ⟨#[]⟩, .slice none 0 0, .slice none 0 0, .int .i64 0, .int .i64 0, .int .i64 0, .slice none 0 0]) (by simp [results, Try.results29, go_sem, *]) rfl ?_
    exact ⟨⟨⟨0, ⟨#[]⟩, none, 0, 0, none, 0, 0, 0, 0, 0, none, 0, 0⟩, rfl, NdFrom.make (ints := []) (words := []) (kids := []) (vs := []) (SlOf.none _) no_from (SlOf.none _) no_from (SlOf.none _) no_from rfl (fun j v x h => by simp at h)⟩, unhide B0⟩
  · have e0 : ((kids.length : Int) == 0) = false := by simpa using h0
    by_cases h1 : kids.length = 1
    · obtain ⟨x, rfl⟩ := List.length_eq_one_iff.1 h1
      obtain ⟨b, off, v, hq, hin, g0, g1, g2, g3, g4, g5, g6, g7⟩ := hk.on (j := 0) (x := x) rfl (unhide B0)
      subst hq
      have hcx := clone_any x v _ hin (by simp only [wtL] at hwt; omega)
      simp only [Nv.val] at hcx
      simp only [Nat.zero_mul, Nat.add_zero] at g0 g1 g2 g3 g4 g5 g6 g7
      simp only [List.length_cons, List.length_nil, Nat.zero_add, joinT]
      clear hk e0 h0 h1 hln hln2
      go_enter Try.func29, Try.ntmps29
      go_wp2_with (go_at_call 30; refine hcx.mono ?_; rintro e w1 ⟨v', rfl, f1, b1⟩; obtain ⟨z1, ⟨r0, r1, r2, r3, r4, r5, r6, r7⟩, rf⟩ := boxR b1; have F1 := hide f1; have B1 := hide b1; clear f1 b1)
      refine bodyPost_ret (v := .agg #[.int .i64 v'.kind, .string v'.attr, .slice v'.qi v'.ni v'.ci, .slice v'.qw v'.nw v'.cw, .int .i64 v'.lo, .int .i64 v'.hi, .int .i64 v'.op, .slice v'.qk v'.nk v'.ck]) (by simp [results, Try.results29, go_sem, *]) rfl ?_
      refine ⟨⟨v', rfl, ?_⟩, set8_below (below_sub (unhide B0) (unhide B1)) (Nat.le_refl _) _ _ _ _ _ _ _ _⟩
      have f2 := unhide F1
      simp only [World.size_alloc] at f2
      exact (f2.up (set8_up (B := w.heap.size + 1) (g := w.heap.size) _ (Nat.lt_succ_self _) _ _ _ _ _ _ _ _)).mono (Nat.le_succ _)
    · have e1 : ((kids.length : Int) == 1) = false := by simp; omega
      have hca := cloneAll_any q c kids _ (hk.below (unhide B0)) (fun x _ => clone_any x) hwt
      rw [joinT_many op (by omega)]
      clear hk
      go_enter Try.func29, Try.ntmps29
      go_wp2_with (go_at_call 49; refine hca.mono ?_; rintro e w1 ⟨⟨q1, k1, vs1, rfl, o1, l1, f1⟩, b1⟩; obtain ⟨z1, ⟨r0, r1, r2, r3, r4, r5, r6, r7⟩, rf⟩ := boxR b1; have F1 := hide f1; have B1 := hide b1; have O1 := hide o1; have L1 := hide l1; clear f1 b1 o1 l1)
      refine bodyPost_ret (v := .agg #[.int .i64 0, .string ⟨#[]⟩, .slice none 0 0, .slice none 0 0, .int .i64 0, .int .i64 0, .int .i64 op, .slice q1 kids.length k1]) (by simp [results, Try.results29, go_sem, *]) rfl ?_
      refine ⟨⟨⟨0, ⟨#[]⟩, none, 0, 0, none, 0, 0, 0, 0, op, q1, kids.length, k1⟩, rfl, ?_⟩, set8_below (below_sub (unhide B0) (unhide B1)) (Nat.le_refl _) _ _ _ _ _ _ _ _⟩
      have f2 := unhide F1
      simp only [World.size_alloc] at f2
      have g1 : ∀ a, q1 = some a → w.heap.size + 1 ≤ a.block := fun a e => by have := (unhide O1).from a e; simp at this; omega
      have u1 := fun a0 a1 a2 a3 a4 a5 a6 a7 => set8_up (B := w.heap.size + 1) (g := w.heap.size) w1 (Nat.lt_succ_self _) a0 a1 a2 a3 a4 a5 a6 a7
      exact (NdFrom.make (ints := []) (words := []) (kids := kids) (vs := vs1) (SlOf.none _) no_from (SlOf.none _) no_from ((unhide O1).ls.up g1 (u1 _ _ _ _ _ _ _ _)) g1 (unhide L1) (fun j v x hj hx => (f2 j v x hj hx).up (u1 _ _ _ _ _ _ _ _))).mono (Nat.le_succ _)
set_option maxHeartbeats 1000000 in
theorem and_any (q : Option Addr) (c : Nat) (kids : List Nd) (w : World) (hk : NdsOf w q c kids) (hwt : wtL kids ≤ 1000000000) :
    Calls Try.prog 11 #[.slice q kids.length c] w fun e w' => NewT w.heap.size w' (joinT 3 kids) e ∧ Below w.heap.size w w' := by
  have B0 := hide ((Below.refl w.heap.size w).alloc (Nat.le_refl _) (.cells #[.int .i64 0, .string ⟨#[]⟩, .slice none 0 0, .slice none 0 0, .int .i64 0, .int .i64 0, .int .i64 0, .slice none 0 0] 28))
  have hj := join_any 3 q c kids _ (hk.below (unhide B0)) hwt
  clear hk
  go_enter Try.func11, Try.ntmps11
  go_wp2_with (go_at_call 29; refine hj.mono ?_; rintro e w1 ⟨⟨v', rfl, f1⟩, b1⟩; simp only [Nv.val]; obtain ⟨z1, ⟨r0, r1, r2, r3, r4, r5, r6, r7⟩, rf⟩ := boxR b1; have F1 := hide f1; have B1 := hide b1; clear f1 b1)
  refine bodyPost_ret (v := .agg #[.int .i64 v'.kind, .string v'.attr, .slice v'.qi v'.ni v'.ci, .slice v'.qw v'.nw v'.cw, .int .i64 v'.lo, .int .i64 v'.hi, .int .i64 v'.op, .slice v'.qk v'.nk v'.ck]) (by simp [results, Try.results11, go_sem, *]) rfl ?_
  refine ⟨⟨v', rfl, ?_⟩, set8_below (below_sub (unhide B0) (unhide B1)) (Nat.le_refl _) _ _ _ _ _ _ _ _⟩
  have f2 := unhide F1
  simp only [World.size_alloc] at f2
  exact (f2.up (set8_up (B := w.heap.size + 1) (g := w.heap.size) _ (Nat.lt_succ_self _) _ _ _ _ _ _ _ _)).mono (Nat.le_succ _)
set_option maxHeartbeats 1000000 in
theorem or_any (q : Option Addr) (c : Nat) (kids : List Nd) (w : World) (hk : NdsOf w q c kids) (hwt : wtL kids ≤ 1000000000) :
    Calls Try.prog 12 #[.slice q kids.length c] w fun e w' => NewT w.heap.size w' (joinT 4 kids) e ∧ Below w.heap.size w w' := by
  have B0 := hide ((Below.refl w.heap.size w).alloc (Nat.le_refl _) (.cells #[.int .i64 0, .string ⟨#[]⟩, .slice none 0 0, .slice none 0 0, .int .i64 0, .int .i64 0, .int .i64 0, .slice none 0 0] 28))
  have hj := join_any 4 q c kids _ (hk.below (unhide B0)) hwt
  clear hk
  go_enter Try.func12, Try.ntmps12
  go_wp2_with (go_at_call 29; refine hj.mono ?_; rintro e w1 ⟨⟨v', rfl, f1⟩, b1⟩; simp only [Nv.val]; obtain ⟨z1, ⟨r0, r1, r2, r3, r4, r5, r6, r7⟩, rf⟩ := boxR b1; have F1 := hide f1; have B1 := hide b1; clear f1 b1)
  refine bodyPost_ret (v := .agg #[.int .i64 v'.kind, .string v'.attr, .slice v'.qi v'.ni v'.ci, .slice v'.qw v'.nw v'.cw, .int .i64 v'.lo, .int .i64 v'.hi, .int .i64 v'.op, .slice v'.qk v'.nk v'.ck]) (by simp [results, Try.results12, go_sem, *]) rfl ?_
  refine ⟨⟨v', rfl, ?_⟩, set8_below (below_sub (unhide B0) (unhide B1)) (Nat.le_refl _) _ _ _ _ _ _ _ _⟩
  have f2 := unhide F1
  simp only [World.size_alloc] at f2
  exact (f2.up (set8_up (B := w.heap.size + 1) (g := w.heap.size) _ (Nat.lt_succ_self _) _ _ _ _ _ _ _ _)).mono (Nat.le_succ _)
def notT (x : Nd) : Nd := .mk 0 ⟨#[]⟩ [] [] 0 0 2 [x]
set_option maxHeartbeats 4000000 in
theorem not_any (x : Nd) (v : Nv) (w : World) (hin : NdIn w v x) (hwt : wtN x ≤ 1000000000) :
    Calls Try.prog 13 #[v.val] w fun e w' => NewT w.heap.size w' (notT x) e ∧ Below w.heap.size w w' := by
  obtain ⟨X, HX⟩ : ∃ X, (w.alloc (.cells #[.int .i64 v.kind, .string v.attr, .slice v.qi v.ni v.ci, .slice v.qw v.nw v.cw, .int .i64 v.lo, .int .i64 v.hi, .int .i64 v.op, .slice v.qk v.nk v.ck] 28)).alloc (.cells #[.int .i64 0, .string ⟨#[]⟩, .slice none 0 0, .slice none 0 0, .int .i64 0, .int .i64 0, .int .i64 0, .slice none 0 0] 28) = X := ⟨_, rfl⟩
  have hXs : X.heap.size = w.heap.size + 2 := by rw [← HX]; simp
  have hwX : Below w.heap.size w X := by rw [← HX]; exact ((Below.refl _ _).alloc (Nat.le_refl _) _).alloc (by simp) _
  have hX0 : X.heap[w.heap.size]? = some (.cells #[.int .i64 v.kind, .string v.attr, .slice v.qi v.ni v.ci, .slice v.qw v.nw v.cw, .int .i64 v.lo, .int .i64 v.hi, .int .i64 v.op, .slice v.qk v.nk v.ck] 28 (0, 0)) := by rw [← HX, Below.heap_alloc _ _ _ (by simp)]; exact box_nw _ _
  have hX1 : X.heap[w.heap.size + 1]? = some (.cells #[.int .i64 0, .string ⟨#[]⟩, .slice none 0 0, .slice none 0 0, .int .i64 0, .int .i64 0, .int .i64 0, .slice none 0 0] 28 (0, 0)) := by rw [← HX, show w.heap.size + 1 = (w.alloc (.cells #[.int .i64 v.kind, .string v.attr, .slice v.qi v.ni v.ci, .slice v.qw v.nw v.cw, .int .i64 v.lo, .int .i64 v.hi, .int .i64 v.op, .slice v.qk v.nk v.ck] 28)).heap.size by simp]; exact box_nw _ _
  obtain ⟨x0, x1, x2, x3, x4, x5, x6, x7⟩ := of8' hX0
  have hcx := clone_any x v X (hin.keep hwX) hwt
  simp only [Nv.val] at hcx ⊢
  have HX1 := hide hX1
  have HWX := hide hwX
  clear hin hwX hX0 hX1
  go_enter Try.func13, Try.ntmps13
  go_wp2_with (go_at_call 30; refine hcx.mono ?_; rintro e w1 ⟨v', rfl, f1, b1⟩; have hh1 := (b1.block _ (by omega)).trans (unhide HX1); obtain ⟨r0, r1, r2, r3, r4, r5, r6, r7⟩ := of8' hh1; have rf := fun o => frozen_free (o := o) hh1; have hz1 : w.heap.size + 1 < w1.heap.size := (by have := b1.size; omega); have hz2 : ¬ w.heap.size + 1 = w1.heap.size := (by omega); have F1 := hide f1; have B1 := hide b1; clear f1 b1 hh1)
  refine bodyPost_ret (v := .agg #[.int .i64 0, .string ⟨#[]⟩, .slice none 0 0, .slice none 0 0, .int .i64 0, .int .i64 0, .int .i64 2, .slice (some ⟨w1.heap.size, 0, none⟩) 1 1]) (by simp [results, Try.results13, go_sem, *]) rfl ?_
  obtain ⟨W1, HW1⟩ : ∃ W1, (((((((w1.setCell ⟨w.heap.size + 1, 0, none⟩ (.int .i64 0)).setCell ⟨w.heap.size + 1, 1, none⟩ (.string ⟨#[]⟩)).setCell ⟨w.heap.size + 1, 2, none⟩ (.slice none 0 0)).setCell ⟨w.heap.size + 1, 3, none⟩ (.slice none 0 0)).setCell ⟨w.heap.size + 1, 4, none⟩ (.int .i64 0)).setCell ⟨w.heap.size + 1, 5, none⟩ (.int .i64 0)).setCell ⟨w.heap.size + 1, 6, none⟩ (.int .i64 2)).setCell ⟨w.heap.size + 1, 7, none⟩ (.slice (some ⟨w1.heap.size, 0, none⟩) 1 1) = W1 := ⟨_, rfl⟩
  have hW1s : W1.heap.size = w1.heap.size := by rw [← HW1]; simp
  have hW1u : SameUp (w.heap.size + 2) w1 W1 := by rw [← HW1]; exact set8_up (B := w.heap.size + 2) (g := w.heap.size + 1) w1 (Nat.lt_succ_self _) _ _ _ _ _ _ _ _
  have hW1b : Below w.heap.size w W1 := by rw [← HW1]; exact set8_below (below_sub (unhide HWX) (unhide B1)) (Nat.le_succ _) _ _ _ _ _ _ _ _
  rw [HW1]
  clear HW1
  obtain ⟨M, HM⟩ : ∃ M, W1.alloc (.cells #[.int .i64 v'.kind, .string v'.attr, .slice v'.qi v'.ni v'.ci, .slice v'.qw v'.nw v'.cw, .int .i64 v'.lo, .int .i64 v'.hi, .int .i64 v'.op, .slice v'.qk v'.nk v'.ck] 28) = M := ⟨_, rfl⟩
  have hM : M.heap[w1.heap.size]? = some (.cells #[.int .i64 v'.kind, .string v'.attr, .slice v'.qi v'.ni v'.ci, .slice v'.qw v'.nw v'.cw, .int .i64 v'.lo, .int .i64 v'.hi, .int .i64 v'.op, .slice v'.qk v'.nk v'.ck] 28 (0, 0)) := by rw [← HM, ← hW1s]; exact box_nw _ _
  have hwM : Below W1.heap.size W1 M := by rw [← HM]; exact (Below.refl _ _).alloc (Nat.le_refl _) _
  obtain ⟨m0, m1, m2, m3, m4, m5, m6, m7⟩ := of8' hM
  have hs : SlOf encV 8 M (some ⟨w1.heap.size, 0, none⟩) 1 [v'] := ⟨(fun h => by cases h), Nat.le_refl _, (by unfold maxLen; omega), LsOf.one (by have := (Array.getElem?_eq_some_iff.1 hM).1; exact this) (fun c hc => by
    have hm : c = 0 ∨ c = 1 ∨ c = 2 ∨ c = 3 ∨ c = 4 ∨ c = 5 ∨ c = 6 ∨ c = 7 := (by omega)
    rcases hm with e | e | e | e | e | e | e | e <;> rw [e] <;> assumption)⟩
  have hg : ∀ a : Addr, some (⟨w1.heap.size, 0, none⟩ : Addr) = some a → w.heap.size + 2 ≤ a.block := fun a e => by cases e; show w.heap.size + 2 ≤ w1.heap.size; omega
  have hf := (((unhide F1).mono (show w.heap.size + 2 ≤ X.heap.size by omega)).up hW1u).keep hwM
  rw [HM]
  refine ⟨⟨⟨0, ⟨#[]⟩, none, 0, 0, none, 0, 0, 0, 0, 2, some ⟨w1.heap.size, 0, none⟩, 1, 1⟩, rfl, ?_⟩, below_sub hW1b hwM⟩
  exact (NdFrom.make (ints := []) (words := []) (kids := [x]) (vs := [v']) (SlOf.none _) no_from (SlOf.none _) no_from hs hg rfl (fun j y z hj hx => by
    cases j with
    | zero => cases hj; cases hx; exact hf
    | succ j => simp at hj)).mono (by omega)
end Go.Proofs.Ytmpdfgebhpfhhaa
namespace Go.Proofs.Ytmpdfgebhpfhhaa
open Go.RowKit Go.Sort

structure Pr where
  name : ByteArray
  kind : Int
  int : Int
  word : ByteArray
instance : Inhabited Pr := ⟨⟨⟨#[]⟩, 0, 0, ⟨#[]⟩⟩⟩
def encP (x : Pr) : List Value := [.string x.name, .int .i64 x.kind, .int .i64 x.int, .string x.word]
theorem prsAt {w : World} {q : Option Addr} {c : Nat} {l : List Pr} {j : Nat} {x : Pr} (h : SlOf encP 4 w q c l) (hj : l[j]? = some x) : ∃ b off, q = some ⟨b, off, none⟩ ∧ b < w.heap.size ∧ w.cell? ⟨b, off + j * 4, none⟩ = some (.string x.name) ∧ w.cell? ⟨b, off + j * 4 + 1, none⟩ = some (.int .i64 x.kind) ∧ w.cell? ⟨b, off + j * 4 + 2, none⟩ = some (.int .i64 x.int) ∧ w.cell? ⟨b, off + j * 4 + 3, none⟩ = some (.string x.word) := by
  obtain ⟨b, off, hq, hb, hc⟩ := h.2.2.2.at hj
  exact ⟨b, off, hq, hb, hc 0 (by decide), hc 1 (by decide), hc 2 (by decide), hc 3 (by decide)⟩
/-- The first pair of that name. -/
def getP (s : ByteArray) : List Pr → Option Pr
  | [] => none
  | x :: xs => if x.name.toList == s.toList then some x else getP s xs
theorem get_yes {l : List Pr} {s : ByteArray} {k : Nat} {x : Pr} (h : getP s l = getP s (l.drop k)) (hd : l.drop k = x :: l.drop (k + 1)) (hq : (x.name.toList == s.toList) = true) : getP s l = some x := by rw [h, hd]; simp [getP, hq]
theorem get_no {l : List Pr} {s : ByteArray} {k : Nat} {x : Pr} (h : getP s l = getP s (l.drop k)) (hd : l.drop k = x :: l.drop (k + 1)) (hq : (x.name.toList == s.toList) = false) : getP s l = getP s (l.drop (k + 1)) := by rw [h, hd]; simp [getP, hq]
theorem get_end {l : List Pr} {s : ByteArray} {k : Nat} (h : getP s l = getP s (l.drop k)) (hk : ¬ k < l.length) : getP s l = none := by rw [h, List.drop_eq_nil_of_le (by omega)]; rfl
def getV (o : Option Pr) : Value :=
  match o with
  | some y => .tuple #[.agg #[.int .i64 y.kind, .int .i64 y.int, .string y.word], .bool true]
  | none => .tuple #[.agg #[.int .i64 0, .int .i64 0, .string ⟨#[]⟩], .bool false]

/-- The block b holds one value, and may be written. -/
def Box (w : World) (b : Nat) (x : Int × Int × ByteArray) : Prop :=
  w.cell? ⟨b, 0, none⟩ = some (.int .i64 x.1) ∧ w.cell? ⟨b, 1, none⟩ = some (.int .i64 x.2.1) ∧ w.cell? ⟨b, 2, none⟩ = some (.string x.2.2) ∧ (∀ o, w.frozen? ⟨b, o, none⟩ = false) ∧ b < w.heap.size
theorem Box.below {w w' : World} {b : Nat} {x : Int × Int × ByteArray} (h : Box w b x) (hb : Below w.heap.size w w') : Box w' b x := by
  obtain ⟨h1, h2, h3, h4, h5⟩ := h
  exact ⟨(hb.cell (by exact h5)).trans h1, (hb.cell (by exact h5)).trans h2, (hb.cell (by exact h5)).trans h3, fun o => (hb.frozen (by exact h5)).trans (h4 o), Nat.lt_of_lt_of_le h5 hb.size⟩
def put3 (w : World) (b : Nat) (y : Int × Int × ByteArray) : World := ((w.setCell ⟨b, 0, none⟩ (.int .i64 y.1)).setCell ⟨b, 1, none⟩ (.int .i64 y.2.1)).setCell ⟨b, 2, none⟩ (.string y.2.2)
theorem below_put3 {B : Nat} (w : World) (b : Nat) (y : Int × Int × ByteArray) (h : B ≤ b) : Below B w (put3 w b y) :=
  (((Below.refl _ _).setCell h _).setCell h _).setCell h _
theorem Box.put {w : World} {b : Nat} {x : Int × Int × ByteArray} (h : Box w b x) (y : Int × Int × ByteArray) : Box (put3 w b y) b y := by
  obtain ⟨h1, h2, h3, h4, h5⟩ := h
  unfold put3
  refine ⟨?_, ?_, ?_, fun o => ?_, ?_⟩
  · go_simp
  · go_simp
  · go_simp
  · go_simp
  · simpa [World.setCell] using h5
theorem Box.new (w : World) (x : Int × Int × ByteArray) (t : TypeId) : Box (w.alloc (.cells #[.int .i64 x.1, .int .i64 x.2.1, .string x.2.2] t)) w.heap.size x := by
  refine ⟨?_, ?_, ?_, fun o => ?_, by simp⟩ <;> simp
theorem Box.alloc {w : World} {b : Nat} {x : Int × Int × ByteArray} (h : Box w b x) (o : Obj) : Box (w.alloc o) b x := h.below ((Below.refl _ _).alloc (Nat.le_refl _) _)

set_option maxHeartbeats 1000000 in
theorem get_any (p : Option Addr) (cap : Nat) (l : List Pr) (s : ByteArray) (w : World) (hm : l.length ≤ 140737488355328) (hA : SlOf encP 4 w p cap l) :
    Calls Try.prog 52 #[.slice p l.length cap, .string s] w fun e w' => e = .returned (getV (getP s l)) ∧ Below w.heap.size w w' := by
  have HA := hide hA
  clear hA
  go_enter Try.func52, Try.ntmps52
  go_wp2
  go_loopw [10] (fun i wr => ∃ k : Nat, k ≤ l.length ∧ i = .int .i64 k ∧ Below w.heap.size w wr ∧ Box wr w.heap.size (0, 0, ⟨#[]⟩) ∧ getP s l = getP s (l.drop k)) (fun i _ => l.length - (intOf i).toNat)
  case atStart => exact ⟨0, by omega, rfl, (Below.refl _ _).alloc (Nat.le_refl _) _, Box.new w (0, 0, ⟨#[]⟩) 41, by simp⟩
  case round =>
    obtain ⟨k, hk, rfl, hbel, hbox, heq⟩ := hrel
    have Heq := hide heq
    clear heq
    by_cases hlt : k < l.length
    · obtain ⟨x, hx, hd⟩ := get_at hlt
      obtain ⟨bb, off, rfl, hbb, g0, g1, g2, g3⟩ := prsAt ((unhide HA).below hbel) hx
      have Hd := hide hd
      clear hd
      have ki0 : (0 : Int) ≤ (k : Int) := by omega
      have ki1 : (k : Int) < (l.length : Int) := by omega
      have Hx := hide hx
      clear hx
      cases hq : (x.name.toList == s.toList) with
      | true =>
        have Hy := hide (get_yes (unhide Heq) (unhide Hd) hq)
        have Hb := hide hbox
        obtain ⟨r0, r1, r2, fr0, sz0⟩ := hbox
        simp only at r0 r1 r2
        go_wp2
        obtain ⟨z0, z1, z2, _, _⟩ := ((unhide Hb).put (x.kind, x.int, x.word)).alloc (.cells #[.string x.name, .int .i64 x.kind, .int .i64 x.int, .string x.word] 43)
        unfold put3 at z0 z1 z2
        refine bodyPost_ret (v := .tuple #[.agg #[.int .i64 x.kind, .int .i64 x.int, .string x.word], .bool true]) (by simp [results, Try.results52, go_sem, z0, z1, z2]) rfl ⟨by rw [unhide Hy]; rfl, ?_⟩
        have hq2 := hbel.trans (below_put3 wr w.heap.size (x.kind, x.int, x.word) (Nat.le_refl _))
        exact hq2.alloc hq2.size _
      | false =>
        have Hy := hide (get_no (unhide Heq) (unhide Hd) hq)
        have Hb := hide (hbox.alloc (.cells #[.string x.name, .int .i64 x.kind, .int .i64 x.int, .string x.word] 43))
        clear hbox
        go_wp2
        go_roundw
        case rel => exact ⟨k + 1, by omega, by go_num, hbel.alloc hbel.size _, unhide Hb, unhide Hy⟩
        case measure => simp [intOf]; omega
    · obtain rfl : k = l.length := by omega
      have Hy := hide (get_end (unhide Heq) hlt)
      have Hb := hide hbox
      obtain ⟨r0, r1, r2, fr0, sz0⟩ := hbox
      simp only at r0 r1 r2
      go_wp2
      have hb3 := (unhide Hb).put (0, 0, ⟨#[]⟩)
      obtain ⟨z0, z1, z2, _, _⟩ := hb3
      unfold put3 at z0 z1 z2
      refine bodyPost_ret (v := .tuple #[.agg #[.int .i64 0, .int .i64 0, .string ⟨#[]⟩], .bool false]) (by simp [results, Try.results52, go_sem, r0, r1, r2]) rfl ⟨by rw [unhide Hy]; rfl, ?_⟩
      exact hbel.trans (below_put3 _ w.heap.size (0, 0, ⟨#[]⟩) (Nat.le_refl _))

/-- Is it among them? -/
def hasI (v : Int) (l : List Int) : Bool := l.any (fun x => v == x)
def hasS (v : ByteArray) (l : List ByteArray) : Bool := l.any (fun x => v.toList == x.toList)
theorem any_yes {α : Type} {f : α → Bool} {l : List α} {k : Nat} {x : α} (hx : l[k]? = some x) (h : f x = true) : l.any f = true := List.any_eq_true.2 ⟨x, List.mem_of_getElem? hx, h⟩
theorem any_none {α : Type} {f : α → Bool} {l : List α} (h : ∀ (j : Nat) (x : α), j < l.length → l[j]? = some x → f x = false) : l.any f = false := by
  apply List.any_eq_false.2
  intro x hx
  obtain ⟨j, hj, rfl⟩ := List.getElem_of_mem hx
  simp [h j _ hj (List.getElem?_eq_getElem hj)]
set_option maxRecDepth 100000 in
set_option maxHeartbeats 1000000 in
theorem indexI (q : Option Addr) (c : Nat) (l : List Int) (v : Int) (w : World) (hl : l.length ≤ 140737488355328) (h : SlOf encI 1 w q c l) :
    Calls Try.prog 76 #[.slice q l.length c, .int .i64 v] w fun e w' => (∃ n : Int, e = .returned (.int .i64 n) ∧ decide (0 ≤ n) = hasI v l) ∧ Below w.heap.size w w' := by
  have HA := hide h
  clear h
  go_enter Try.func76, Try.ntmps76
  go_wp2
  go_loopw [8] (fun i wr => ∃ k : Nat, k ≤ l.length ∧ i = .int .i64 k ∧ Below w.heap.size w wr ∧ (∀ (j : Nat) (x : Int), j < k → l[j]? = some x → (v == x) = false)) (fun i _ => l.length - (intOf i).toNat)
  case atStart => exact ⟨0, by omega, rfl, Below.refl _ _, fun j x hj => by omega⟩
  case round =>
    obtain ⟨k, hk, rfl, hbel, hno⟩ := hrel
    have HNo := hide hno
    clear hno
    by_cases hlt : k < l.length
    · obtain ⟨x, hx, hd⟩ := get_at hlt
      clear hd
      obtain ⟨bb, off, rfl, hbb, g0⟩ := intsAt ((unhide HA).below hbel) hx
      have ki0 : (0 : Int) ≤ (k : Int) := by omega
      have ki1 : (k : Int) < (l.length : Int) := by omega
      have Hx := hide hx
      clear hx
      cases hq : (v == x) with
      | true =>
        go_wp2
        go_ret
        exact ⟨⟨_, rfl, by rw [show hasI v l = true from any_yes (unhide Hx) hq]; simp⟩, hbel⟩
      | false =>
        have HN2 : Hid (∀ (j : Nat) (y : Int), j < k + 1 → l[j]? = some y → (v == y) = false) := hide (fun j y hj hy => by
          by_cases e : j = k
          · subst e; rw [unhide Hx] at hy; cases hy; exact hq
          · exact unhide HNo j y (by omega) hy)
        go_wp2
        go_roundw
        case rel => exact ⟨k + 1, by omega, by go_num, hbel, unhide HN2⟩
        case measure => simp [intOf]; omega
    · have ki1 : ¬ (k : Int) < (l.length : Int) := by omega
      have HE := hide (show hasI v l = false from any_none (fun j x hj hx => unhide HNo j x (by omega) hx))
      go_wp2
      go_ret
      exact ⟨⟨_, rfl, by rw [unhide HE]; decide⟩, hbel⟩
theorem containsI (q : Option Addr) (c : Nat) (l : List Int) (v : Int) (w : World) (hl : l.length ≤ 140737488355328) (h : SlOf encI 1 w q c l) :
    Calls Try.prog 54 #[.slice q l.length c, .int .i64 v] w fun e w' => e = .returned (.bool (hasI v l)) ∧ Below w.heap.size w w' := by
  have hi := indexI q c l v w hl h
  clear h
  go_enter Try.func54, Try.ntmps54
  go_wp2_with (go_at_call 76; refine hi.mono ?_; rintro e w1 ⟨⟨n, rfl, hn⟩, b1⟩; have HN := hide hn; have B1 := hide b1; clear hn b1)
  all_goals
    go_ret
    exact ⟨ret_bool (by rw [← unhide HN]), unhide B1⟩
set_option maxRecDepth 100000 in
set_option maxHeartbeats 1000000 in
theorem indexS (q : Option Addr) (c : Nat) (l : List ByteArray) (v : ByteArray) (w : World) (hl : l.length ≤ 140737488355328) (h : SlOf encS 1 w q c l) :
    Calls Try.prog 77 #[.slice q l.length c, .string v] w fun e w' => (∃ n : Int, e = .returned (.int .i64 n) ∧ decide (0 ≤ n) = hasS v l) ∧ Below w.heap.size w w' := by
  have HA := hide h
  clear h
  go_enter Try.func77, Try.ntmps77
  go_wp2
  go_loopw [8] (fun i wr => ∃ k : Nat, k ≤ l.length ∧ i = .int .i64 k ∧ Below w.heap.size w wr ∧ (∀ (j : Nat) (x : ByteArray), j < k → l[j]? = some x → (v.toList == x.toList) = false)) (fun i _ => l.length - (intOf i).toNat)
  case atStart => exact ⟨0, by omega, rfl, Below.refl _ _, fun j x hj => by omega⟩
  case round =>
    obtain ⟨k, hk, rfl, hbel, hno⟩ := hrel
    have HNo := hide hno
    clear hno
    by_cases hlt : k < l.length
    · obtain ⟨x, hx, hd⟩ := get_at hlt
      clear hd
      obtain ⟨bb, off, rfl, hbb, g0⟩ := wordsAt ((unhide HA).below hbel) hx
      have ki0 : (0 : Int) ≤ (k : Int) := by omega
      have ki1 : (k : Int) < (l.length : Int) := by omega
      have Hx := hide hx
      clear hx
      cases hq : (v.toList == x.toList) with
      | true =>
        go_wp2
        go_ret
        exact ⟨⟨_, rfl, by rw [show hasS v l = true from any_yes (unhide Hx) hq]; simp⟩, hbel⟩
      | false =>
        have HN2 : Hid (∀ (j : Nat) (y : ByteArray), j < k + 1 → l[j]? = some y → (v.toList == y.toList) = false) := hide (fun j y hj hy => by
          by_cases e : j = k
          · subst e; rw [unhide Hx] at hy; cases hy; exact hq
          · exact unhide HNo j y (by omega) hy)
        go_wp2
        go_roundw
        case rel => exact ⟨k + 1, by omega, by go_num, hbel, unhide HN2⟩
        case measure => simp [intOf]; omega
    · have ki1 : ¬ (k : Int) < (l.length : Int) := by omega
      have HE := hide (show hasS v l = false from any_none (fun j x hj hx => unhide HNo j x (by omega) hx))
      go_wp2
      go_ret
      exact ⟨⟨_, rfl, by rw [unhide HE]; decide⟩, hbel⟩
theorem containsS (q : Option Addr) (c : Nat) (l : List ByteArray) (v : ByteArray) (w : World) (hl : l.length ≤ 140737488355328) (h : SlOf encS 1 w q c l) :
    Calls Try.prog 55 #[.slice q l.length c, .string v] w fun e w' => e = .returned (.bool (hasS v l)) ∧ Below w.heap.size w w' := by
  have hi := indexS q c l v w hl h
  clear h
  go_enter Try.func55, Try.ntmps55
  go_wp2_with (go_at_call 77; refine hi.mono ?_; rintro e w1 ⟨⟨n, rfl, hn⟩, b1⟩; have HN := hide hn; have B1 := hide b1; clear hn b1)
  all_goals
    go_ret
    exact ⟨ret_bool (by rw [← unhide HN]), unhide B1⟩
def prefB (s p : ByteArray) : Bool := decide (p.size ≤ s.size) && ((s.extract 0 p.size).toList == p.toList)
set_option maxHeartbeats 1000000 in
theorem hasPrefix_lite (s p : ByteArray) (w : World) : Calls Try.prog 78 #[.string s, .string p] w fun e w' => e = .returned (.bool (prefB s p)) ∧ Below w.heap.size w w' := by
  by_cases hl : p.size ≤ s.size
  · have h1 : (p.size : Int) ≤ (s.size : Int) := by omega
    go_enter Try.func78, Try.ntmps78
    go_wp2
    go_ret
    exact ⟨ret_bool (by simp [prefB, hl]), Below.refl _ _⟩
  · have h1 : ¬ (p.size : Int) ≤ (s.size : Int) := by omega
    go_enter Try.func78, Try.ntmps78
    go_wp2
    go_ret
    exact ⟨ret_bool (by simp [prefB, hl]), Below.refl _ _⟩
theorem hasPrefix_any (s p : ByteArray) (w : World) : Calls Try.prog 56 #[.string s, .string p] w fun e w' => e = .returned (.bool (prefB s p)) ∧ Below w.heap.size w w' := by
  have hi := hasPrefix_lite s p w
  generalize prefB s p = r at hi ⊢
  go_enter Try.func56, Try.ntmps56
  go_wp2_with (go_at_call 78; refine hi.mono ?_; rintro e w1 ⟨rfl, b1⟩; have B1 := hide b1; clear b1)
  go_ret
  exact ⟨rfl, unhide B1⟩
end Go.Proofs.Ytmpdfgebhpfhhaa

/- What the law EvalRules needs: the constructors and the evaluator on small trees. -/
import Derived.Test.YtkpdhkdegoincaaEvFixed
import Derived.Test.YtkpdhkdegoincaaJoin
import Derived.Test.YtkpdhkdegoincaaFixPlain
import Derived.Test.YtkpdhkdegoincaaRefCheck
import Derived.Test.YtkpdhkdegoincaaMemNode
import Derived.OrdersHeld
import Derived.Deep.RegionHeld
import Derived.Deep.Cut
import Derived.Deep.RegionHeld3
import Derived.Lib.QuietBelow
import Derived.BigQuiet
namespace Go.Proofs.Ytkpdhkdegoincaa
open Go.RowKit Go.Sort

theorem nb2 (op : Int) (h : op = 3 ∨ op = 4) : nodeB 0 ⟨#[]⟩ [] [] 0 0 op 2 = true := by rcases h with rfl | rfl <;> decide +kernel
theorem nb3 (op : Int) (h : op = 3 ∨ op = 4) : nodeB 0 ⟨#[]⟩ [] [] 0 0 op 3 = true := by rcases h with rfl | rfl <;> decide +kernel
theorem nb1 : nodeB 0 ⟨#[]⟩ [] [] 0 0 2 1 = true := by decide +kernel
theorem ck2 (op : Int) (h : op = 3 ∨ op = 4) (p q : Nd) (hp : chkN p = true) (hq : chkN q = true) : chkN (joinT op [p, q]) = true := by
  simp [joinT, chkN, chkL, nb2 op h, hp, hq]
theorem ck3 (op : Int) (h : op = 3 ∨ op = 4) (p q r : Nd) (hp : chkN p = true) (hq : chkN q = true) (hr : chkN r = true) : chkN (joinT op [p, q, r]) = true := by
  simp [joinT, chkN, chkL, nb3 op h, hp, hq, hr]
theorem ckN (p : Nd) (hp : chkN p = true) : chkN (notT p) = true := by
  simp [notT, chkN, chkL, nb1, hp]
theorem tA2 (ev : List Pr) (p q : Nd) : truN ev (joinT 3 [p, q]) = (truN ev p && truN ev q) := by simp [joinT, truN, allT]
theorem tO2 (ev : List Pr) (p q : Nd) : truN ev (joinT 4 [p, q]) = (truN ev p || truN ev q) := by simp [joinT, truN, anyT]
theorem tA3 (ev : List Pr) (p q r : Nd) : truN ev (joinT 3 [p, q, r]) = (truN ev p && (truN ev q && truN ev r)) := by simp [joinT, truN, allT]
theorem tO3 (ev : List Pr) (p q r : Nd) : truN ev (joinT 4 [p, q, r]) = (truN ev p || (truN ev q || truN ev r)) := by simp [joinT, truN, anyT]
theorem tN (ev : List Pr) (p : Nd) : truN ev (notT p) = !truN ev p := by simp [notT, truN, anyT]
theorem w2 (op : Int) (p q : Nd) : wtN (joinT op [p, q]) ≤ wtN p + wtN q + 1 := by
  have e : (⟨#[]⟩ : ByteArray).size = 0 := rfl
  simp only [joinT, wtN, wtL, wordsWt, List.length_nil, e]; omega
theorem w3 (op : Int) (p q r : Nd) : wtN (joinT op [p, q, r]) ≤ wtN p + wtN q + wtN r + 1 := by
  have e : (⟨#[]⟩ : ByteArray).size = 0 := rfl
  simp only [joinT, wtN, wtL, wordsWt, List.length_nil, e]; omega
theorem w1 (p : Nd) : wtN (notT p) ≤ wtN p + 1 := by
  have e : (⟨#[]⟩ : ByteArray).size = 0 := rfl
  simp only [notT, wtN, wtL, wordsWt, List.length_nil, e]; omega
theorem nds_two {w : World} {M : Nat} {v1 v2 : Nv} {x1 x2 : Nd} (h : w.heap[M]? = some (.cells #[.int .i64 v1.kind, .string v1.attr, .slice v1.qi v1.ni v1.ci, .slice v1.qw v1.nw v1.cw, .int .i64 v1.lo, .int .i64 v1.hi, .int .i64 v1.op, .slice v1.qk v1.nk v1.ck, .int .i64 v2.kind, .string v2.attr, .slice v2.qi v2.ni v2.ci, .slice v2.qw v2.nw v2.cw, .int .i64 v2.lo, .int .i64 v2.hi, .int .i64 v2.op, .slice v2.qk v2.nk v2.ck] 31 (0, 0))) (h1 : NdIn w v1 x1) (h2 : NdIn w v2 x2) : NdsOf w (some ⟨M, 0, none⟩) 2 [x1, x2] :=
  ⟨[v1, v2], of_block (vs := [v1, v2]) h (by rw [flat_2]; rfl) (by simp), rfl, fun j u y hj hy => by
    match j, hj, hy with
    | 0, hj, hy => cases hj; cases hy; exact h1
    | 1, hj, hy => cases hj; cases hy; exact h2⟩
theorem nds_three {w : World} {M : Nat} {v1 v2 v3 : Nv} {x1 x2 x3 : Nd} (h : w.heap[M]? = some (.cells #[.int .i64 v1.kind, .string v1.attr, .slice v1.qi v1.ni v1.ci, .slice v1.qw v1.nw v1.cw, .int .i64 v1.lo, .int .i64 v1.hi, .int .i64 v1.op, .slice v1.qk v1.nk v1.ck, .int .i64 v2.kind, .string v2.attr, .slice v2.qi v2.ni v2.ci, .slice v2.qw v2.nw v2.cw, .int .i64 v2.lo, .int .i64 v2.hi, .int .i64 v2.op, .slice v2.qk v2.nk v2.ck, .int .i64 v3.kind, .string v3.attr, .slice v3.qi v3.ni v3.ci, .slice v3.qw v3.nw v3.cw, .int .i64 v3.lo, .int .i64 v3.hi, .int .i64 v3.op, .slice v3.qk v3.nk v3.ck] 31 (0, 0))) (h1 : NdIn w v1 x1) (h2 : NdIn w v2 x2) (h3 : NdIn w v3 x3) : NdsOf w (some ⟨M, 0, none⟩) 3 [x1, x2, x3] :=
  ⟨[v1, v2, v3], of_block (vs := [v1, v2, v3]) h (by rw [flat_3]; rfl) (by simp), rfl, fun j u y hj hy => by
    match j, hj, hy with
    | 0, hj, hy => cases hj; cases hy; exact h1
    | 1, hj, hy => cases hj; cases hy; exact h2
    | 2, hj, hy => cases hj; cases hy; exact h3⟩
theorem wl2 (p q : Nd) : wtL [p, q] ≤ wtN p + wtN q + 2 := by simp only [wtL]; omega
theorem wl3 (p q r : Nd) : wtL [p, q, r] ≤ wtN p + wtN q + wtN r + 3 := by simp only [wtL]; omega
theorem cNot (x : Nd) (v : Nv) (w : World) (h : NdIn w v x) (hw : wtN x ≤ 400000000) : Calls Try.prog 21 #[.agg #[.int .i64 v.kind, .string v.attr, .slice v.qi v.ni v.ci, .slice v.qw v.nw v.cw, .int .i64 v.lo, .int .i64 v.hi, .int .i64 v.op, .slice v.qk v.nk v.ck]] w fun e w' => NewT w.heap.size w' (notT x) e ∧ Below w.heap.size w w' := not_any x v w h (by omega)
theorem cAnd (x y : Nd) (v u : Nv) (M : Nat) (w : World) (hM : w.heap[M]? = some (.cells #[.int .i64 v.kind, .string v.attr, .slice v.qi v.ni v.ci, .slice v.qw v.nw v.cw, .int .i64 v.lo, .int .i64 v.hi, .int .i64 v.op, .slice v.qk v.nk v.ck, .int .i64 u.kind, .string u.attr, .slice u.qi u.ni u.ci, .slice u.qw u.nw u.cw, .int .i64 u.lo, .int .i64 u.hi, .int .i64 u.op, .slice u.qk u.nk u.ck] 31 (0, 0))) (h1 : NdIn w v x) (h2 : NdIn w u y) (hw : wtN x + wtN y ≤ 400000000) : Calls Try.prog 19 #[.slice (some ⟨M, 0, none⟩) 2 2] w fun e w' => NewT w.heap.size w' (joinT 3 [x, y]) e ∧ Below w.heap.size w w' := and_any (some ⟨M, 0, none⟩) 2 [x, y] w (nds_two hM h1 h2) (by have := wl2 x y; omega)
theorem cOr (x y : Nd) (v u : Nv) (M : Nat) (w : World) (hM : w.heap[M]? = some (.cells #[.int .i64 v.kind, .string v.attr, .slice v.qi v.ni v.ci, .slice v.qw v.nw v.cw, .int .i64 v.lo, .int .i64 v.hi, .int .i64 v.op, .slice v.qk v.nk v.ck, .int .i64 u.kind, .string u.attr, .slice u.qi u.ni u.ci, .slice u.qw u.nw u.cw, .int .i64 u.lo, .int .i64 u.hi, .int .i64 u.op, .slice u.qk u.nk u.ck] 31 (0, 0))) (h1 : NdIn w v x) (h2 : NdIn w u y) (hw : wtN x + wtN y ≤ 400000000) : Calls Try.prog 20 #[.slice (some ⟨M, 0, none⟩) 2 2] w fun e w' => NewT w.heap.size w' (joinT 4 [x, y]) e ∧ Below w.heap.size w w' := or_any (some ⟨M, 0, none⟩) 2 [x, y] w (nds_two hM h1 h2) (by have := wl2 x y; omega)
theorem cAnd3 (x y z : Nd) (v u t : Nv) (M : Nat) (w : World) (hM : w.heap[M]? = some (.cells #[.int .i64 v.kind, .string v.attr, .slice v.qi v.ni v.ci, .slice v.qw v.nw v.cw, .int .i64 v.lo, .int .i64 v.hi, .int .i64 v.op, .slice v.qk v.nk v.ck, .int .i64 u.kind, .string u.attr, .slice u.qi u.ni u.ci, .slice u.qw u.nw u.cw, .int .i64 u.lo, .int .i64 u.hi, .int .i64 u.op, .slice u.qk u.nk u.ck, .int .i64 t.kind, .string t.attr, .slice t.qi t.ni t.ci, .slice t.qw t.nw t.cw, .int .i64 t.lo, .int .i64 t.hi, .int .i64 t.op, .slice t.qk t.nk t.ck] 31 (0, 0))) (h1 : NdIn w v x) (h2 : NdIn w u y) (h3 : NdIn w t z) (hw : wtN x + wtN y + wtN z ≤ 400000000) : Calls Try.prog 19 #[.slice (some ⟨M, 0, none⟩) 3 3] w fun e w' => NewT w.heap.size w' (joinT 3 [x, y, z]) e ∧ Below w.heap.size w w' := and_any (some ⟨M, 0, none⟩) 3 [x, y, z] w (nds_three hM h1 h2 h3) (by have := wl3 x y z; omega)
theorem cOr3 (x y z : Nd) (v u t : Nv) (M : Nat) (w : World) (hM : w.heap[M]? = some (.cells #[.int .i64 v.kind, .string v.attr, .slice v.qi v.ni v.ci, .slice v.qw v.nw v.cw, .int .i64 v.lo, .int .i64 v.hi, .int .i64 v.op, .slice v.qk v.nk v.ck, .int .i64 u.kind, .string u.attr, .slice u.qi u.ni u.ci, .slice u.qw u.nw u.cw, .int .i64 u.lo, .int .i64 u.hi, .int .i64 u.op, .slice u.qk u.nk u.ck, .int .i64 t.kind, .string t.attr, .slice t.qi t.ni t.ci, .slice t.qw t.nw t.cw, .int .i64 t.lo, .int .i64 t.hi, .int .i64 t.op, .slice t.qk t.nk t.ck] 31 (0, 0))) (h1 : NdIn w v x) (h2 : NdIn w u y) (h3 : NdIn w t z) (hw : wtN x + wtN y + wtN z ≤ 400000000) : Calls Try.prog 20 #[.slice (some ⟨M, 0, none⟩) 3 3] w fun e w' => NewT w.heap.size w' (joinT 4 [x, y, z]) e ∧ Below w.heap.size w w' := or_any (some ⟨M, 0, none⟩) 3 [x, y, z] w (nds_three hM h1 h2 h3) (by have := wl3 x y z; omega)
theorem cEv (t : Nd) (v : Nv) (qe : Option Addr) (ce : Nat) (ev : List Pr) (w : World) (B : Bool) (hin : NdIn w v t) (he : SlOf encP 4 w qe ce ev) (hc : chkN t = true) (hB : truN ev t = B) (hwt : wtN t ≤ 400000000) (l3 : ev.length ≤ 100000000000000) :
    Calls Try.prog 8 #[.agg #[.int .i64 v.kind, .string v.attr, .slice v.qi v.ni v.ci, .slice v.qw v.nw v.cw, .int .i64 v.lo, .int .i64 v.hi, .int .i64 v.op, .slice v.qk v.nk v.ck], .slice qe ev.length ce] w fun e w' => e = .returned (.bool B) ∧ Below w.heap.size w w' := by
  have h := eval_any t v qe ce ev w hin he (by omega) l3
  unfold evalN at h
  rw [hc, hB, Bool.true_and] at h
  exact h
theorem one_nw {w Y : World} {o : Obj} (h : Y = w.alloc o) : Y.heap[w.heap.size]? = some o ∧ Below w.heap.size w Y ∧ Y.heap.size = w.heap.size + 1 := by
  subst h
  exact ⟨box_nw _ _, (Below.refl _ _).alloc (Nat.le_refl _) _, by simp⟩
/-- The walk of a drawn region, seen as a predicate of what has come up. -/
theorem dp_start {P : Program} {md : Region.Mode} {ops : Array Oper} {Q : Exit → Act → World → Prop} {S : World → Prop} {fuel : Nat} {listed : Array Bool} {a : Act} {w : World} (h : ∀ F : Nat → Array Bool → Act → World → Prop, (∀ n l a w, F n l a w = wpAnyH P md ops Q S n l a w) → F fuel listed a w) : wpAnyH P md ops Q S fuel listed a w :=
  h (fun n l a w => wpAnyH P md ops Q S n l a w) (fun _ _ _ _ => rfl)
theorem dp_to {F : Nat → Array Bool → Act → World → Prop} {n : Nat} {l l' : Array Bool} {a a' : Act} {w : World} (h : F n l' a' w) (hl : l' = l) (ha : a' = a) : F n l a w := by subst hl ha; exact h
end Go.Proofs.Ytkpdhkdegoincaa

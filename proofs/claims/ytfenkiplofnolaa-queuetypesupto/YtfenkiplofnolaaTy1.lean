/- Queues of numbers, of texts and of items side by side. -/
import Derived.Test.YtfenkiplofnolaaOps
import Derived.Test.YtfenkiplofnolaaNm
import Derived.Test.YtfenkiplofnolaaPT
import Derived.Lib.SliceRun
namespace Go.Proofs.Ytfenkiplofnolaa
open Go.RowKit Go.Sort

theorem neqT (s : ByteArray) (n : Int) (w : World) : (binOp .neq 58 (.agg #[.string s, .int .i64 n]) (.agg #[.string s, .int .i64 n])).run Try.prog w = .ok (.bool false) w := by
  have u3 := Try.underlying3
  have a3 := Try.isAgg3
  have z3 := Try.sizeOf3
  have u9 := Try.underlying9
  have a9 := Try.isAgg9
  have z9 := Try.sizeOf9
  have hS : Try.prog.underlying 58 = some (.struct (Try.prog.fieldsOf 58)) := by kernel_rfl
  have hp : Try.prog.stoodInHeld 58 = false := by kernel_rfl
  rw [run_neq_struct, show (10000 : Nat) = 9999 + 1 from rfl, run_equalIn_agg w 9999 58 _ _ hS hp]
  simp only [Program.fieldsOf, Try.underlying58]
  go_simp
/-- An item for a number. -/
def it (n : Int) : ByteArray × Int := (nm n, n)
/-- Rows of unlike things: what grows the one leaves the other. -/
theorem own_apart {α β : Type} [Inhabited α] [Inhabited β] {enc : α → List Value} {enc' : β → List Value} {e k e' k' : Nat} {w w' : World} {q q' : Option Addr} {B B' cap cap' : Nat} {l : List α} {l' : List β} (ho : OwnK enc e k B w q cap l) (h' : OwnK enc' e' k' B' w q' cap' l') (hg : w.grownBy w' (q'.map (·.block))) (hd : e ≠ e') : OwnK enc e k B w' q cap l :=
  ho.keep fun i hi => hg.block i (ho.blk hi).2 (fun he => by
    cases q with
    | none => simp at hi
    | some p =>
      cases q' with
      | none => simp at he
      | some p' =>
        obtain ⟨cur, hb, _⟩ := ho.typ
        obtain ⟨cur', hb', _⟩ := h'.typ
        simp at hi he
        rw [hi] at hb
        rw [← he, hb] at hb'
        injection hb' with hb'
        injection hb' with h5 h6
        exact hd h6)
theorem src_it {W : World} {b : Nat} {x : Int} (hb : W.heap[b]? = some (.cells #[.string (nm x), .int .i64 x] 58 (0, 0))) : SrcK encT 2 W (some ⟨b, 0, none⟩) 1 [it x] := by
  refine ⟨(fun h => by cases h), fun ad hq j u hj => ?_⟩
  cases hq
  rw [add_plain, Nat.zero_add]
  have hs := (List.getElem?_eq_some_iff.1 hj).1
  rw [flat_len] at hs
  have hc : W.cell? ⟨b, j, none⟩ = (#[.string (nm x), .int .i64 x] : Array Value)[j]? := (by unfold World.cell?; simp [hb])
  rw [hc]
  simp at hs
  obtain rfl | rfl : j = 0 ∨ j = 1 := by omega
  · exact (flat_at (enc := encT) (k := 2) (l := [it x]) (j := 0) (x := it x) rfl 0 (by omega)).symm.trans hj
  · exact (flat_at (enc := encT) (k := 2) (l := [it x]) (j := 0) (x := it x) rfl 1 (by omega)).symm.trans hj
structure Tq (B : Nat) (w : World) (L1 L2 L3 : Nat) (q1 : Option Addr) (c1 : Nat) (q2 : Option Addr) (c2 : Nat) (q3 : Option Addr) (c3 m : Nat) (l1 l2 l3 : List Int) : Prop where
  a : QIn encI 3 1 51 w L1 q1 c1 m l1
  b : QIn encS 9 1 67 w L2 q2 c2 m (l2.map nm)
  c : QIn encT 58 2 69 w L3 q3 c3 m (l3.map it)
  ha : Hi B L1 q1
  hb : Hi B L2 q2
  hc : Hi B L3 q3
variable {B : Nat} {w w' : World} {L1 L2 L3 : Nat} {q1 q2 q3 : Option Addr} {c1 c2 c3 m : Nat} {l1 l2 l3 : List Int}
theorem Tq.below (h : Tq B w L1 L2 L3 q1 c1 q2 c2 q3 c3 m l1 l2 l3) (hb : Below w.heap.size w w') : Tq B w' L1 L2 L3 q1 c1 q2 c2 q3 c3 m l1 l2 l3 := ⟨h.a.below hb, h.b.below hb, h.c.below hb, h.ha, h.hb, h.hc⟩
theorem Tq.m1 (h : Tq B w L1 L2 L3 q1 c1 q2 c2 q3 c3 m l1 l2 l3) {q' : Option Addr} {c' : Nat} {l' : List Int} (hQ : QIn encI 3 1 51 w' L1 q' c' m l') (hm : Mv w w' L1 q1 q') (hB : B ≤ w.heap.size) : Tq B w' L1 L2 L3 q' c' q2 c2 q3 c3 m l' l2 l3 ∧ Below B w w' :=
  ⟨⟨hQ, h.b.other hm (ft_apart h.b h.a (by decide)), h.c.other hm (ft_apart h.c h.a (by decide)), h.ha.mv hm hB, h.hb, h.hc⟩, hm.below h.ha hB⟩
theorem Tq.m2 (h : Tq B w L1 L2 L3 q1 c1 q2 c2 q3 c3 m l1 l2 l3) {q' : Option Addr} {c' : Nat} {l' : List Int} (hQ : QIn encS 9 1 67 w' L2 q' c' m (l'.map nm)) (hm : Mv w w' L2 q2 q') (hB : B ≤ w.heap.size) : Tq B w' L1 L2 L3 q1 c1 q' c' q3 c3 m l1 l' l3 ∧ Below B w w' :=
  ⟨⟨h.a.other hm (ft_apart h.a h.b (by decide)), hQ, h.c.other hm (ft_apart h.c h.b (by decide)), h.ha, h.hb.mv hm hB, h.hc⟩, hm.below h.hb hB⟩
theorem Tq.m3 (h : Tq B w L1 L2 L3 q1 c1 q2 c2 q3 c3 m l1 l2 l3) {q' : Option Addr} {c' : Nat} {l' : List Int} (hQ : QIn encT 58 2 69 w' L3 q' c' m (l'.map it)) (hm : Mv w w' L3 q3 q') (hB : B ≤ w.heap.size) : Tq B w' L1 L2 L3 q1 c1 q2 c2 q' c' m l1 l2 l' ∧ Below B w w' :=
  ⟨⟨h.a.other hm (ft_apart h.a h.c (by decide)), h.b.other hm (ft_apart h.b h.c (by decide)), hQ, h.ha, h.hb, h.hc.mv hm hB⟩, hm.below h.hc hB⟩
theorem QIn.hp {α : Type} [Inhabited α] {enc : α → List Value} {e k tq : Nat} {w w' : World} {L : Nat} {q : Option Addr} {cap m : Nat} {l : List α} (h : QIn enc e k tq w L q cap m l) (he : w'.heap = w.heap) : QIn enc e k tq w' L q cap m l := by
  obtain ⟨h1, h2, h3⟩ := h
  exact ⟨by rw [he]; exact h1, own_heap he h2, h3⟩
theorem below_hp {C : Nat} {w w1 w' : World} (e1 : w1.heap = w.heap) (e2 : w1.os = w.os) (e3 : w1.tape = w.tape) (e4 : w1.output = w.output) (h : Below C w1 w') : Below C w w' := ⟨h.os.trans e2, h.tape.trans e3, h.output.trans e4, by rw [← e1]; exact h.size, by rw [← e1]; exact h.block⟩
theorem Tq.hp (h : Tq B w L1 L2 L3 q1 c1 q2 c2 q3 c3 m l1 l2 l3) (he : w'.heap = w.heap) : Tq B w' L1 L2 L3 q1 c1 q2 c2 q3 c3 m l1 l2 l3 := ⟨h.a.hp he, h.b.hp he, h.c.hp he, h.ha, h.hb, h.hc⟩
/-- The same call on each queue. -/
theorem tput1 (h : Tq B w L1 L2 L3 q1 c1 q2 c2 q3 c3 m l1 l2 l3) (p : Option Addr) (c : Nat) (xs : List Int) (nx n : Nat) (hnx : xs.length = nx) (hn : min nx (m - l1.length) = n) (hs : SlOf encI 1 w p c xs) (hx : nx ≤ 1048576) :
    Calls Try.prog 11 #[.pointer (some ⟨L1, 0, none⟩), .slice p nx c] w fun e w' => e = .returned (.int .i64 (n : Int)) ∧ ∃ q' cap', QIn encI 3 1 51 w' L1 q' cap' m (l1 ++ xs.take (m - l1.length)) ∧ Mv w w' L1 q1 q' := by
  have h1 := putI L1 q1 c1 m l1 p c xs w h.a hs (by omega)
  rw [hnx, hn] at h1
  exact h1
theorem tput2 (h : Tq B w L1 L2 L3 q1 c1 q2 c2 q3 c3 m l1 l2 l3) (p : Option Addr) (c : Nat) (xs : List Int) (nx n : Nat) (hnx : xs.length = nx) (hn : min nx (m - l2.length) = n) (hs : SlOf encS 1 w p c (xs.map nm)) (hx : nx ≤ 1048576) :
    Calls Try.prog 26 #[.pointer (some ⟨L2, 0, none⟩), .slice p nx c] w fun e w' => e = .returned (.int .i64 (n : Int)) ∧ ∃ q' cap', QIn encS 9 1 67 w' L2 q' cap' m ((l2 ++ xs.take (m - l2.length)).map nm) ∧ Mv w w' L2 q2 q' := by
  have h1 := putS L2 q2 c2 m (l2.map nm) p c (xs.map nm) w h.b hs (by rw [List.length_map]; omega)
  rw [List.length_map, List.length_map, ← List.map_take, ← List.map_append, hnx, hn] at h1
  exact h1
theorem tput3 (h : Tq B w L1 L2 L3 q1 c1 q2 c2 q3 c3 m l1 l2 l3) (p : Option Addr) (c : Nat) (xs : List Int) (nx n : Nat) (hnx : xs.length = nx) (hn : min nx (m - l3.length) = n) (hs : SlOf encT 2 w p c (xs.map it)) (hx : nx ≤ 1048576) :
    Calls Try.prog 27 #[.pointer (some ⟨L3, 0, none⟩), .slice p nx c] w fun e w' => e = .returned (.int .i64 (n : Int)) ∧ ∃ q' cap', QIn encT 58 2 69 w' L3 q' cap' m ((l3 ++ xs.take (m - l3.length)).map it) ∧ Mv w w' L3 q3 q' := by
  have h1 := putT L3 q3 c3 m (l3.map it) p c (xs.map it) w h.c hs (by rw [List.length_map]; omega)
  rw [List.length_map, List.length_map, ← List.map_take, ← List.map_append, hnx, hn] at h1
  exact h1
theorem ttake2 (h : Tq B w L1 L2 L3 q1 c1 q2 c2 q3 c3 m l1 l2 l3) (n : Int) :
    Calls Try.prog 28 #[.pointer (some ⟨L2, 0, none⟩), .int .i64 n] w fun e w' => (∃ q' c', e = .returned (.slice q' (takeN n l2.length) c') ∧ OwnK encS 9 1 w.heap.size w' q' c' ((l2.take (takeN n l2.length)).map nm)) ∧ QIn encS 9 1 67 w' L2 q2 c2 m ((l2.drop (takeN n l2.length)).map nm) ∧ Mv w w' L2 q2 q2 := by
  have h1 := takeS L2 q2 c2 m (l2.map nm) n w h.b
  rw [List.length_map, ← List.map_take, ← List.map_drop] at h1
  exact h1
theorem ttake3 (h : Tq B w L1 L2 L3 q1 c1 q2 c2 q3 c3 m l1 l2 l3) (n : Int) :
    Calls Try.prog 29 #[.pointer (some ⟨L3, 0, none⟩), .int .i64 n] w fun e w' => (∃ q' c', e = .returned (.slice q' (takeN n l3.length) c') ∧ OwnK encT 58 2 w.heap.size w' q' c' ((l3.take (takeN n l3.length)).map it)) ∧ QIn encT 58 2 69 w' L3 q3 c3 m ((l3.drop (takeN n l3.length)).map it) ∧ Mv w w' L3 q3 q3 := by
  have h1 := takeT L3 q3 c3 m (l3.map it) n w h.c
  rw [List.length_map, ← List.map_take, ← List.map_drop] at h1
  exact h1
/-- Len and Room of any queue. -/
theorem lenG {α : Type} [Inhabited α] {enc : α → List Value} {e k tq : Nat} (L : Nat) (q : Option Addr) (c m n : Nat) (l : List α) (W : World) (hQ : QIn enc e k tq W L q c m l) (hn : l.length = n) : Calls Try.prog 22 #[.pointer (some ⟨L, 0, none⟩)] W fun e w' => e = .returned (.int .i64 (n : Int)) ∧ Below W.heap.size W w' :=
  (lenQ L _ _ tq W _ hQ.1).mono fun _ _ ⟨h1, h2⟩ => ⟨by rw [h1, hn], by rw [h2]; exact Below.refl _ _⟩
theorem roomG {α : Type} [Inhabited α] {enc : α → List Value} {e k tq : Nat} (L : Nat) (q : Option Addr) (c m d : Nat) (l : List α) (W : World) (hQ : QIn enc e k tq W L q c m l) (hd : l.length + d = m) : Calls Try.prog 21 #[.pointer (some ⟨L, 0, none⟩)] W fun e w' => e = .returned (.int .i64 (d : Int)) ∧ Below W.heap.size W w' :=
  (roomQ L _ tq W l.length m d hQ.1 hd hQ.2.2.2.2).mono fun _ _ ⟨h1, h2⟩ => ⟨h1, by rw [h2]; exact (Below.refl _ _).drew⟩
end Go.Proofs.Ytfenkiplofnolaa

/- The disk's power: New, Off, Acts, Arm, spend, done. -/
import Derived.Test.YtonhagoeajhacaaOldDk
import Derived.Test.YtonhagoeajhacaaName
namespace Go.Proofs.Ytonhagoeajhacaa.Old
open Go.RowKit Go.Sort

theorem grown_refl (w : World) (r : Option Nat) : w.grownBy w r := ⟨rfl, rfl, rfl, Nat.le_refl _, fun _ _ _ => rfl⟩
theorem grown_set (w : World) (g o : Nat) (v : Value) : w.grownBy (w.setCell ⟨g, o, none⟩ v) (some g) := by
  have hb := (Below.refl 0 w).setCell (p := ⟨g, o, none⟩) (Nat.zero_le _) v
  exact ⟨hb.os, hb.tape, hb.output, hb.size, fun k _ hne => Below.heap_setCell _ _ _ _ (fun e => hne (by rw [e]))⟩
theorem grown_trans {a b c : World} {r : Option Nat} (h1 : a.grownBy b r) (h2 : b.grownBy c r) : a.grownBy c r :=
  ⟨h2.os.trans h1.os, h2.tape.trans h1.tape, h2.output.trans h1.output, Nat.le_trans h1.size h2.size, fun i hi hn => (h2.block i (Nat.lt_of_lt_of_le hi h1.size) hn).trans (h1.block i hi hn)⟩
theorem grown_le {B : Nat} {w w' : World} {r : Nat} (hg : w.grownBy w' (some r)) (hB : B ≤ r) (hs : B ≤ w.heap.size) : Below B w w' :=
  ⟨hg.os, hg.tape, hg.output, hg.size, fun k hk => hg.block k (by omega) (by intro e; injection e with e; omega)⟩
/-- The cells of a disk's box. -/
theorem cells5 {w : World} {g : Nat} {a b c d e : Value} {t : TypeId} (h : w.heap[g]? = some (.cells #[a, b, c, d, e] t (0, 0))) : (w.cell? ⟨g, 0, none⟩ = some a ∧ w.cell? ⟨g, 1, none⟩ = some b ∧ w.cell? ⟨g, 2, none⟩ = some c ∧ w.cell? ⟨g, 3, none⟩ = some d ∧ w.cell? ⟨g, 4, none⟩ = some e) ∧ w.frozen? ⟨g, 0, none⟩ = false ∧ w.frozen? ⟨g, 1, none⟩ = false ∧ w.frozen? ⟨g, 2, none⟩ = false ∧ w.frozen? ⟨g, 3, none⟩ = false := by
  refine ⟨⟨?_, ?_, ?_, ?_, ?_⟩, frozen_free h, frozen_free h, frozen_free h, frozen_free h⟩ <;> (unfold World.cell?; rw [h]; rfl)
theorem cells2 {w : World} {g : Nat} {a b : Value} {t : TypeId} (h : w.heap[g]? = some (.cells #[a, b] t (0, 0))) : (w.cell? ⟨g, 0, none⟩ = some a ∧ w.cell? ⟨g, 1, none⟩ = some b) ∧ w.frozen? ⟨g, 0, none⟩ = false ∧ w.frozen? ⟨g, 1, none⟩ = false := by
  refine ⟨⟨?_, ?_⟩, frozen_free h, frozen_free h⟩ <;> (unfold World.cell?; rw [h]; rfl)
theorem off_any {B : Nat} {w : World} {g : Nat} {s : Dk} (hd : DkAt B w g s) : Calls Try.prog 12 #[.pointer (some ⟨g, 0, none⟩)] w fun e w' => e = .returned (.bool s.off) ∧ w' = w := by
  obtain ⟨m, h, q, c, hi⟩ := hd
  obtain ⟨⟨c0, c1, c2, c3, c4⟩, _⟩ := cells5 hi.box
  clear hi
  go_enter Try.func12, Try.ntmps12
  go_wp2
  go_ret
  exact ⟨rfl, rfl⟩
theorem acts_any {B : Nat} {w : World} {g : Nat} {s : Dk} (hd : DkAt B w g s) : Calls Try.prog 10 #[.pointer (some ⟨g, 0, none⟩)] w fun e w' => e = .returned (.int .i64 (s.acts : Int)) ∧ w' = w := by
  obtain ⟨m, h, q, c, hi⟩ := hd
  obtain ⟨⟨c0, c1, c2, c3, c4⟩, _⟩ := cells5 hi.box
  clear hi
  go_enter Try.func10, Try.ntmps10
  go_wp2
  go_ret
  exact ⟨rfl, rfl⟩
theorem done_any {B : Nat} {w : World} {g : Nat} {s : Dk} (hd : DkAt B w g s) (n : Nat) : Calls Try.prog 29 #[.pointer (some ⟨g, 0, none⟩), .int .i64 (n : Int)] w fun e w' => e = .returned (.int .i64 ((min (max s.part 0) (n : Int)))) ∧ w' = w := by
  obtain ⟨m, h, q, c, hi⟩ := hd
  obtain ⟨⟨c0, c1, c2, c3, c4⟩, _⟩ := cells5 hi.box
  clear hi
  go_enter Try.func29, Try.ntmps29
  go_wp2
  go_ret
  exact ⟨rfl, rfl⟩
def empty : Dk := ⟨fun _ => none, 0, 0, false, 0, 0⟩
theorem new_any (w : World) : Calls Try.prog 5 #[] w fun e w' => e = .returned (.pointer (some ⟨w.heap.size + 1, 0, none⟩)) ∧ DkAt w.heap.size w' (w.heap.size + 1) empty ∧ Below w.heap.size w w' := by
  have hmk : ∀ W : World, (Instr.makeMap 44 none).run Try.prog W = .ok (.map (some W.heap.size)) (W.alloc (.map #[] 0)) := run_makeMap 44
  go_enter Try.func5, Try.ntmps5
  go_wp2
  go_ret
  have b1 : Below w.heap.size w (w.alloc (.map #[] 0)) := (Below.refl _ _).alloc (Nat.le_refl _) _
  have b2 := b1.alloc (by simp) (.cells #[.int .i64 0, .bool false, .int .i64 0, .int .i64 0, .map (some w.heap.size)] 46)
  have hs : (w.alloc (.map #[] 0)).heap.size = w.heap.size + 1 := by simp
  refine ⟨by simp, ⟨w.heap.size, fun _ => 0, fun _ => none, fun _ => 0, ⟨by omega, Nat.le_refl _, by simp [empty], ?_, ?_, ?_, ?_⟩⟩, b2⟩
  · have := heap_alloc_new (w.alloc (.map #[] 0)) (.cells #[.int .i64 0, .bool false, .int .i64 0, .int .i64 0, .map (some w.heap.size)] 46)
    rw [hs] at this
    exact this
  · exact (FM.made w).below (by rw [hs]; exact (Below.refl _ _).alloc (by simp) _)
  · intro nm fl hf; cases hf
  · intro nm nm' fl fl' hf; cases hf
/-- Arm. -/
theorem arm_no {B : Nat} {w : World} {g : Nat} {s : Dk} (hd : DkAt B w g s) (n p : Int) (ho : s.off = true) : Calls Try.prog 14 #[.pointer (some ⟨g, 0, none⟩), .int .i64 n, .int .i64 p] w fun e w' => e = .returned (.int .i64 40) ∧ w' = w := by
  obtain ⟨m, h, q, c, hi⟩ := hd
  obtain ⟨⟨c0, c1, c2, c3, c4⟩, _⟩ := cells5 hi.box
  rw [ho] at c1
  clear hi
  go_enter Try.func14, Try.ntmps14
  go_wp2
  go_ret
  exact ⟨rfl, rfl⟩
theorem arm_yes {B : Nat} {w : World} {g : Nat} {s : Dk} (hd : DkAt B w g s) (hB : B ≤ w.heap.size) (n p : Int) (hn : n ≤ 9223372036854775807) (ho : s.off = false) : Calls Try.prog 14 #[.pointer (some ⟨g, 0, none⟩), .int .i64 n, .int .i64 p] w fun e w' => e = .returned (.int .i64 0) ∧ DkAt B w' g { s with named := (max n 0).toNat, part := p } ∧ Below B w w' := by
  obtain ⟨m, h, q, c, hi⟩ := hd
  obtain ⟨⟨c0, c1, c2, c3, c4⟩, z0, z1, z2, z3⟩ := cells5 hi.box
  have b2 := heap_setCell_same w g 2 _ 46 (.int .i64 (max n 0)) hi.box
  have b3 := heap_setCell_same _ g 3 _ 46 (.int .i64 p) b2
  obtain ⟨⟨d0, d1, d2, d3, d4⟩, y0, y1, y2, y3⟩ := cells5 b2
  have HI := hide hi
  have H3 := hide b3
  rw [ho] at c1
  clear hi b2 b3
  go_enter Try.func14, Try.ntmps14
  go_wp2
  go_ret
  have hg : w.grownBy ((w.setCell ⟨g, 2, none⟩ (.int .i64 (max n 0))).setCell ⟨g, 3, none⟩ (.int .i64 p)) (some g) := grown_trans (grown_set _ _ _ _) (grown_set _ _ _ _)
  refine ⟨rfl, ⟨m, h, q, c, (unhide HI).turn hg rfl rfl (by show (max n 0).toNat ≤ _; omega) ?_⟩, grown_le hg (unhide HI).bg hB⟩
  have h5 := unhide H3
  simp only
  rw [show (((max n 0).toNat : Nat) : Int) = max n 0 by omega]
  exact h5
theorem wrap_int (x : Int) (h1 : -9223372036854775808 ≤ x) (h2 : x ≤ 9223372036854775807) : IntKind.i64.wrap x = x := by
  have e : (2 : Int) ^ IntKind.i64.bits = 18446744073709551616 := by decide
  have e2 : (2 : Int) ^ (IntKind.i64.bits - 1) = 9223372036854775808 := by decide
  have e3 : IntKind.i64.signed = true := rfl
  simp [IntKind.wrap, e, e2, e3]
  split <;> omega
/-- An act is spent. -/
theorem spend_no {B : Nat} {w : World} {g m : Nat} {s : Dk} {h : ByteArray → Nat} {q : ByteArray → Option Addr} {c : ByteArray → Nat} (hi : DkIn B w g s m h q c) (h1 : s.named = 1) :
    Calls Try.prog 28 #[.pointer (some ⟨g, 0, none⟩)] w fun e w' => e = .returned (.int .i64 40) ∧ DkIn B w' g { s with off := true } m h q c ∧ w.grownBy w' (some g) := by
  obtain ⟨⟨c0, c1, c2, c3, c4⟩, z0, z1, z2, z3⟩ := cells5 hi.box
  have b2 := heap_setCell_same w g 1 _ 46 (.bool true) hi.box
  have HI := hide hi
  have H3 := hide b2
  rw [h1] at c2
  clear hi b2
  go_enter Try.func28, Try.ntmps28
  go_wp2
  go_ret
  exact ⟨rfl, (unhide HI).turn (grown_set _ _ _ _) rfl rfl (unhide HI).small (unhide H3), grown_set _ _ _ _⟩
theorem spend_yes {B : Nat} {w : World} {g m : Nat} {s : Dk} {h : ByteArray → Nat} {q : ByteArray → Option Addr} {c : ByteArray → Nat} (hi : DkIn B w g s m h q c) (h1 : s.named ≠ 1) (ha : s.acts ≤ 4611686018427387904) :
    Calls Try.prog 28 #[.pointer (some ⟨g, 0, none⟩)] w fun e w' => e = .returned (.int .i64 0) ∧ DkIn B w' g { s with named := s.named - 1, acts := s.acts + 1 } m h q c ∧ w.grownBy w' (some g) := by
  obtain ⟨⟨c0, c1, c2, c3, c4⟩, z0, z1, z2, z3⟩ := cells5 hi.box
  have hsm := hi.small
  have b2 := heap_setCell_same w g 2 _ 46 (.int .i64 (max ((s.named : Int) - 1) 0)) hi.box
  have b3 := heap_setCell_same _ g 0 _ 46 (.int .i64 ((s.acts : Int) + 1)) b2
  obtain ⟨⟨d0, d1, d2, d3, d4⟩, y0, y1, y2, y3⟩ := cells5 b2
  have HI := hide hi
  have H3 := hide b3
  have e1 : ((s.named : Int) == 1) = false := by simp; omega
  have e2 : IntKind.i64.wrap ((s.named : Int) - 1) = (s.named : Int) - 1 := wrap_int _ (by omega) (by omega)
  clear hi b2 b3
  go_enter Try.func28, Try.ntmps28
  go_wp2
  go_ret
  have hg : w.grownBy ((w.setCell ⟨g, 2, none⟩ (.int .i64 (max ((s.named : Int) - 1) 0))).setCell ⟨g, 0, none⟩ (.int .i64 ((s.acts : Int) + 1))) (some g) := grown_trans (grown_set _ _ _ _) (grown_set _ _ _ _)
  refine ⟨rfl, (unhide HI).turn hg rfl rfl (by show s.named - 1 ≤ _; omega) ?_, hg⟩
  have h5 := unhide H3
  simp only
  rw [show ((s.named - 1 : Nat) : Int) = max ((s.named : Int) - 1) 0 by omega, show ((s.acts + 1 : Nat) : Int) = (s.acts : Int) + 1 by omega]
  exact h5
end Go.Proofs.Ytonhagoeajhacaa.Old

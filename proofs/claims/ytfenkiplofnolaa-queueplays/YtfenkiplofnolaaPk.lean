/- Peek and All. -/
import Derived.Test.YtfenkiplofnolaaPI
import Derived.Test.YtfenkiplofnolaaPS
import Derived.Test.YtfenkiplofnolaaMem
namespace Go.Proofs.Ytfenkiplofnolaa
open Go.RowKit Go.Sort

set_option maxHeartbeats 1000000 in
set_option maxRecDepth 100000 in
theorem peekI (L : Nat) (q : Option Addr) (cap m : Nat) (l : List Int) (w : World) (h : QIn encI 3 1 51 w L q cap m l) :
    Calls Try.prog 31 #[.pointer (some ⟨L, 0, none⟩)] w fun e w' => e = .returned (.tuple #[(l.head?.map fun x => Value.int .i64 x).getD (.int .i64 0), .bool (!l.isEmpty)]) ∧ Below w.heap.size w w' := by
  obtain ⟨hb, ho, hlm, hm1, hm16⟩ := h
  have hlen := lenQ L _ _ 51 w _ hb
  obtain ⟨c0, c1, c2, f0, f1, f2⟩ := cells3 hb
  cases l with
  | nil =>
    clear hb ho
    go_enter Try.func31, Try.ntmps31
    go_wp2_with (go_at_call 22; refine hlen.mono ?_; rintro e w1 ⟨rfl, hw1⟩; obtain rfl := hw1.symm)
    go_ret2
    exact ⟨rfl, (Below.refl _ _).alloc (Nat.le_refl _) _⟩
  | cons x r =>
    obtain ⟨b, off, hq, hbl, hc⟩ := ho.ls.2.2.2.at (j := 0) (x := x) rfl
    have d0 := hc 0 (by omega)
    rw [Nat.zero_mul, Nat.add_zero] at d0
    subst hq
    have hz : ¬ ((r.length : Int) + 1) = 0 := by omega
    have hz2 : 0 < (x :: r).length := by simp
    have d1 : w.cell? ⟨b, off, none⟩ = some (Value.int .i64 x) := d0
    generalize hn : (x :: r).length = n at *
    have hn0 : ¬ (n : Int) = 0 := by omega
    have hn1 : ((n : Int) == 0) = false := by simpa using hn0
    clear hb ho hc d0
    go_enter Try.func31, Try.ntmps31
    go_wp2_with (go_at_call 22; refine hlen.mono ?_; rintro e w1 ⟨rfl, hw1⟩; obtain rfl := hw1.symm)
    go_ret2
    exact ⟨rfl, Below.refl _ _⟩
set_option maxHeartbeats 1000000 in
set_option maxRecDepth 100000 in
theorem peekS (L : Nat) (q : Option Addr) (cap m : Nat) (l : List ByteArray) (w : World) (h : QIn encS 9 1 67 w L q cap m l) :
    Calls Try.prog 32 #[.pointer (some ⟨L, 0, none⟩)] w fun e w' => e = .returned (.tuple #[(l.head?.map fun x => Value.string x).getD (.string ⟨#[]⟩), .bool (!l.isEmpty)]) ∧ Below w.heap.size w w' := by
  obtain ⟨hb, ho, hlm, hm1, hm16⟩ := h
  have hlen := lenQ L _ _ 67 w _ hb
  obtain ⟨c0, c1, c2, f0, f1, f2⟩ := cells3 hb
  cases l with
  | nil =>
    clear hb ho
    go_enter Try.func32, Try.ntmps32
    go_wp2_with (go_at_call 22; refine hlen.mono ?_; rintro e w1 ⟨rfl, hw1⟩; obtain rfl := hw1.symm)
    go_ret2
    exact ⟨rfl, (Below.refl _ _).alloc (Nat.le_refl _) _⟩
  | cons x r =>
    obtain ⟨b, off, hq, hbl, hc⟩ := ho.ls.2.2.2.at (j := 0) (x := x) rfl
    have d0 := hc 0 (by omega)
    rw [Nat.zero_mul, Nat.add_zero] at d0
    subst hq
    have hz : ¬ ((r.length : Int) + 1) = 0 := by omega
    have hz2 : 0 < (x :: r).length := by simp
    have d1 : w.cell? ⟨b, off, none⟩ = some (Value.string x) := d0
    generalize hn : (x :: r).length = n at *
    have hn0 : ¬ (n : Int) = 0 := by omega
    have hn1 : ((n : Int) == 0) = false := by simpa using hn0
    clear hb ho hc d0
    go_enter Try.func32, Try.ntmps32
    go_wp2_with (go_at_call 22; refine hlen.mono ?_; rintro e w1 ⟨rfl, hw1⟩; obtain rfl := hw1.symm)
    go_ret2
    exact ⟨rfl, Below.refl _ _⟩
theorem allI (L : Nat) (q : Option Addr) (cap m : Nat) (l : List Int) (w : World) (h : QIn encI 3 1 51 w L q cap m l) :
    Calls Try.prog 30 #[.pointer (some ⟨L, 0, none⟩)] w fun e w' => (∃ q' c', e = .returned (.slice q' l.length c') ∧ OwnK encI 3 1 w.heap.size w' q' c' l) ∧ Below w.heap.size w w' := by
  obtain ⟨hb, ho, hlm, hm1, hm16⟩ := h
  obtain ⟨c0, c1, c2, f0, f1, f2⟩ := cells3 hb
  have hcl := cloneI q cap l (by omega) w ho.ls
  clear hb ho
  go_enter Try.func30, Try.ntmps30
  go_wp2_with (go_at_call 33; refine hcl.mono ?_; rintro e w2 ⟨⟨q2, c2', rfl, o2⟩, b2⟩; have O2 := hide o2; have B2 := hide b2; clear o2 b2)
  go_ret
  exact ⟨⟨q2, c2', rfl, unhide O2⟩, unhide B2⟩
end Go.Proofs.Ytfenkiplofnolaa

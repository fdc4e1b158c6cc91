/- What the reference's Get, Check of a value and begins return. -/
import Derived.Test.YtkpdhkdegoincaaEvHolds
import Derived.Test.YtkpdhkdegoincaaRefPred
namespace Go.Proofs.Ytkpdhkdegoincaa
open Go.RowKit Go.Sort

set_option maxHeartbeats 1000000 in
theorem refCheck_any (k n : Int) (s : ByteArray) (w : World) :
    Calls Try.prog 36 #[.agg #[.int .i64 k, .int .i64 n, .string s]] w fun e w' => e = .returned (.int .i64 (chkV k n s)) ∧ Below w.heap.size w w' := by
  by_cases h1 : k = 1
  · subst h1
    go_enter Try.func36, Try.ntmps36
    go_wp2
    all_goals (go_ret; refine ⟨ret_int ?_, (Below.refl _ _).alloc (Nat.le_refl _) _⟩)
    · exact (chk_yes1 rfl (by assumption) (by assumption) (by assumption)).symm
    · exact (chk_no1 rfl (by rw [← empty_iff]; simp [*])).symm
    · exact (chk_no1 rfl (by omega)).symm
    · exact (chk_no1 rfl (by omega)).symm
  · by_cases h2 : k = 2 ∧ n = 0
    · obtain ⟨rfl, rfl⟩ := h2
      go_enter Try.func36, Try.ntmps36
      go_wp2
      all_goals (go_ret; refine ⟨ret_int ?_, (Below.refl _ _).alloc (Nat.le_refl _) _⟩)
      · exact (chk_yes2 rfl rfl (by assumption)).symm
      · exact (chk_no2 rfl (by omega)).symm
    · have hn : chkV k n s = 1 := chk_no2 (by simpa using h1) (by omega)
      have Hn : Hid (chkV k n s = 1) := hn
      clear hn
      by_cases h3 : k = 2
      · have h4 : n ≠ 0 := fun h => h2 ⟨h3, h⟩
        subst h3
        clear h2
        go_enter Try.func36, Try.ntmps36
        go_wp2
        all_goals (go_ret; exact ⟨ret_int Hn.out.symm, (Below.refl _ _).alloc (Nat.le_refl _) _⟩)
      · clear h2
        go_enter Try.func36, Try.ntmps36
        go_wp2
        all_goals (go_ret; exact ⟨ret_int Hn.out.symm, (Below.refl _ _).alloc (Nat.le_refl _) _⟩)

structure IsCmp {α : Type} (c : α → α → Int) : Prop where
  rng : ∀ a b, c a b = -1 ∨ c a b = 0 ∨ c a b = 1
  neg : ∀ a b, c b a = - c a b
  eq : ∀ a b, c a b = 0 ↔ a = b
  trans : ∀ a b d, c a b ≤ 0 → c b d ≤ 0 → c a d ≤ 0

set_option maxHeartbeats 1000000 in
theorem refGet_any (p : Option Addr) (cap : Nat) (l : List Pr) (s : ByteArray) (w : World) (hm : l.length ≤ 140737488355328) (hA : SlOf encP 4 w p cap l) :
    Calls Try.prog 34 #[.slice p l.length cap, .string s] w fun e w' => e = .returned (getV (getP s l)) ∧ Below w.heap.size w w' := by
  have HA := hide hA
  clear hA
  go_enter Try.func34, Try.ntmps34
  go_wp2
  go_loopw [6] (fun i wr => ∃ k : Nat, k ≤ l.length ∧ i = .int .i64 k ∧ Below w.heap.size w wr ∧ Box wr w.heap.size (0, 0, ⟨#[]⟩) ∧ getP s l = getP s (l.drop k)) (fun i _ => l.length - (intOf i).toNat)
  case atStart => exact ⟨0, by omega, rfl, (Below.refl _ _).alloc (Nat.le_refl _) _, Box.new w (0, 0, ⟨#[]⟩) 48, by simp⟩
  case round =>
    obtain ⟨k, hk, rfl, hbel, hbox, heq⟩ := hrel
    have Heq := hide heq
    clear heq
    by_cases hlt : k < l.length
    · obtain ⟨x, hx, hd⟩ := get_at hlt
      obtain ⟨bb, off, rfl, hbb, g0, g1, g2, g3⟩ := prsAt ((unhide HA).below hbel) hx
      have Hd := hide hd
      clear hd
      have ki0 : (0 : Int) ≤ (k : Int) := by omega
      have ki1 : (k : Int) < (l.length : Int) := by omega
      have Hx := hide hx
      clear hx
      cases hq : (x.name.toList == s.toList) with
      | true =>
        have Hy := hide (get_yes (unhide Heq) (unhide Hd) hq)
        have Hb := hide hbox
        obtain ⟨r0, r1, r2, fr0, sz0⟩ := hbox
        simp only at r0 r1 r2
        go_wp2
        obtain ⟨z0, z1, z2, _, _⟩ := (unhide Hb).put (x.kind, x.int, x.word)
        unfold put3 at z0 z1 z2
        refine bodyPost_ret (v := .tuple #[.agg #[.int .i64 x.kind, .int .i64 x.int, .string x.word], .bool true]) (by simp [results, Try.results34, go_sem, r0, r1, r2]) rfl ⟨by rw [unhide Hy]; rfl, ?_⟩
        exact hbel.trans (below_put3 wr w.heap.size (x.kind, x.int, x.word) (Nat.le_refl _))
      | false =>
        have Hy := hide (get_no (unhide Heq) (unhide Hd) hq)
        have Hb := hide hbox
        clear hbox
        go_wp2
        go_roundw
        case rel => exact ⟨k + 1, by omega, by go_num, hbel, unhide Hb, unhide Hy⟩
        case measure => simp [intOf]; omega
    · obtain rfl : k = l.length := by omega
      have Hy := hide (get_end (unhide Heq) hlt)
      have Hb := hide hbox
      obtain ⟨r0, r1, r2, fr0, sz0⟩ := hbox
      simp only at r0 r1 r2
      go_wp2
      have hb3 := (unhide Hb).put (0, 0, ⟨#[]⟩)
      obtain ⟨z0, z1, z2, _, _⟩ := hb3
      unfold put3 at z0 z1 z2
      refine bodyPost_ret (v := .tuple #[.agg #[.int .i64 0, .int .i64 0, .string ⟨#[]⟩], .bool false]) (by simp [results, Try.results34, go_sem, r0, r1, r2]) rfl ⟨by rw [unhide Hy]; rfl, ?_⟩
      exact hbel.trans (below_put3 _ w.heap.size (0, 0, ⟨#[]⟩) (Nat.le_refl _))
set_option maxHeartbeats 1000000 in
theorem begins_any (s p : ByteArray) (w : World) : Calls Try.prog 60 #[.string s, .string p] w fun e w' => e = .returned (.bool (prefB s p)) ∧ Below w.heap.size w w' := by
  by_cases hl : p.size ≤ s.size
  · have h1 : (p.size : Int) ≤ (s.size : Int) := by omega
    go_enter Try.func60, Try.ntmps60
    go_wp2
    go_ret
    exact ⟨ret_bool (by simp [prefB, hl]), Below.refl _ _⟩
  · have h1 : ¬ (p.size : Int) ≤ (s.size : Int) := by omega
    go_enter Try.func60, Try.ntmps60
    go_wp2
    go_ret
    exact ⟨ret_bool (by simp [prefB, hl]), Below.refl _ _⟩
end Go.Proofs.Ytkpdhkdegoincaa

/- The calls whose answers the document fixes: they answer so. -/
import Derived.Test.YtojeihchkdkkgabEvents
namespace Go.Proofs.Ytojeihchkdkkgab
open Go.RowKit Go.Sort Go.Shelf

def fxL : List (ByteArray × Int) := [(⟨#[98]⟩, 1), (⟨#[97]⟩, 2)]
def fxS : List (ByteArray × Int) := [(⟨#[97]⟩, 2), (⟨#[98]⟩, 1)]
def fxP : List (ByteArray × Int × Int × ByteArray) := [(⟨#[98]⟩, 1, 5, ⟨#[]⟩)]
theorem fx_ok : fxL.all atOk = true := by
  unfold fxL atOk
  simp only [List.all_cons, List.all_nil, name_a, name_b]
  decide
theorem fx_strict : Strict nmA fxS := by
  unfold Strict fxS nmA
  simp [ByteArray.toList_eq, Op.bytesLess]
theorem fx_perm : fxS.Perm fxL := List.Perm.swap _ _ _
theorem fx_nodup : (fxL.map nmA).Nodup := strict_nodup fx_strict fx_perm
theorem fx_fit : fxP.all (fitOk fxS) = true := by
  unfold fxP fxS fitOk eqA
  simp [ByteArray.toList_eq, chkV]
  rfl
theorem fx_nodupP : (fxP.map nmP).Nodup := by
  unfold fxP; simp
theorem fx_kind : kindOf fxS ⟨#[98]⟩ = 1 := by
  unfold fxS; simp [kindOf, ByteArray.toList_eq]
theorem fx_get : getOf fxP ⟨#[98]⟩ = some (1, 5, ⟨#[]⟩) := by
  unfold fxP; simp [getOf]
theorem fx_at (w : World) (t : TypeId) : AtsAt (w.alloc (.cells #[.string ⟨#[98]⟩, .int .i64 1, .string ⟨#[97]⟩, .int .i64 2] t)) w.heap.size 0 fxL := by
  intro j x hj
  match j, hj with
  | 0, hj => simp only [fxL, List.getElem?_cons_zero, Option.some.injEq] at hj; subst hj; exact ⟨by go_simp, by go_simp⟩
  | 1, hj => simp only [fxL, List.getElem?_cons_succ, List.getElem?_cons_zero, Option.some.injEq] at hj; subst hj; exact ⟨by go_simp, by go_simp⟩
theorem fx_atP (w : World) (t : TypeId) : PrsAt (w.alloc (.cells #[.string ⟨#[98]⟩, .int .i64 1, .int .i64 5, .string ⟨#[]⟩] t)) w.heap.size 0 fxP := by
  intro j x hj
  match j, hj with
  | 0, hj => simp only [fxP, List.getElem?_cons_zero, Option.some.injEq] at hj; subst hj; exact ⟨by go_simp, by go_simp, by go_simp, by go_simp⟩
theorem fx_new (w : World) (t : TypeId) : Calls Try.prog 9 #[.slice (some ⟨w.heap.size, 0, none⟩) 2 2] (w.alloc (.cells #[.string ⟨#[98]⟩, .int .i64 1, .string ⟨#[97]⟩, .int .i64 2] t)) fun e w' => (∃ b, e = .returned (.tuple #[.pointer (some ⟨b, 0, none⟩), .int .i64 0]) ∧ SchAt w' b fxS) ∧ Below w.heap.size w w' := by
  have hb : Below w.heap.size w (w.alloc (.cells #[.string ⟨#[98]⟩, .int .i64 1, .string ⟨#[97]⟩, .int .i64 2] t)) := (Below.refl _ _).alloc (Nat.le_refl _) _
  have h := new_any (some ⟨w.heap.size, 0, none⟩) 2 fxL (w.alloc (.cells #[.string ⟨#[98]⟩, .int .i64 1, .string ⟨#[97]⟩, .int .i64 2] t)) (by simp [fxL]) (fun h => by cases h) (fun _ => ⟨_, _, rfl, by simp, fx_at w t⟩)
  refine Calls.mono h fun e w' ⟨hr, hb2⟩ => ⟨?_, below_sub hb hb2⟩
  rcases hr with ⟨h1, _⟩ | ⟨_, h1, _⟩ | ⟨_, _, _, b, l', he, hp, hs, hN⟩
  · simp [fxL] at h1
  · exact absurd ⟨fx_ok, fx_nodup⟩ h1
  · obtain rfl := strict_one hs fx_strict (hp.trans fx_perm.symm)
    exact ⟨b, he, hN.at⟩
theorem fx_event (b : Nat) (w : World) (t : TypeId) (hS : SchAt w b fxS) : Calls Try.prog 13 #[.pointer (some ⟨b, 0, none⟩), .slice (some ⟨w.heap.size, 0, none⟩) 1 1] (w.alloc (.cells #[.string ⟨#[98]⟩, .int .i64 1, .int .i64 5, .string ⟨#[]⟩] t)) fun e w' => (∃ q cap, e = .returned (.tuple #[.slice q 1 cap, .int .i64 0]) ∧ PrsOf w' q fxP) ∧ Below w.heap.size w w' := by
  have hb : Below w.heap.size w (w.alloc (.cells #[.string ⟨#[98]⟩, .int .i64 1, .int .i64 5, .string ⟨#[]⟩] t)) := (Below.refl _ _).alloc (Nat.le_refl _) _
  have h := event_any b fxS (some ⟨w.heap.size, 0, none⟩) 1 fxP (w.alloc (.cells #[.string ⟨#[98]⟩, .int .i64 1, .int .i64 5, .string ⟨#[]⟩] t)) (by simp [fxS]) (by simp [fxP]) (hS.below hb) (fun h => by cases h) (fun _ => ⟨_, _, rfl, by simp, fx_atP w t⟩)
  refine Calls.mono h fun e w' ⟨hr, hb2⟩ => ⟨?_, below_sub hb hb2⟩
  rcases hr with ⟨h1, _⟩ | ⟨_, _, l', q, cap, he, hp, _, hN, _⟩
  · exact absurd ⟨fx_fit, fx_nodupP⟩ h1
  · obtain rfl : l' = fxP := List.perm_singleton.1 hp
    exact ⟨q, cap, he, hN.of⟩
theorem fx_len (b : Nat) (w : World) (hS : SchAt w b fxS) : Calls Try.prog 15 #[.pointer (some ⟨b, 0, none⟩)] w fun e w' => e = .returned (.int .i64 2) ∧ w' = w := len_any b fxS w hS
theorem fx_kinds (b : Nat) (w : World) (hS : SchAt w b fxS) : Calls Try.prog 17 #[.pointer (some ⟨b, 0, none⟩), .string ⟨#[98]⟩] w fun e w' => e = .returned (.int .i64 1) ∧ Below w.heap.size w w' := by
  have h := kind_any b fxS ⟨#[98]⟩ w (by simp [fxS]) hS
  rw [fx_kind] at h
  exact h
theorem fx_gets (q : Option Addr) (cap : Nat) (w : World) (h : PrsOf w q fxP) : Calls Try.prog 21 #[.slice q 1 cap, .string ⟨#[98]⟩] w fun e w' => e = .returned (.tuple #[.agg #[.int .i64 1, .int .i64 5, .string ⟨#[]⟩], .bool true]) ∧ Below w.heap.size w w' := by
  have h := get_any q cap fxP ⟨#[98]⟩ w (by simp [fxP]) h
  rw [fx_get] at h
  exact h
theorem fx_name (w : World) : Calls Try.prog 23 #[.string ⟨#[97, 95, 49]⟩] w fun e w' => e = .returned (.bool true) ∧ w' = w := by
  have h := name_any ⟨#[97, 95, 49]⟩ w
  rw [name_a_1] at h
  exact h

set_option maxHeartbeats 1000000 in
theorem fixed_any (w : World) : Calls Try.prog 8 #[] w fun e w' => e = .returned (.bool true) ∧ Below w.heap.size w w' := by
  go_enter Try.func8, Try.ntmps8
  go_wp2_with (first
    | (go_at_call 9; refine (fx_new w _).mono ?_; rintro e w1 ⟨⟨b, rfl, hS⟩, b1⟩; have HS := hide hS; have B1 := hide b1; clear hS b1)
    | (go_at_call 15; refine (fx_len b _ (unhide HS)).mono ?_; rintro e w2 ⟨rfl, rfl⟩)
    | (go_at_call 17; refine (fx_kinds b _ (unhide HS)).mono ?_; rintro e w3 ⟨rfl, b3⟩; have HS3 := hide ((unhide HS).below b3); have B3 := hide (below_sub (unhide B1) b3); clear b3)
    | (go_at_call 26; refine (number_any ⟨#[98]⟩ 5 _).mono ?_; rintro e w4 ⟨rfl, b4⟩; have HS4 := hide ((unhide HS3).below b4); have B4 := hide (below_sub (unhide B3) b4); clear b4)
    | (go_at_call 13; refine (fx_event b w4 _ (unhide HS4)).mono ?_; rintro e w5 ⟨⟨q, cap, rfl, hP⟩, b5⟩; have HP := hide hP; have B5 := hide (below_sub (unhide B4) b5); clear hP b5)
    | (go_at_call 21; refine (fx_gets q cap _ (unhide HP)).mono ?_; rintro e w6 ⟨rfl, b6⟩; have B6 := hide (below_sub (unhide B5) b6); clear b6)
    | (go_at_call 23; refine (fx_name _).mono ?_; rintro e w7 ⟨rfl, rfl⟩))
  go_ret
  exact ⟨rfl, (unhide B6).alloc (unhide B6).size _⟩
end Go.Proofs.Ytojeihchkdkkgab

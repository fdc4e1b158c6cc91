/- What the reference's Depth and Size return, for every tree. -/
import Derived.Test.YtmdkdkcjgjknoaaDoorDeep
import Derived.Test.YtmdkdkcjgjknoaaDoorBuild
import Derived.Test.YtmdkdkcjgjknoaaDoorSameNode
namespace Go.Proofs.YtmdkdkcjgjknoaaDoor
open Go.RowKit Go.Sort

set_option maxRecDepth 100000 in
set_option maxHeartbeats 4000000 in
theorem refDepth_any : ∀ (t : Nd) (v : Nv) (w : World), NdIn w v t → sizeN t ≤ 1000000000 →
    Calls Tryd.prog 17 #[v.val] w fun e w' => e = .returned (.int .i64 (depN t)) ∧ Below w.heap.size w w' := by
  intro t
  induction t using Nd.ind with
  | h kind attr ints words lo hi op kids ih =>
    intro v w hin hsz
    obtain ⟨qi, ci, qw, cw, qk, ck, rfl, hi1, hw1, hk⟩ := hin.parts
    simp only [sizeN] at hsz
    have hlen := len_size kids
    have a0 : (kids.length : Int) ≤ 1000000000 := by omega
    have hd2 := depL_size kids
    obtain ⟨X, HX⟩ : ∃ X, w.alloc (.cells #[.int .i64 kind, .string attr, .slice qi ints.length ci, .slice qw words.length cw, .int .i64 lo, .int .i64 hi, .int .i64 op, .slice qk kids.length ck] 28) = X := ⟨_, rfl⟩
    have hX0 : X.heap[w.heap.size]? = some (.cells #[.int .i64 kind, .string attr, .slice qi ints.length ci, .slice qw words.length cw, .int .i64 lo, .int .i64 hi, .int .i64 op, .slice qk kids.length ck] 28 (0, 0)) := by rw [← HX]; exact box_nw _ _
    have hwX : Below w.heap.size w X := by rw [← HX]; exact (Below.refl _ _).alloc (Nat.le_refl _) _
    obtain ⟨x0, x1, x2, x3, x4, x5, x6, x7⟩ := of8' hX0
    have hz0 := heap_lt hX0
    have HX0 := hide hX0
    have HWX := hide hwX
    have HK := hide (hk.below hwX)
    have IH := hide ih
    clear ih hk hin hi1 hw1 hX0 hwX
    simp only [Nv.val]
    go_enter Tryd.func17, Tryd.ntmps17
    go_wp2
    go_loopw [3, 4] (fun d i wr => ∃ k : Nat, k ≤ kids.length ∧ i = .int .i64 k ∧ d = .int .i64 (depL (kids.take k) : Nat) ∧ Below X.heap.size X wr) (fun _ i _ => kids.length - (intOf i).toNat)
    case atStart => exact ⟨0, by omega, rfl, rfl, Below.refl _ _⟩
    case round =>
      obtain ⟨k, hkk, rfl, rfl, hbel⟩ := hrel
      have hd1 := depL_take kids k
      obtain ⟨t0, t1, t2, t3, t4, t5, t6, t7⟩ := of8' ((hbel.block _ hz0).trans (unhide HX0))
      by_cases hlt : k < kids.length
      · obtain ⟨x, hx, hxd⟩ := get_at hlt
        clear hxd
        obtain ⟨b, off, v', hq, hin, g0, g1, g2, g3, g4, g5, g6, g7⟩ := (unhide HK).on hx hbel
        subst hq
        have hxm : x ∈ kids := List.mem_of_getElem? hx
        have hxs := sizeL_mem hxm
        have hdx := dep_le x
        have ki0 : (0 : Int) ≤ (k : Int) := by omega
        have ki1 : (k : Int) < (kids.length : Int) := by omega
        have HS := hide (depL_snoc hx)
        have hsn := depL_take kids (k + 1)
        rw [unhide HS] at hsn
        have hC := unhide IH x hxm v' wr hin (by omega)
        simp only [Nv.val] at hC
        have HB := hide hbel
        clear hin hx hbel hxm
        go_wp2_with (go_at_call 17; refine hC.mono ?_; rintro e w1 ⟨rfl, hb1⟩)
        exact ⟨⟨k + 1, by omega, by go_num, congrArg (Value.int .i64) (by rw [unhide HS]; omega), below_sub (unhide HB) hb1⟩, by simp [intOf]; omega⟩
      · have ki1 : ¬ (k : Int) < (kids.length : Int) := by omega
        have HE := hide (List.take_of_length_le (l := kids) (i := k) (by omega))
        have HB := hide hbel
        clear hbel
        go_wp2
        go_ret
        exact ⟨ret_int (by rw [unhide HE]; simp only [depN]; omega), below_sub (unhide HWX) (unhide HB)⟩
set_option maxRecDepth 100000 in
set_option maxHeartbeats 4000000 in
theorem refSize_any : ∀ (t : Nd) (v : Nv) (w : World), NdIn w v t → sizeN t ≤ 1000000000 →
    Calls Tryd.prog 19 #[v.val] w fun e w' => e = .returned (.int .i64 (sizeN t)) ∧ Below w.heap.size w w' := by
  intro t
  induction t using Nd.ind with
  | h kind attr ints words lo hi op kids ih =>
    intro v w hin hsz
    obtain ⟨qi, ci, qw, cw, qk, ck, rfl, hi1, hw1, hk⟩ := hin.parts
    simp only [sizeN] at hsz
    have hlen := len_size kids
    have a0 : (kids.length : Int) ≤ 1000000000 := by omega
    have hd2 := depL_size kids
    obtain ⟨X, HX⟩ : ∃ X, w.alloc (.cells #[.int .i64 kind, .string attr, .slice qi ints.length ci, .slice qw words.length cw, .int .i64 lo, .int .i64 hi, .int .i64 op, .slice qk kids.length ck] 28) = X := ⟨_, rfl⟩
    have hX0 : X.heap[w.heap.size]? = some (.cells #[.int .i64 kind, .string attr, .slice qi ints.length ci, .slice qw words.length cw, .int .i64 lo, .int .i64 hi, .int .i64 op, .slice qk kids.length ck] 28 (0, 0)) := by rw [← HX]; exact box_nw _ _
    have hwX : Below w.heap.size w X := by rw [← HX]; exact (Below.refl _ _).alloc (Nat.le_refl _) _
    obtain ⟨x0, x1, x2, x3, x4, x5, x6, x7⟩ := of8' hX0
    have hz0 := heap_lt hX0
    have HX0 := hide hX0
    have HWX := hide hwX
    have HK := hide (hk.below hwX)
    have IH := hide ih
    clear ih hk hin hi1 hw1 hX0 hwX
    simp only [Nv.val]
    go_enter Tryd.func19, Tryd.ntmps19
    go_wp2
    go_loopw [3, 4] (fun d i wr => ∃ k : Nat, k ≤ kids.length ∧ i = .int .i64 k ∧ d = .int .i64 ((1 + sizeL (kids.take k) : Nat)) ∧ Below X.heap.size X wr) (fun _ i _ => kids.length - (intOf i).toNat)
    case atStart => exact ⟨0, by omega, rfl, rfl, Below.refl _ _⟩
    case round =>
      obtain ⟨k, hkk, rfl, rfl, hbel⟩ := hrel
      have hd1 := sizeL_take kids k
      obtain ⟨t0, t1, t2, t3, t4, t5, t6, t7⟩ := of8' ((hbel.block _ hz0).trans (unhide HX0))
      by_cases hlt : k < kids.length
      · obtain ⟨x, hx, hxd⟩ := get_at hlt
        clear hxd
        obtain ⟨b, off, v', hq, hin, g0, g1, g2, g3, g4, g5, g6, g7⟩ := (unhide HK).on hx hbel
        subst hq
        have hxm : x ∈ kids := List.mem_of_getElem? hx
        have hxs := sizeL_mem hxm
        have hdx := dep_le x
        have ki0 : (0 : Int) ≤ (k : Int) := by omega
        have ki1 : (k : Int) < (kids.length : Int) := by omega
        have HS := hide (sizeL_snoc hx)
        have hsn := sizeL_take kids (k + 1)
        rw [unhide HS] at hsn
        have hC := unhide IH x hxm v' wr hin (by omega)
        simp only [Nv.val] at hC
        have HB := hide hbel
        clear hin hx hbel hxm
        go_wp2_with (go_at_call 19; refine hC.mono ?_; rintro e w1 ⟨rfl, hb1⟩)
        exact ⟨⟨k + 1, by omega, by go_num, congrArg (Value.int .i64) (by rw [unhide HS]; omega), below_sub (unhide HB) hb1⟩, by simp [intOf]; omega⟩
      · have ki1 : ¬ (k : Int) < (kids.length : Int) := by omega
        have HE := hide (List.take_of_length_le (l := kids) (i := k) (by omega))
        have HB := hide hbel
        clear hbel
        go_wp2
        go_ret
        exact ⟨ret_int (by rw [unhide HE]; simp only [sizeN]; omega), below_sub (unhide HWX) (unhide HB)⟩
end Go.Proofs.YtmdkdkcjgjknoaaDoor

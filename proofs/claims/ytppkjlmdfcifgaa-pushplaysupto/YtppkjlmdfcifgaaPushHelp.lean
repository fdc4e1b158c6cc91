/- Helpers for the law PushPlays. -/
import Derived.Test.YtppkjlmdfcifgaaPushFixed
import Derived.Test.YtppkjlmdfcifgaaSameNode
import Derived.Lib.QuietBelow
import Derived.BigQuiet
import Derived.Shelf.Abstract
namespace Go.Proofs.Ytppkjlmdfcifgaa
open Go.RowKit Go.Sort

theorem sameTT {t : Nd} (va vb : Nv) (w : World) (ha : NdIn w va t) (hb : NdIn w vb t) (ok : wtN t ≤ 1000000000) : Calls Try.prog 40 #[.agg #[.int .i64 va.kind, .string va.attr, .slice va.qi va.ni va.ci, .slice va.qw va.nw va.cw, .int .i64 va.lo, .int .i64 va.hi, .int .i64 va.op, .slice va.qk va.nk va.ck], .agg #[.int .i64 vb.kind, .string vb.attr, .slice vb.qi vb.ni vb.ci, .slice vb.qw vb.nw vb.cw, .int .i64 vb.lo, .int .i64 vb.hi, .int .i64 vb.op, .slice vb.qk vb.nk vb.ck]] w fun e w' => e = .returned (.bool true) ∧ Below w.heap.size w w' := by
  have := sameM_all t t va vb w ha hb (OkN.of_wt t ok)
  rwa [sameT_yes rfl] at this
theorem zero_in (w : World) : NdIn w ⟨0, ⟨#[]⟩, none, 0, 0, none, 0, 0, 0, 0, 0, none, 0, 0⟩ zeroT :=
  NdIn.make (ints := []) (words := []) (kids := []) (SlOf.none _) (SlOf.none _) ⟨[], SlOf.none _, rfl, fun j v x h => by simp at h⟩
theorem one_nw {w Y : World} {o : Obj} (h : Y = w.alloc o) : Y.heap[w.heap.size]? = some o ∧ Below w.heap.size w Y ∧ Y.heap.size = w.heap.size + 1 := by
  subst h
  exact ⟨box_nw _ _, (Below.refl _ _).alloc (Nat.le_refl _) _, by simp⟩
set_option maxRecDepth 100000 in
set_option maxHeartbeats 4000000 in
theorem width_bad (x : Nd) (m : Int) (v : Nv) (w : World) (hin : NdIn w v x) (hx : chkN x = false) (hwt : wtN x ≤ 1000000000) :
    Calls Try.prog 38 #[.agg #[.int .i64 v.kind, .string v.attr, .slice v.qi v.ni v.ci, .slice v.qw v.nw v.cw, .int .i64 v.lo, .int .i64 v.hi, .int .i64 v.op, .slice v.qk v.nk v.ck], .int .i64 m] w fun e w' => e = .returned (.tuple #[.int .i64 0, .int .i64 1]) ∧ Below w.heap.size w w' := by
  obtain ⟨X, HX⟩ : ∃ X, w.alloc (.cells #[.int .i64 v.kind, .string v.attr, .slice v.qi v.ni v.ci, .slice v.qw v.nw v.cw, .int .i64 v.lo, .int .i64 v.hi, .int .i64 v.op, .slice v.qk v.nk v.ck] 31) = X := ⟨_, rfl⟩
  have hX0 : X.heap[w.heap.size]? = some (.cells #[.int .i64 v.kind, .string v.attr, .slice v.qi v.ni v.ci, .slice v.qw v.nw v.cw, .int .i64 v.lo, .int .i64 v.hi, .int .i64 v.op, .slice v.qk v.nk v.ck] 31 (0, 0)) := by rw [← HX]; exact box_nw _ _
  have hwX : Below w.heap.size w X := by rw [← HX]; exact (Below.refl _ _).alloc (Nat.le_refl _) _
  obtain ⟨x0, x1, x2, x3, x4, x5, x6, x7⟩ := of8' hX0
  have hp := push_any x v X (hin.keep hwX) hwt
  have HWX := hide hwX
  rw [hx, show code false = 1 from rfl] at hp
  simp only [Nv.val] at hp
  clear hin hwX hX0 hx
  go_enter Try.func38, Try.ntmps38
  go_wp2_with (go_at_call 36; refine hp.mono ?_; rintro e w1 ⟨⟨u, rfl, hu⟩, b1⟩; have B1 := hide b1; clear b1 hu)
  refine bodyPost_ret (v := .tuple #[.int .i64 0, .int .i64 1]) (by simp [results, Try.results38, go_sem]) rfl ⟨rfl, (below_sub (unhide HWX) (unhide B1)).alloc (below_sub (unhide HWX) (unhide B1)).size _⟩
end Go.Proofs.Ytppkjlmdfcifgaa

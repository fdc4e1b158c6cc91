/- A predicate. -/
import Derived.Test.YtencibjmiphinaaGreatDoorQZaj
import Derived.Test.YtencibjmiphinaaGreatDoorQZae
import Derived.Test.YtencibjmiphinaaGreatDoorQZah
namespace Go.Proofs.YtencibjmiphinaaGreatDoor
open Go.RowKit

/-- A rule's answer, one by one. -/
theorem NdR.bad {g : Nat} {en : Int} {w w' : World} {x : Rs Nd} {e : Ending} {p : Int} (h : NdR g en w x e w') (hx : x = .bad p) : e = refusal p ∧ w.grownBy w' (some g) := by subst hx; exact h
theorem NdR.ok {g : Nat} {en : Int} {w w' : World} {x : Rs Nd} {e : Ending} {t : Nd} {r : List Tk} (h : NdR g en w x e w') (hx : x = .ok t r) : NewT w.heap.size w' t e ∧ Nx g en r w w' := by subst hx; exact h
set_option maxHeartbeats 2000000 in
theorem prd_set (g : Nat) (en : Int) (l r r1 : List Tk) (t : Tk) (w : World) (hp : Ps w g en l) (e1 : ndL en 1 l = .ok t r) (e2 : skL ⟨#[123]⟩ r = some r1) :
    Calls Tryz.prog 141 #[.pointer (some ⟨g, 0, none⟩)] w fun e w' => NdR g en w (setL en t.2.2.2.2 r1) e w' := by
  have hg := hp.lt
  have h0 := hp.z
  have hf4 := fld4
  have hsm : t.2.2.2.2.size ≤ 281474976710656 := by
    cases l with
    | nil => simp [ndL] at e1
    | cons t' l =>
      simp only [ndL] at e1
      split at e1
      · cases e1; have := hp.small t (by simp); omega
      · cases e1
  have hc1 := need_yes g en 1 l r t _ h0.1 e1
  unfold tkV at hc1
  have E2 := hide e2
  cases ex : setL en t.2.2.2.2 r1 with
  | bad p =>
    have EX := hide ex
    clear hp e1 h0 ex e2
    go_enter Tryz.func141, Tryz.ntmps141
    go_wp2_with first
      | (go_at_call 155; refine hc1.mono ?_; rintro e w1 ⟨rfl, hx⟩; have X1 := hide hx; clear hx)
      | (go_at_call 154; refine (strClone _ hsm _).mono ?_; rintro e w2 ⟨rfl, hb⟩; have X2 := hide ((unhide X1).bel hb); clear hb)
      | (go_at_call 119; refine (skip_yes g en ⟨#[123]⟩ r r1 _ (unhide X2).1 (unhide E2)).mono ?_; rintro e w3 ⟨rfl, hx⟩; have X3 := hide ((unhide X2).trans hx); clear hx)
      | (go_at_call 156; refine (set_any g en t.2.2.2.2 r1 _ (unhide X3).1).mono ?_; rintro e w4 hn; obtain ⟨rfl, hx⟩ := hn.bad (unhide EX); have X4 := hide hx; clear hx hn; simp only [refusal])
    exact ⟨rfl, rfl, gr_z ((unhide X3).2.trans (unhide X4))⟩
  | ok x r2 =>
    have EX := hide ex
    clear hp e1 h0 ex e2
    go_enter Tryz.func141, Tryz.ntmps141
    go_wp2_with first
      | (go_at_call 155; refine hc1.mono ?_; rintro e w1 ⟨rfl, hx⟩; have X1 := hide hx; clear hx)
      | (go_at_call 154; refine (strClone _ hsm _).mono ?_; rintro e w2 ⟨rfl, hb⟩; have X2 := hide ((unhide X1).bel hb); clear hb)
      | (go_at_call 119; refine (skip_yes g en ⟨#[123]⟩ r r1 _ (unhide X2).1 (unhide E2)).mono ?_; rintro e w3 ⟨rfl, hx⟩; have X3 := hide ((unhide X2).trans hx); clear hx)
      | (go_at_call 156; refine (set_any g en t.2.2.2.2 r1 _ (unhide X3).1).mono ?_; rintro e w4 hn; obtain ⟨⟨v, rfl, hv⟩, hx⟩ := hn.ok (unhide EX); have X5 := hide ((unhide X3).trans hx); have HV := hide hv; clear hx hv hn; obtain ⟨z1, ⟨q0, q1, q2, q3, q4, q5, q6, q7⟩, qf⟩ := res8 (unhide X5).2 hg; unfold Nv.val)
    refine bodyPost_ret (v := v.val) (by simp [results, Tryz.results141, go_sem, Nv.val, *]) rfl ?_
    exact fin8 (unhide X5) hg (unhide HV) (by have := (unhide X3).2.size; simp at this; omega)
set_option maxHeartbeats 2000000 in
theorem prd_bounds (g : Nat) (en : Int) (l r r1 : List Tk) (t : Tk) (w : World) (hp : Ps w g en l) (e1 : ndL en 1 l = .ok t r) (e0 : skL ⟨#[123]⟩ r = none) (e2 : skL ⟨#[91]⟩ r = some r1) :
    Calls Tryz.prog 141 #[.pointer (some ⟨g, 0, none⟩)] w fun e w' => NdR g en w (bdL en t.2.2.2.2 r1) e w' := by
  have hg := hp.lt
  have h0 := hp.z
  have hf4 := fld4
  have hsm : t.2.2.2.2.size ≤ 281474976710656 := by
    cases l with
    | nil => simp [ndL] at e1
    | cons t' l =>
      simp only [ndL] at e1
      split at e1
      · cases e1; have := hp.small t (by simp); omega
      · cases e1
  have hc1 := need_yes g en 1 l r t _ h0.1 e1
  unfold tkV at hc1
  have E2 := hide e2
  have E0 := hide e0
  cases ex : bdL en t.2.2.2.2 r1 with
  | bad p =>
    have EX := hide ex
    clear hp e1 h0 ex e2 e0
    go_enter Tryz.func141, Tryz.ntmps141
    go_wp2_with first
      | (go_at_call 155; refine hc1.mono ?_; rintro e w1 ⟨rfl, hx⟩; have X1 := hide hx; clear hx)
      | (go_at_call 154; refine (strClone _ hsm _).mono ?_; rintro e w2 ⟨rfl, hb⟩; have X2 := hide ((unhide X1).bel hb); clear hb)
      | (go_at_call 119; have tst := unhide M0; clear tst; refine (skip_yes g en ⟨#[91]⟩ r r1 _ (unhide X2).1 (unhide E2)).mono ?_; rintro e w3 ⟨rfl, hx⟩; have X3 := hide ((unhide X2).trans hx); clear hx)
      | (go_at_call 119; refine (skip_no g en ⟨#[123]⟩ r _ (unhide X2).1 (unhide E0)).mono ?_; rintro e w3 ⟨rfl, rfl⟩; have M0 := hide True.intro)
      | (go_at_call 157; refine (bounds_any g en t.2.2.2.2 r1 _ (unhide X3).1).mono ?_; rintro e w4 hn; obtain ⟨rfl, hx⟩ := hn.bad (unhide EX); have X4 := hide hx; clear hx hn; simp only [refusal])
    exact ⟨rfl, rfl, gr_z ((unhide X3).2.trans (unhide X4))⟩
  | ok x r2 =>
    have EX := hide ex
    clear hp e1 h0 ex e2 e0
    go_enter Tryz.func141, Tryz.ntmps141
    go_wp2_with first
      | (go_at_call 155; refine hc1.mono ?_; rintro e w1 ⟨rfl, hx⟩; have X1 := hide hx; clear hx)
      | (go_at_call 154; refine (strClone _ hsm _).mono ?_; rintro e w2 ⟨rfl, hb⟩; have X2 := hide ((unhide X1).bel hb); clear hb)
      | (go_at_call 119; have tst := unhide M0; clear tst; refine (skip_yes g en ⟨#[91]⟩ r r1 _ (unhide X2).1 (unhide E2)).mono ?_; rintro e w3 ⟨rfl, hx⟩; have X3 := hide ((unhide X2).trans hx); clear hx)
      | (go_at_call 119; refine (skip_no g en ⟨#[123]⟩ r _ (unhide X2).1 (unhide E0)).mono ?_; rintro e w3 ⟨rfl, rfl⟩; have M0 := hide True.intro)
      | (go_at_call 157; refine (bounds_any g en t.2.2.2.2 r1 _ (unhide X3).1).mono ?_; rintro e w4 hn; obtain ⟨⟨v, rfl, hv⟩, hx⟩ := hn.ok (unhide EX); have X5 := hide ((unhide X3).trans hx); have HV := hide hv; clear hx hv hn; obtain ⟨z1, ⟨q0, q1, q2, q3, q4, q5, q6, q7⟩, qf⟩ := res8 (unhide X5).2 hg; unfold Nv.val)
    refine bodyPost_ret (v := v.val) (by simp [results, Tryz.results141, go_sem, Nv.val, *]) rfl ?_
    exact fin8 (unhide X5) hg (unhide HV) (by have := (unhide X3).2.size; simp at this; omega)
set_option maxHeartbeats 2000000 in
theorem prd_prefix (g : Nat) (en : Int) (l r : List Tk) (t : Tk) (w : World) (hp : Ps w g en l) (e1 : ndL en 1 l = .ok t r) (e0 : skL ⟨#[123]⟩ r = none) (e2 : skL ⟨#[91]⟩ r = none) :
    Calls Tryz.prog 141 #[.pointer (some ⟨g, 0, none⟩)] w fun e w' => NdR g en w (pxL en t.2.2.2.2 r) e w' := by
  have hg := hp.lt
  have h0 := hp.z
  have hf4 := fld4
  have hsm : t.2.2.2.2.size ≤ 281474976710656 := by
    cases l with
    | nil => simp [ndL] at e1
    | cons t' l =>
      simp only [ndL] at e1
      split at e1
      · cases e1; have := hp.small t (by simp); omega
      · cases e1
  have hc1 := need_yes g en 1 l r t _ h0.1 e1
  unfold tkV at hc1
  have E2 := hide e2
  have E0 := hide e0
  cases e3 : ndL en 3 r with
  | bad p =>
    have hx : pxL en t.2.2.2.2 r = .bad p := by simp only [pxL, e3]
    rw [hx]
    have E3 := hide e3
    clear hp e1 h0 e0 e2 e3 hx
    go_enter Tryz.func141, Tryz.ntmps141
    go_wp2_with first
      | (go_at_call 155; refine (need_no g en 3 r p _ (unhide X2).1 (unhide E3)).mono ?_; rintro e w3 ⟨rfl, hb⟩; have HB := hide hb; clear hb; simp only [refusal])
      | (go_at_call 155; refine hc1.mono ?_; rintro e w1 ⟨rfl, hx⟩; have X1 := hide hx; clear hx)
      | (go_at_call 154; refine (strClone _ hsm _).mono ?_; rintro e w2 ⟨rfl, hb⟩; have X2 := hide ((unhide X1).bel hb); clear hb)
      | (go_at_call 119; have tst := unhide M0; clear tst; refine (skip_no g en ⟨#[91]⟩ r _ (unhide X2).1 (unhide E2)).mono ?_; rintro e w3 ⟨rfl, rfl⟩)
      | (go_at_call 119; refine (skip_no g en ⟨#[123]⟩ r _ (unhide X2).1 (unhide E0)).mono ?_; rintro e w3 ⟨rfl, rfl⟩; have M0 := hide True.intro)
    exact ⟨rfl, rfl, gr_z ((unhide X2).2.trans (grown_bel (unhide HB) _))⟩
  | ok t3 r3 =>
    cases e4 : sgL en ⟨#[42]⟩ r3 with
    | bad p =>
      have hx : pxL en t.2.2.2.2 r = .bad p := by simp only [pxL, e3, e4]
      rw [hx]
      have E3 := hide e3
      have E4 := hide e4
      clear hp e1 h0 e0 e2 e3 hx e4
      go_enter Tryz.func141, Tryz.ntmps141
      go_wp2_with first
        | (go_at_call 155; refine (need_yes g en 3 r r3 t3 _ (unhide X2).1 (unhide E3)).mono ?_; rintro e w3 ⟨rfl, hx⟩; have X3 := hide ((unhide X2).trans hx); clear hx; unfold tkV)
        | (go_at_call 155; refine hc1.mono ?_; rintro e w1 ⟨rfl, hx⟩; have X1 := hide hx; clear hx)
        | (go_at_call 154; refine (strClone _ hsm _).mono ?_; rintro e w2 ⟨rfl, hb⟩; have X2 := hide ((unhide X1).bel hb); clear hb)
        | (go_at_call 119; have tst := unhide M0; clear tst; refine (skip_no g en ⟨#[91]⟩ r _ (unhide X2).1 (unhide E2)).mono ?_; rintro e w3 ⟨rfl, rfl⟩)
        | (go_at_call 119; refine (skip_no g en ⟨#[123]⟩ r _ (unhide X2).1 (unhide E0)).mono ?_; rintro e w3 ⟨rfl, rfl⟩; have M0 := hide True.intro)
        | (go_at_call 140; refine (sign_no g en ⟨#[42]⟩ r3 p _ (unhide X3).1 (unhide E4)).mono ?_; rintro e w4 ⟨rfl, rfl⟩; simp only [refusal])
      exact ⟨rfl, rfl, gr_z (unhide X3).2⟩
    | ok u4 r4 =>
      have hx : pxL en t.2.2.2.2 r = .ok (.mk 4 t.2.2.2.2 [] [t3.2.2.2.2] 0 0 1 []) r4 := by simp only [pxL, e3, e4]
      rw [hx]
      have E3 := hide e3
      have E4 := hide e4
      clear hp e1 h0 e0 e2 e3 hx e4
      go_enter Tryz.func141, Tryz.ntmps141
      go_wp2_with first
        | (go_at_call 155; refine (need_yes g en 3 r r3 t3 _ (unhide X2).1 (unhide E3)).mono ?_; rintro e w3 ⟨rfl, hx⟩; have X3 := hide ((unhide X2).trans hx); clear hx; unfold tkV)
        | (go_at_call 155; refine hc1.mono ?_; rintro e w1 ⟨rfl, hx⟩; have X1 := hide hx; clear hx)
        | (go_at_call 154; refine (strClone _ hsm _).mono ?_; rintro e w2 ⟨rfl, hb⟩; have X2 := hide ((unhide X1).bel hb); clear hb)
        | (go_at_call 119; have tst := unhide M0; clear tst; refine (skip_no g en ⟨#[91]⟩ r _ (unhide X2).1 (unhide E2)).mono ?_; rintro e w3 ⟨rfl, rfl⟩)
        | (go_at_call 119; refine (skip_no g en ⟨#[123]⟩ r _ (unhide X2).1 (unhide E0)).mono ?_; rintro e w3 ⟨rfl, rfl⟩; have M0 := hide True.intro)
        | (go_at_call 140; refine (sign_yes g en ⟨#[42]⟩ r3 r4 u4 _ (unhide X3).1 (unhide E4)).mono ?_; rintro e w4 ⟨rfl, hx⟩; have X4 := hide ((unhide X3).trans hx); clear hx)
        | (go_at_call 158; refine (prefix_any t.2.2.2.2 t3.2.2.2.2 _).mono ?_; rintro e w5 ⟨⟨v, rfl, hv⟩, hb⟩; have X5 := hide ((unhide X4).bel hb); have HV := hide hv; clear hb hv; obtain ⟨z1, ⟨q0, q1, q2, q3, q4, q5, q6, q7⟩, qf⟩ := res8 (unhide X5).2 hg; unfold Nv.val)
      refine bodyPost_ret (v := v.val) (by simp [results, Tryz.results141, go_sem, Nv.val, *]) rfl ?_
      exact fin8 (unhide X5) hg (unhide HV) (by have := (unhide X4).2.size; simp at this; omega)
theorem prd_any (g : Nat) (en : Int) (l : List Tk) (w : World) (hp : Ps w g en l) :
    Calls Tryz.prog 141 #[.pointer (some ⟨g, 0, none⟩)] w fun e w' => NdR g en w (prL en l) e w' := by
  cases e1 : ndL en 1 l with
  | bad p =>
    have hx : prL en l = .bad p := by simp only [prL, e1]
    rw [hx]
    have hc1 := need_no g en 1 l p _ hp.z.1 e1
    clear hp e1 hx
    go_enter Tryz.func141, Tryz.ntmps141
    go_wp2_with (go_at_call 155; refine hc1.mono ?_; rintro e w' ⟨rfl, hb⟩; have HB := hide hb; clear hb; simp only [refusal])
    exact ⟨rfl, rfl, gr_z (grown_bel (unhide HB) _)⟩
  | ok t r =>
    cases e2 : skL ⟨#[123]⟩ r with
    | some r1 =>
      have hx : prL en l = setL en t.2.2.2.2 r1 := by simp only [prL, e1, e2]
      rw [hx]; exact prd_set g en l r r1 t w hp e1 e2
    | none =>
      cases e3 : skL ⟨#[91]⟩ r with
      | some r1 =>
        have hx : prL en l = bdL en t.2.2.2.2 r1 := by simp only [prL, e1, e2, e3]
        rw [hx]; exact prd_bounds g en l r r1 t w hp e1 e2 e3
      | none =>
        have hx : prL en l = pxL en t.2.2.2.2 r := by simp only [prL, e1, e2, e3]
        rw [hx]; exact prd_prefix g en l r t w hp e1 e2 e3
end Go.Proofs.YtencibjmiphinaaGreatDoor
namespace Go.Proofs.YtencibjmiphinaaGreatDoor
open Go.RowKit

theorem Tryz.builderSize : (Tryz.prog.info? 89).map (·.size) = some 2 := by kernel_rfl
theorem Tryz.builderLies : liesAt Tryz.prog Tryz.prog.depth 89 (2 / Tryz.prog.cellsOf 89) 0 89 1 = true := by kernel_rfl
theorem Tryz.byteInfo : (Tryz.prog.info? 5).map (fun i => (i.zero, i.size, i.bytes)) = some (some (.int .u8 0), 1, 1) := by kernel_rfl

set_option maxHeartbeats 1000000 in
set_option maxRecDepth 100000 in
theorem check_fresh (b : Nat) (w : World) (h0 : w.cell? ⟨b, 0, none⟩ = some (.pointer none)) (hsh : w.shape? b = some (89, 2)) (hfz : w.frozen? ⟨b, 0, none⟩ = false) :
    Calls Tryz.prog 113 #[.pointer (some ⟨b, 0, none⟩)] w fun e w' => e = .returned (.tuple #[]) ∧ w' = w.setCell ⟨b, 0, none⟩ (.pointer (some ⟨b, 0, none⟩)) := by
  obtain ⟨j, hj, hjs⟩ := Option.map_eq_some_iff.1 Tryz.builderSize
  go_enter Tryz.func113, Tryz.ntmps113
  go_wp2
  rw [Lib.run_to_unsafe w ⟨b, 0, none⟩ Tryz.underlying86 Tryz.underlying163 hj (by rw [hjs]; decide) hsh (Nat.zero_lt_succ 1)]
  simp only [Result.andThen]
  rw [Oper.upon_value]
  go_wp2
  rw [run_callFunc_extern Tryz.func136 (by kernel_rfl) (by kernel_rfl) (by kernel_rfl) (e := Extern.AbiNoEscape.same) (by kernel_rfl)]
  rw [Lib.run_noEscape]
  simp only [Result.andThen]
  rw [Oper.upon_value]
  go_wp2
  rw [Lib.run_from_unsafe w ⟨b, 0, none⟩ Tryz.underlying163 Tryz.underlying86 hj hsh Tryz.builderLies]
  simp only [Result.andThen]
  rw [Oper.upon_value]
  go_wp2
  go_end0
  exact ⟨rfl, rfl⟩
set_option maxHeartbeats 1000000 in
set_option maxRecDepth 100000 in
theorem check_used (b : Nat) (w : World) (h0 : w.cell? ⟨b, 0, none⟩ = some (.pointer (some ⟨b, 0, none⟩))) :
    Calls Tryz.prog 113 #[.pointer (some ⟨b, 0, none⟩)] w fun e w' => e = .returned (.tuple #[]) ∧ w' = w := by
  obtain ⟨j, hj, _⟩ := Option.map_eq_some_iff.1 Tryz.builderSize
  go_enter Tryz.func113, Tryz.ntmps113
  go_wp2
  rw [Lib.run_neq_ptr_same w _ Tryz.underlying86 hj]
  go_wp2
  go_end0
  exact ⟨rfl, rfl⟩
/-- The builder in block b, its memory from B on, holds the bytes l. -/
def Bld (B b : Nat) (l : List UInt8) (w : World) : Prop := Lib.IsBuilderF 89 5 B b (Lib.byteCells l) w
/-- What a builder's call leaves as it was. -/
def Kept (B b : Nat) (w w' : World) : Prop := Below B w w' ∧ Lib.OthersKept 5 (some b) w w'
theorem Kept.refl (B b : Nat) (w : World) : Kept B b w w := ⟨Below.refl _ _, Lib.OthersKept.refl _ _ _⟩
theorem Kept.trans {B b : Nat} {x y z : World} (h : Kept B b x y) (k : Kept B b y z) : Kept B b x z := ⟨h.1.trans k.1, h.2.trans k.2⟩
theorem copyCheck_any (B b : Nat) (bs : List Value) (w : World) (h : Lib.IsBuilderF 89 5 B b bs w) :
    Calls Tryz.prog 113 #[.pointer (some ⟨b, 0, none⟩)] w fun e w' => e = .returned (.tuple #[]) ∧ Lib.BuilderAtF 89 5 B b (.pointer (some ⟨b, 0, none⟩)) bs w' ∧ Kept B b w w' := by
  rcases h with h | h
  · refine (check_fresh b w h.cell0 h.shape h.frozen0).mono ?_
    rintro e w' ⟨rfl, rfl⟩
    exact ⟨rfl, h.used _, (Below.refl B w).setCell (p := ⟨b, 0, none⟩) h.1 _, (Lib.OthersKept.refl _ _ w).setCell ⟨b, 0, none⟩ rfl _⟩
  · refine (check_used b w h.cell0).mono ?_
    rintro e w' ⟨rfl, rfl⟩
    exact ⟨rfl, h, Kept.refl _ _ _⟩
theorem heap_lt {w : World} {b : Nat} {o : Obj} (h : w.heap[b]? = some o) : b < w.heap.size := (Array.getElem?_eq_some_iff.1 h).1
set_option maxHeartbeats 2000000 in
set_option maxRecDepth 100000 in
theorem writeByte_any (B b : Nat) (l : List UInt8) (c : UInt8) (ci : Int) (hc : ci = (c.toNat : Int)) (w : World) (h : Bld B b l w) (hlen : l.length + 1 ≤ 140737488355328) (hBw : B ≤ w.heap.size) :
    Calls Tryz.prog 75 #[.pointer (some ⟨b, 0, none⟩), .int .u8 ci] w fun e w' => e = .returned .nilIface ∧ Bld B b (l ++ [c]) w' ∧ Kept B b w w' := by
  obtain ⟨i0, hi, hz0, hz1, hz2⟩ := info_parts Tryz.byteInfo
  have hcc := copyCheck_any B b _ w h
  subst hc
  clear h
  go_enter Tryz.func75, Tryz.ntmps75
  go_wp2_with (go_at_call 113; refine hcc.mono ?_)
  rintro e w1 ⟨rfl, ⟨hB, v, hbk, hown, hne⟩, hk1⟩
  have c0 : w1.cell? ⟨b, 0, none⟩ = some (.pointer (some ⟨b, 0, none⟩)) := by rw [Lib.cell_of_heap hbk]; rfl
  have c1 : w1.cell? ⟨b, 1, none⟩ = some v := by rw [Lib.cell_of_heap hbk]; rfl
  have hsz := hk1.1.size
  go_wp2_with (at_builtin; refine wpList_append_ownF _ rfl _ _ 87 rfl B 5 i0 (.int .u8 0) 1 1 Tryz.underlying87 hi hz0 hz1 hz2 rfl (by decide) _ _ _ rfl (hown.alloc _) ⟨w1.heap.size, 0, none⟩ 1 1 [.int .u8 (c.toNat : Int)] rfl rfl ?c1 ?c2 ?c3 ?c4 ?c5 ?_)
  case c1 =>
    intro j u hj
    match j, hj with
    | 0, hj => simp at hj; subst hj; simp [Addr.add]
  case c2 => intro u hu; simp at hu; subst hu; rfl
  case c3 => unfold maxLen; simp [Lib.byteCells]; omega
  case c4 => simp [Lib.byteCells]; omega
  case c5 => simp; omega
  intro v' w2 hown' hgrow _
  have hlt := heap_lt hbk
  have hb2 : w2.heap[b]? = some (.cells #[.pointer (some ⟨b, 0, none⟩), v] 89 (0, 0)) := by
    rw [hgrow.block b (by simp; omega) (fun e => hne e.symm), Lib.alloc_old w1 _ b hlt]
    exact hbk
  have d0 : w2.cell? ⟨b, 0, none⟩ = some (.pointer (some ⟨b, 0, none⟩)) := by rw [Lib.cell_of_heap hb2]; rfl
  have d1 : w2.cell? ⟨b, 1, none⟩ = some v := by rw [Lib.cell_of_heap hb2]; rfl
  have f1 : w2.frozen? ⟨b, 1, none⟩ = false := Lib.frozen_of_heap hb2 1
  obtain ⟨ao, n', cap, rfl⟩ : ∃ ao n' cap, v' = .slice ao n' cap := by
    rcases hown'.2 with ⟨hv, _⟩ | ⟨g, cap, cur, fz, hv, _⟩
    · exact ⟨_, _, _, hv⟩
    · exact ⟨_, _, _, hv⟩
  go_wp2
  go_ret
  refine ⟨rfl, Or.inr ?_, ?_, ((hk1.2.alloc _).grown hgrow (Lib.ownsRowF_kind (hown.alloc _))).setCell ⟨b, 1, none⟩ rfl _⟩
  · have e : Lib.byteCells (l ++ [c]) = Lib.byteCells l ++ [.int .u8 (c.toNat : Int)] := by simp [Lib.byteCells]
    rw [e]
    exact Lib.BuilderAtF.put (T := 89) (e := 5) hB hb2 (bs' := Lib.byteCells l ++ [.int .u8 (c.toNat : Int)]) (by simpa using hown') (by decide)
  · exact ((hk1.1.alloc (by omega) _).grown hgrow (by simp; omega) (fun k hk => (hown.lt k hk).1)).setCell (p := ⟨b, 1, none⟩) hB _
set_option maxHeartbeats 2000000 in
set_option maxRecDepth 100000 in
theorem writeString_any (B b : Nat) (l : List UInt8) (s : ByteArray) (w : World) (h : Bld B b l w) (hlen : l.length + s.size ≤ 140737488355328) (hBw : B ≤ w.heap.size) :
    Calls Tryz.prog 108 #[.pointer (some ⟨b, 0, none⟩), .string s] w fun e w' => e = .returned (.tuple #[.int .i64 s.size, .nilIface]) ∧ Bld B b (l ++ s.data.toList) w' ∧ Kept B b w w' := by
  obtain ⟨i0, hi, hz0, hz1, hz2⟩ := info_parts Tryz.byteInfo
  have hcc := copyCheck_any B b _ w h
  clear h
  go_enter Tryz.func108, Tryz.ntmps108
  go_wp2_with (go_at_call 113; refine hcc.mono ?_)
  rintro e w1 ⟨rfl, ⟨hB, v, hbk, hown, hne⟩, hk1⟩
  have c0 : w1.cell? ⟨b, 0, none⟩ = some (.pointer (some ⟨b, 0, none⟩)) := by rw [Lib.cell_of_heap hbk]; rfl
  have c1 : w1.cell? ⟨b, 1, none⟩ = some v := by rw [Lib.cell_of_heap hbk]; rfl
  have hsz := hk1.1.size
  go_wp2_with (at_builtin; refine Lib.wpList_append_own_stringF _ rfl _ _ 87 9 rfl B 5 i0 Tryz.underlying87 Tryz.underlying9 hi hz0 hz1 hz2 _ _ _ rfl hown s rfl ?c3 ?c4 ?c5 ?_)
  case c3 => unfold maxLen; simp [Lib.byteCells]; omega
  case c4 => simp [Lib.byteCells]; omega
  case c5 => omega
  intro v' w2 hown' hgrow _
  have hlt := heap_lt hbk
  have hb2 : w2.heap[b]? = some (.cells #[.pointer (some ⟨b, 0, none⟩), v] 89 (0, 0)) := by
    rw [hgrow.block b hlt (fun e => hne e.symm)]
    exact hbk
  have d0 : w2.cell? ⟨b, 0, none⟩ = some (.pointer (some ⟨b, 0, none⟩)) := by rw [Lib.cell_of_heap hb2]; rfl
  have d1 : w2.cell? ⟨b, 1, none⟩ = some v := by rw [Lib.cell_of_heap hb2]; rfl
  have f1 : w2.frozen? ⟨b, 1, none⟩ = false := Lib.frozen_of_heap hb2 1
  obtain ⟨ao, n', cap, rfl⟩ : ∃ ao n' cap, v' = .slice ao n' cap := by
    rcases hown'.2 with ⟨hv, _⟩ | ⟨g, cap, cur, fz, hv, _⟩
    · exact ⟨_, _, _, hv⟩
    · exact ⟨_, _, _, hv⟩
  go_wp2
  go_ret2
  refine ⟨rfl, Or.inr ?_, ?_, (hk1.2.grown hgrow (Lib.ownsRowF_kind hown)).setCell ⟨b, 1, none⟩ rfl _⟩
  · have e : Lib.byteCells (l ++ s.data.toList) = Lib.byteCells l ++ Lib.strCells s := by simp [Lib.byteCells, Lib.strCells]
    rw [e]
    exact Lib.BuilderAtF.put (T := 89) (e := 5) hB hb2 (bs' := Lib.byteCells l ++ Lib.strCells s) (by simpa [Lib.strCells_length] using hown') (by decide)
  · exact (hk1.1.grown hgrow (by omega) (fun k hk => (hown.lt k hk).1)).setCell (p := ⟨b, 1, none⟩) hB _
end Go.Proofs.YtencibjmiphinaaGreatDoor
namespace Go.Proofs.YtencibjmiphinaaGreatDoor
open Go.RowKit

theorem grown_none {w w' : World} (h : Below w.heap.size w w') : w.grownBy w' none := ⟨h.os, h.tape, h.output, h.size, fun k hk _ => h.block k hk⟩
theorem Bld.below {B b : Nat} {l : List UInt8} {w w' : World} (h : Bld B b l w) (hb : Below w.heap.size w w') : Bld B b l w' := by
  have aux : ∀ p, Lib.BuilderAtF 89 5 B b p (Lib.byteCells l) w → Lib.BuilderAtF 89 5 B b p (Lib.byteCells l) w' := by
    rintro p ⟨hB, v, hbk, hown, hne⟩
    refine ⟨hB, v, (hb.block b (heap_lt hbk)).trans hbk, hown.kept (grown_none hb) ?_, hne⟩
    cases v.ownBlock <;> simp
  rcases h with h | h
  · exact Or.inl (aux _ h)
  · exact Or.inr (aux _ h)
theorem Kept.of {B b : Nat} {w w' : World} (hb : Below w.heap.size w w') (hB : B ≤ w.heap.size) : Kept B b w w' :=
  ⟨hb.mono hB, fun k _ hk _ _ => (hb.block k (heap_lt hk)).trans hk⟩
/-- Items, one behind the other, with a sign between. -/
def jl (sep : List UInt8) : Nat → List (List UInt8) → List UInt8
  | _, [] => []
  | i, x :: xs => (if 0 < i then sep else []) ++ x ++ jl sep (i + 1) xs
theorem jl_0 (sep x : List UInt8) (xs : List (List UInt8)) {i : Nat} (h : ¬ 0 < i) : jl sep i (x :: xs) = x ++ jl sep (i + 1) xs := by show _ ++ _ ++ _ = _; rw [if_neg h]; rfl
theorem jl_1 (sep x : List UInt8) (xs : List (List UInt8)) {i : Nat} (h : 0 < i) : jl sep i (x :: xs) = sep ++ x ++ jl sep (i + 1) xs := by show _ ++ _ ++ _ = _; rw [if_pos h]
theorem drop_cons {α : Type} {l : List α} {j : Nat} {x : α} (h : l[j]? = some x) : l.drop j = x :: l.drop (j + 1) := by
  obtain ⟨hj, hx⟩ := List.getElem?_eq_some_iff.1 h
  rw [← hx]; exact List.drop_eq_getElem_cons hj
theorem map_drop_cons {α β : Type} {l : List α} {j : Nat} {x : α} (f : α → β) (h : l[j]? = some x) : (l.map f).drop j = f x :: (l.map f).drop (j + 1) := drop_cons (by rw [List.getElem?_map, h]; rfl)
theorem len_part {a b c : List UInt8} (h : a ++ b = c) : a.length + b.length = c.length := by rw [← h]; simp
def itI (n : Int) : List UInt8 := (textB 1 n ⟨#[]⟩).data.toList
def itW (s : ByteArray) : List UInt8 := (textB 2 0 s).data.toList
theorem bytes_len (x : ByteArray) : x.data.toList.length = x.size := by simp
set_option maxHeartbeats 4000000 in
theorem writeI (w0 : World) (hG0 : G w0) (b : Nat) (acc : List UInt8) (s1 s2 : ByteArray) (q : Option Addr) (c : Nat) (l : List Int) (hl : l.length ≤ 1000000000) (w : World) (hw : Below w0.heap.size w0 w) (hst : ∀ w', Kept w0.heap.size b w w' → SlOf encI 1 w' q c l) (hb : Bld w0.heap.size b acc w)
    (hlen : (acc ++ s1.data.toList ++ jl [44, 32] 0 (l.map itI) ++ s2.data.toList).length ≤ 140737488355328) :
    Calls Tryz.prog 109 #[.pointer (some ⟨b, 0, none⟩), .string s1, .slice q l.length c, .func (.func 110) #[] #[], .string s2] w fun e w' => e = .returned (.tuple #[]) ∧ Bld w0.heap.size b (acc ++ s1.data.toList ++ jl [44, 32] 0 (l.map itI) ++ s2.data.toList) w' ∧ Kept w0.heap.size b w w' := by
  simp only [List.length_append, bytes_len] at hlen
  have h1 := writeString_any w0.heap.size b acc s1 w hb (by omega) hw.size
  have HST := hide hst
  have HW := hide hw
  have a0 : (l.length : Int) ≤ 1000000000 := by omega
  clear hst hb hw
  go_enter Tryz.func109, Tryz.ntmps109
  go_wp2_with (go_at_call 108; refine h1.mono ?_; rintro e w1 ⟨rfl, bb, kk⟩; have BB := hide bb; have KK := hide kk; clear bb kk)
  clear h1
  go_loopw [19] (fun i wr => ∃ (k : Nat) (cur : List UInt8), k ≤ l.length ∧ i = .int .i64 k ∧ cur ++ jl [44, 32] k ((l.map itI).drop k) = acc ++ s1.data.toList ++ jl [44, 32] 0 (l.map itI) ∧ Bld w0.heap.size b cur wr ∧ Kept w0.heap.size b w wr) (fun i _ => l.length - (intOf i).toNat)
  case atStart => exact ⟨0, acc ++ s1.data.toList, by omega, rfl, by simp, unhide BB, unhide KK⟩
  case round =>
    clear BB KK
    obtain ⟨k, cur, hk, rfl, heq, hbld, hkep⟩ := hrel
    obtain ⟨U, rfl⟩ : ∃ U, U = wr := ⟨_, rfl⟩
    have hlq := len_part heq
    simp only [List.length_append, bytes_len] at hlq
    have HK := hide hkep
    have HB := hide hbld
    have hbel : Below w0.heap.size w0 U := (unhide HW).trans hkep.1
    have HBEL := hide hbel
    by_cases hlt : k < l.length
    · obtain ⟨x, hx, hxd⟩ := get_at hlt
      obtain ⟨bb, off, hq, hbb, hc⟩ := intsAt (unhide HST U hkep) hx
      subst hq
      have ki0 : (0 : Int) ≤ (k : Int) := by omega
      have ki1 : (k : Int) < (l.length : Int) := by omega
      have htx := fun w hG => text_any 1 x ⟨#[]⟩ w hG
      obtain ⟨tx, Htx⟩ : ∃ tx, textB 1 x ⟨#[]⟩ = tx := ⟨_, rfl⟩
      rw [Htx] at htx
      have hit : itI x = tx.data.toList := by unfold itI; rw [Htx]
      rw [map_drop_cons itI hx, hit] at heq hlq
      clear Htx hit hxd hx hkep hbld hbel
      by_cases h0 : 0 < k
      · have e0 : (0 : Int) < (k : Int) := by omega
        rw [jl_1 _ _ _ h0] at heq hlq
        have HE := hide heq
        simp only [List.length_append, bytes_len, List.length_cons, List.length_nil] at hlq
        clear heq
        have h2 := writeString_any w0.heap.size b cur ⟨#[44, 32]⟩ U (unhide HB) (by show cur.length + 2 ≤ _; omega) (unhide HBEL).size
        have h3 := fun w (hb : Bld w0.heap.size b (cur ++ [44, 32]) w) hs => writeString_any w0.heap.size b (cur ++ [44, 32]) tx w hb (by simp; omega) hs
        go_wp2_with (first
          | (go_at_call 110; refine (number_any x _).mono ?_; rintro e w3 ⟨rfl, b3⟩; have B3 := hide b3; clear b3)
          | (go_at_call 135; refine (htx _ (by exact G_below hG0 ((unhide HBEL).trans ((unhide K2).1.trans ((unhide B3).mono (Nat.le_trans (unhide HBEL).size (unhide K2).1.size)))))).mono ?_; rintro e w4 ⟨rfl, b4⟩; have B4 := hide (below_sub (unhide B3) b4); clear b4)
          | (go_at_call 108; have hB := unhide B4; clear hB; refine (h3 _ (by exact (unhide D2).below (unhide B4)) (by exact Nat.le_trans (unhide HBEL).size (Nat.le_trans (unhide K2).1.size (unhide B4).size))).mono ?_; rintro e w5 ⟨rfl, d5, k5⟩; have D5 := hide d5; have K5 := hide k5; clear d5 k5)
          | (go_at_call 108; refine h2.mono ?_; rintro e w2 ⟨rfl, d2, k2⟩; have D2 := hide d2; have K2 := hide k2; clear d2 k2))
        exact ⟨⟨k + 1, _, by omega, by go_num, by rw [← unhide HE]; simp, unhide D5, (unhide HK).trans ((unhide K2).trans ((Kept.of (unhide B4) (Nat.le_trans (unhide HBEL).size (unhide K2).1.size)).trans (unhide K5)))⟩, by simp [intOf]; omega⟩
      · have e0 : ¬ (0 : Int) < (k : Int) := by omega
        rw [jl_0 _ _ _ h0] at heq hlq
        have HE := hide heq
        simp only [List.length_append, bytes_len] at hlq
        clear heq
        have h3 := fun w (hb : Bld w0.heap.size b cur w) hs => writeString_any w0.heap.size b cur tx w hb (by omega) hs
        go_wp2_with (first
          | (go_at_call 110; refine (number_any x _).mono ?_; rintro e w3 ⟨rfl, b3⟩; have B3 := hide b3; clear b3)
          | (go_at_call 135; refine (htx _ (by exact G_below hG0 ((unhide HBEL).trans ((unhide B3).mono (unhide HBEL).size)))).mono ?_; rintro e w4 ⟨rfl, b4⟩; have B4 := hide (below_sub (unhide B3) b4); clear b4)
          | (go_at_call 108; refine (h3 _ (by exact (unhide HB).below (unhide B4)) (by exact Nat.le_trans (unhide HBEL).size (unhide B4).size)).mono ?_; rintro e w5 ⟨rfl, d5, k5⟩; have D5 := hide d5; have K5 := hide k5; clear d5 k5))
        exact ⟨⟨k + 1, _, by omega, by go_num, by rw [← unhide HE]; simp, unhide D5, (unhide HK).trans ((Kept.of (unhide B4) (unhide HBEL).size).trans (unhide K5))⟩, by simp [intOf]; omega⟩
    · have ki1 : ¬ (k : Int) < (l.length : Int) := by omega
      rw [List.drop_of_length_le (by simp; omega)] at heq
      have he2 : cur = acc ++ s1.data.toList ++ jl [44, 32] 0 (l.map itI) := by simpa [jl] using heq
      subst he2
      have h4 := writeString_any w0.heap.size b _ s2 U (unhide HB) (by simp only [List.length_append, bytes_len]; omega) (unhide HBEL).size
      clear heq hlq hkep hbld hbel
      go_wp2_with (go_at_call 108; refine h4.mono ?_; rintro e w2 ⟨rfl, d2, k2⟩; have D2 := hide d2; have K2 := hide k2; clear d2 k2)
      go_end0
      exact ⟨rfl, unhide D2, (unhide HK).trans (unhide K2)⟩
set_option maxHeartbeats 4000000 in
theorem writeW (w0 : World) (hG0 : G w0) (b : Nat) (acc : List UInt8) (s1 s2 : ByteArray) (q : Option Addr) (c : Nat) (l : List ByteArray) (hl : l.length ≤ 1000000000) (w : World) (hw : Below w0.heap.size w0 w) (hst : ∀ w', Kept w0.heap.size b w w' → SlOf encS 1 w' q c l) (hb : Bld w0.heap.size b acc w)
    (hlen : (acc ++ s1.data.toList ++ jl [44, 32] 0 (l.map itW) ++ s2.data.toList).length ≤ 140737488355328) :
    Calls Tryz.prog 111 #[.pointer (some ⟨b, 0, none⟩), .string s1, .slice q l.length c, .func (.func 112) #[] #[], .string s2] w fun e w' => e = .returned (.tuple #[]) ∧ Bld w0.heap.size b (acc ++ s1.data.toList ++ jl [44, 32] 0 (l.map itW) ++ s2.data.toList) w' ∧ Kept w0.heap.size b w w' := by
  simp only [List.length_append, bytes_len] at hlen
  have h1 := writeString_any w0.heap.size b acc s1 w hb (by omega) hw.size
  have HST := hide hst
  have HW := hide hw
  have a0 : (l.length : Int) ≤ 1000000000 := by omega
  clear hst hb hw
  go_enter Tryz.func111, Tryz.ntmps111
  go_wp2_with (go_at_call 108; refine h1.mono ?_; rintro e w1 ⟨rfl, bb, kk⟩; have BB := hide bb; have KK := hide kk; clear bb kk)
  clear h1
  go_loopw [19] (fun i wr => ∃ (k : Nat) (cur : List UInt8), k ≤ l.length ∧ i = .int .i64 k ∧ cur ++ jl [44, 32] k ((l.map itW).drop k) = acc ++ s1.data.toList ++ jl [44, 32] 0 (l.map itW) ∧ Bld w0.heap.size b cur wr ∧ Kept w0.heap.size b w wr) (fun i _ => l.length - (intOf i).toNat)
  case atStart => exact ⟨0, acc ++ s1.data.toList, by omega, rfl, by simp, unhide BB, unhide KK⟩
  case round =>
    clear BB KK
    obtain ⟨k, cur, hk, rfl, heq, hbld, hkep⟩ := hrel
    obtain ⟨U, rfl⟩ : ∃ U, U = wr := ⟨_, rfl⟩
    have hlq := len_part heq
    simp only [List.length_append, bytes_len] at hlq
    have HK := hide hkep
    have HB := hide hbld
    have hbel : Below w0.heap.size w0 U := (unhide HW).trans hkep.1
    have HBEL := hide hbel
    by_cases hlt : k < l.length
    · obtain ⟨x, hx, hxd⟩ := get_at hlt
      obtain ⟨bb, off, hq, hbb, hc⟩ := wordsAt (unhide HST U hkep) hx
      subst hq
      have ki0 : (0 : Int) ≤ (k : Int) := by omega
      have ki1 : (k : Int) < (l.length : Int) := by omega
      have htx := fun w hG => text_any 2 0 x w hG
      obtain ⟨tx, Htx⟩ : ∃ tx, textB 2 0 x = tx := ⟨_, rfl⟩
      rw [Htx] at htx
      have hit : itW x = tx.data.toList := by unfold itW; rw [Htx]
      rw [map_drop_cons itW hx, hit] at heq hlq
      clear Htx hit hxd hx hkep hbld hbel
      by_cases h0 : 0 < k
      · have e0 : (0 : Int) < (k : Int) := by omega
        rw [jl_1 _ _ _ h0] at heq hlq
        have HE := hide heq
        simp only [List.length_append, bytes_len, List.length_cons, List.length_nil] at hlq
        clear heq
        have h2 := writeString_any w0.heap.size b cur ⟨#[44, 32]⟩ U (unhide HB) (by show cur.length + 2 ≤ _; omega) (unhide HBEL).size
        have h3 := fun w (hb : Bld w0.heap.size b (cur ++ [44, 32]) w) hs => writeString_any w0.heap.size b (cur ++ [44, 32]) tx w hb (by simp; omega) hs
        go_wp2_with (first
          | (go_at_call 112; refine (word_any x _).mono ?_; rintro e w3 ⟨rfl, b3⟩; have B3 := hide b3; clear b3)
          | (go_at_call 135; refine (htx _ (by exact G_below hG0 ((unhide HBEL).trans ((unhide K2).1.trans ((unhide B3).mono (Nat.le_trans (unhide HBEL).size (unhide K2).1.size)))))).mono ?_; rintro e w4 ⟨rfl, b4⟩; have B4 := hide (below_sub (unhide B3) b4); clear b4)
          | (go_at_call 108; have hB := unhide B4; clear hB; refine (h3 _ (by exact (unhide D2).below (unhide B4)) (by exact Nat.le_trans (unhide HBEL).size (Nat.le_trans (unhide K2).1.size (unhide B4).size))).mono ?_; rintro e w5 ⟨rfl, d5, k5⟩; have D5 := hide d5; have K5 := hide k5; clear d5 k5)
          | (go_at_call 108; refine h2.mono ?_; rintro e w2 ⟨rfl, d2, k2⟩; have D2 := hide d2; have K2 := hide k2; clear d2 k2))
        exact ⟨⟨k + 1, _, by omega, by go_num, by rw [← unhide HE]; simp, unhide D5, (unhide HK).trans ((unhide K2).trans ((Kept.of (unhide B4) (Nat.le_trans (unhide HBEL).size (unhide K2).1.size)).trans (unhide K5)))⟩, by simp [intOf]; omega⟩
      · have e0 : ¬ (0 : Int) < (k : Int) := by omega
        rw [jl_0 _ _ _ h0] at heq hlq
        have HE := hide heq
        simp only [List.length_append, bytes_len] at hlq
        clear heq
        have h3 := fun w (hb : Bld w0.heap.size b cur w) hs => writeString_any w0.heap.size b cur tx w hb (by omega) hs
        go_wp2_with (first
          | (go_at_call 112; refine (word_any x _).mono ?_; rintro e w3 ⟨rfl, b3⟩; have B3 := hide b3; clear b3)
          | (go_at_call 135; refine (htx _ (by exact G_below hG0 ((unhide HBEL).trans ((unhide B3).mono (unhide HBEL).size)))).mono ?_; rintro e w4 ⟨rfl, b4⟩; have B4 := hide (below_sub (unhide B3) b4); clear b4)
          | (go_at_call 108; refine (h3 _ (by exact (unhide HB).below (unhide B4)) (by exact Nat.le_trans (unhide HBEL).size (unhide B4).size)).mono ?_; rintro e w5 ⟨rfl, d5, k5⟩; have D5 := hide d5; have K5 := hide k5; clear d5 k5))
        exact ⟨⟨k + 1, _, by omega, by go_num, by rw [← unhide HE]; simp, unhide D5, (unhide HK).trans ((Kept.of (unhide B4) (unhide HBEL).size).trans (unhide K5))⟩, by simp [intOf]; omega⟩
    · have ki1 : ¬ (k : Int) < (l.length : Int) := by omega
      rw [List.drop_of_length_le (by simp; omega)] at heq
      have he2 : cur = acc ++ s1.data.toList ++ jl [44, 32] 0 (l.map itW) := by simpa [jl] using heq
      subst he2
      have h4 := writeString_any w0.heap.size b _ s2 U (unhide HB) (by simp only [List.length_append, bytes_len]; omega) (unhide HBEL).size
      clear heq hlq hkep hbld hbel
      go_wp2_with (go_at_call 108; refine h4.mono ?_; rintro e w2 ⟨rfl, d2, k2⟩; have D2 := hide d2; have K2 := hide k2; clear d2 k2)
      go_end0
      exact ⟨rfl, unhide D2, (unhide HK).trans (unhide K2)⟩
/-- Does a kid stand in parentheses? -/
def brack (p k : Int) : Bool := decide (k = 4) || (decide (k = 3) && decide (p ≠ 4))
set_option maxHeartbeats 1000000 in
theorem bracketed_any (p k : Int) (w : World) : Calls Tryz.prog 114 #[.int .i64 p, .int .i64 k] w fun e w' => e = .returned (.bool (brack p k)) ∧ w' = w := by
  by_cases h1 : k = 4
  · subst h1
    go_enter Tryz.func114, Tryz.ntmps114
    go_wp2
    go_ret
    exact ⟨ret_bool (by simp [brack]), rfl⟩
  · have e1 : (k == 4) = false := by simpa using h1
    by_cases h2 : k = 3
    · subst h2
      by_cases h3 : p = 4
      · subst h3
        go_enter Tryz.func114, Tryz.ntmps114
        go_wp2
        go_ret
        exact ⟨ret_bool (by simp [brack]), rfl⟩
      · have e3 : (p != 4) = true := by simpa using h3
        go_enter Tryz.func114, Tryz.ntmps114
        go_wp2
        go_ret
        exact ⟨ret_bool (by simp [brack, h3]), rfl⟩
    · have e2 : (k == 3) = false := by simpa using h2
      go_enter Tryz.func114, Tryz.ntmps114
      go_wp2
      go_ret
      exact ⟨ret_bool (by simp [brack, h1, h2]), rfl⟩
end Go.Proofs.YtencibjmiphinaaGreatDoor

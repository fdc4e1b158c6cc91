/- A predicate. -/
import Derived.Test.YtencibjmiphinaaGreatDoorEZag
namespace Go.Proofs.YtencibjmiphinaaGreatDoor
open Go.RowKit
/-- A rule's answer, one by one. -/
theorem NdR.bad {g:Nat} {en:Int} {w w':World} {x:Rs Nd} {e:Ending} {p:Int} (h:NdR g en w x e w') (hx:x=.bad p):e=refusal p/\w.grownBy w' (some g):=by subst hx;exact h
theorem NdR.ok {g:Nat} {en:Int} {w w':World} {x:Rs Nd} {e:Ending} {t:Nd} {r:List Tk} (h:NdR g en w x e w') (hx:x=.ok t r):NewT w.heap.size w' t e/\Nx g en r w w':=by subst hx;exact h
set_option maxHeartbeats 2000000 in
theorem prd_set (g:Nat) (en:Int) (l r r1:List Tk) (t:Tk) (w:World) (hp:Ps w g en l) (e1:ndL en 1 l=.ok t r) (e2:skL ⟨#[123]⟩ r=some r1) :
  Calls Tryz.prog 141 #[.pointer (some ⟨g,0,none⟩)] w fun e w'=>NdR g en w (setL en t.2.2.2.2 r1) e w':=by
 have hg:=hp.lt
 have h0:=hp.z
 have hf4:=fld4
 have hsm:t.2.2.2.2.size<=281474976710656:=by
  cases l with
  | nil=>simp [ndL] at e1
  | cons t' l =>
   simp only [ndL] at e1
   split at e1
   ·cases e1;have:=hp.small t (by simp);omega
   ·cases e1
 have hc1:=need_yes g en 1 l r t _ h0.1 e1
 unfold tkV at hc1
 have E2:=hide e2
 cases ex:setL en t.2.2.2.2 r1 with
 | bad p =>
  have EX:=hide ex
  clear hp e1 h0 ex e2
  go_enter Tryz.func141,Tryz.ntmps141
  go_wp2_with first
   | (go_at_call 155;refine hc1.mono ?_;rintro e w1 ⟨rfl,hx⟩;have X1:=hide hx;clear hx)
   | (go_at_call 154;refine (strClone _ hsm _).mono ?_;rintro e w2 ⟨rfl,hb⟩;have X2:=hide ((uh X1).bel hb);clear hb)
   | (go_at_call 119;refine (skip_yes g en ⟨#[123]⟩ r r1 _ (uh X2).1 (uh E2)).mono ?_;rintro e w3 ⟨rfl,hx⟩;have X3:=hide ((uh X2).trans hx);clear hx)
   | (go_at_call 156;refine (set_any g en t.2.2.2.2 r1 _ (uh X3).1).mono ?_;rintro e w4 hn;obtain ⟨rfl,hx⟩:=hn.bad (uh EX);have X4:=hide hx;clear hx hn;simp only [refusal])
  exact ⟨rfl,rfl,gr_z ((uh X3).2.trans (uh X4))⟩
 | ok x r2 =>
  have EX:=hide ex
  clear hp e1 h0 ex e2
  go_enter Tryz.func141,Tryz.ntmps141
  go_wp2_with first
   | (go_at_call 155;refine hc1.mono ?_;rintro e w1 ⟨rfl,hx⟩;have X1:=hide hx;clear hx)
   | (go_at_call 154;refine (strClone _ hsm _).mono ?_;rintro e w2 ⟨rfl,hb⟩;have X2:=hide ((uh X1).bel hb);clear hb)
   | (go_at_call 119;refine (skip_yes g en ⟨#[123]⟩ r r1 _ (uh X2).1 (uh E2)).mono ?_;rintro e w3 ⟨rfl,hx⟩;have X3:=hide ((uh X2).trans hx);clear hx)
   | (go_at_call 156;refine (set_any g en t.2.2.2.2 r1 _ (uh X3).1).mono ?_;rintro e w4 hn;obtain ⟨⟨v,rfl,hv⟩,hx⟩:=hn.ok (uh EX);have X5:=hide ((uh X3).trans hx);have HV:=hide hv;clear hx hv hn;obtain ⟨z1,⟨q0,q1,q2,q3,q4,q5,q6,q7⟩,qf⟩:=res8 (uh X5).2 hg;unfold Nv.val)
  refine bodyPost_ret (v:=v.val) (by simp [results,Tryz.results141,go_sem,Nv.val, *]) rfl ?_
  exact fin8 (uh X5) hg (uh HV) (by have:=(uh X3).2.size;simp at this;omega)
set_option maxHeartbeats 2000000 in
theorem prd_bounds (g:Nat) (en:Int) (l r r1:List Tk) (t:Tk) (w:World) (hp:Ps w g en l) (e1:ndL en 1 l=.ok t r) (e0:skL ⟨#[123]⟩ r=none) (e2:skL ⟨#[91]⟩ r=some r1) :
  Calls Tryz.prog 141 #[.pointer (some ⟨g,0,none⟩)] w fun e w'=>NdR g en w (bdL en t.2.2.2.2 r1) e w':=by
 have hg:=hp.lt
 have h0:=hp.z
 have hf4:=fld4
 have hsm:t.2.2.2.2.size<=281474976710656:=by
  cases l with
  | nil=>simp [ndL] at e1
  | cons t' l =>
   simp only [ndL] at e1
   split at e1
   ·cases e1;have:=hp.small t (by simp);omega
   ·cases e1
 have hc1:=need_yes g en 1 l r t _ h0.1 e1
 unfold tkV at hc1
 have E2:=hide e2
 have E0:=hide e0
 cases ex:bdL en t.2.2.2.2 r1 with
 | bad p =>
  have EX:=hide ex
  clear hp e1 h0 ex e2 e0
  go_enter Tryz.func141,Tryz.ntmps141
  go_wp2_with first
   | (go_at_call 155;refine hc1.mono ?_;rintro e w1 ⟨rfl,hx⟩;have X1:=hide hx;clear hx)
   | (go_at_call 154;refine (strClone _ hsm _).mono ?_;rintro e w2 ⟨rfl,hb⟩;have X2:=hide ((uh X1).bel hb);clear hb)
   | (go_at_call 119;have tst:=uh M0;clear tst;refine (skip_yes g en ⟨#[91]⟩ r r1 _ (uh X2).1 (uh E2)).mono ?_;rintro e w3 ⟨rfl,hx⟩;have X3:=hide ((uh X2).trans hx);clear hx)
   | (go_at_call 119;refine (skip_no g en ⟨#[123]⟩ r _ (uh X2).1 (uh E0)).mono ?_;rintro e w3 ⟨rfl,rfl⟩;have M0:=hide True.intro)
   | (go_at_call 157;refine (bounds_any g en t.2.2.2.2 r1 _ (uh X3).1).mono ?_;rintro e w4 hn;obtain ⟨rfl,hx⟩:=hn.bad (uh EX);have X4:=hide hx;clear hx hn;simp only [refusal])
  exact ⟨rfl,rfl,gr_z ((uh X3).2.trans (uh X4))⟩
 | ok x r2 =>
  have EX:=hide ex
  clear hp e1 h0 ex e2 e0
  go_enter Tryz.func141,Tryz.ntmps141
  go_wp2_with first
   | (go_at_call 155;refine hc1.mono ?_;rintro e w1 ⟨rfl,hx⟩;have X1:=hide hx;clear hx)
   | (go_at_call 154;refine (strClone _ hsm _).mono ?_;rintro e w2 ⟨rfl,hb⟩;have X2:=hide ((uh X1).bel hb);clear hb)
   | (go_at_call 119;have tst:=uh M0;clear tst;refine (skip_yes g en ⟨#[91]⟩ r r1 _ (uh X2).1 (uh E2)).mono ?_;rintro e w3 ⟨rfl,hx⟩;have X3:=hide ((uh X2).trans hx);clear hx)
   | (go_at_call 119;refine (skip_no g en ⟨#[123]⟩ r _ (uh X2).1 (uh E0)).mono ?_;rintro e w3 ⟨rfl,rfl⟩;have M0:=hide True.intro)
   | (go_at_call 157;refine (bounds_any g en t.2.2.2.2 r1 _ (uh X3).1).mono ?_;rintro e w4 hn;obtain ⟨⟨v,rfl,hv⟩,hx⟩:=hn.ok (uh EX);have X5:=hide ((uh X3).trans hx);have HV:=hide hv;clear hx hv hn;obtain ⟨z1,⟨q0,q1,q2,q3,q4,q5,q6,q7⟩,qf⟩:=res8 (uh X5).2 hg;unfold Nv.val)
  refine bodyPost_ret (v:=v.val) (by simp [results,Tryz.results141,go_sem,Nv.val, *]) rfl ?_
  exact fin8 (uh X5) hg (uh HV) (by have:=(uh X3).2.size;simp at this;omega)
set_option maxHeartbeats 2000000 in
theorem prd_prefix (g:Nat) (en:Int) (l r:List Tk) (t:Tk) (w:World) (hp:Ps w g en l) (e1:ndL en 1 l=.ok t r) (e0:skL ⟨#[123]⟩ r=none) (e2:skL ⟨#[91]⟩ r=none) :
  Calls Tryz.prog 141 #[.pointer (some ⟨g,0,none⟩)] w fun e w'=>NdR g en w (pxL en t.2.2.2.2 r) e w':=by
 have hg:=hp.lt
 have h0:=hp.z
 have hf4:=fld4
 have hsm:t.2.2.2.2.size<=281474976710656:=by
  cases l with
  | nil=>simp [ndL] at e1
  | cons t' l =>
   simp only [ndL] at e1
   split at e1
   ·cases e1;have:=hp.small t (by simp);omega
   ·cases e1
 have hc1:=need_yes g en 1 l r t _ h0.1 e1
 unfold tkV at hc1
 have E2:=hide e2
 have E0:=hide e0
 cases e3:ndL en 3 r with
 | bad p =>
  have hx:pxL en t.2.2.2.2 r=.bad p:=by simp only [pxL,e3]
  rw [hx]
  have E3:=hide e3
  clear hp e1 h0 e0 e2 e3 hx
  go_enter Tryz.func141,Tryz.ntmps141
  go_wp2_with first
   | (go_at_call 155;refine (need_no g en 3 r p _ (uh X2).1 (uh E3)).mono ?_;rintro e w3 ⟨rfl,hb⟩;have HB:=hide hb;clear hb;simp only [refusal])
   | (go_at_call 155;refine hc1.mono ?_;rintro e w1 ⟨rfl,hx⟩;have X1:=hide hx;clear hx)
   | (go_at_call 154;refine (strClone _ hsm _).mono ?_;rintro e w2 ⟨rfl,hb⟩;have X2:=hide ((uh X1).bel hb);clear hb)
   | (go_at_call 119;have tst:=uh M0;clear tst;refine (skip_no g en ⟨#[91]⟩ r _ (uh X2).1 (uh E2)).mono ?_;rintro e w3 ⟨rfl,rfl⟩)
   | (go_at_call 119;refine (skip_no g en ⟨#[123]⟩ r _ (uh X2).1 (uh E0)).mono ?_;rintro e w3 ⟨rfl,rfl⟩;have M0:=hide True.intro)
  exact ⟨rfl,rfl,gr_z ((uh X2).2.trans (grown_bel (uh HB) _))⟩
 | ok t3 r3 =>
  cases e4:sgL en ⟨#[42]⟩ r3 with
  | bad p =>
   have hx:pxL en t.2.2.2.2 r=.bad p:=by simp only [pxL,e3,e4]
   rw [hx]
   have E3:=hide e3
   have E4:=hide e4
   clear hp e1 h0 e0 e2 e3 hx e4
   go_enter Tryz.func141,Tryz.ntmps141
   go_wp2_with first
    | (go_at_call 155;refine (need_yes g en 3 r r3 t3 _ (uh X2).1 (uh E3)).mono ?_;rintro e w3 ⟨rfl,hx⟩;have X3:=hide ((uh X2).trans hx);clear hx;unfold tkV)
    | (go_at_call 155;refine hc1.mono ?_;rintro e w1 ⟨rfl,hx⟩;have X1:=hide hx;clear hx)
    | (go_at_call 154;refine (strClone _ hsm _).mono ?_;rintro e w2 ⟨rfl,hb⟩;have X2:=hide ((uh X1).bel hb);clear hb)
    | (go_at_call 119;have tst:=uh M0;clear tst;refine (skip_no g en ⟨#[91]⟩ r _ (uh X2).1 (uh E2)).mono ?_;rintro e w3 ⟨rfl,rfl⟩)
    | (go_at_call 119;refine (skip_no g en ⟨#[123]⟩ r _ (uh X2).1 (uh E0)).mono ?_;rintro e w3 ⟨rfl,rfl⟩;have M0:=hide True.intro)
    | (go_at_call 140;refine (sign_no g en ⟨#[42]⟩ r3 p _ (uh X3).1 (uh E4)).mono ?_;rintro e w4 ⟨rfl,rfl⟩;simp only [refusal])
   exact ⟨rfl,rfl,gr_z (uh X3).2⟩
  | ok u4 r4 =>
   have hx:pxL en t.2.2.2.2 r=.ok (.mk 4 t.2.2.2.2 [] [t3.2.2.2.2] 0 0 1 []) r4:=by simp only [pxL,e3,e4]
   rw [hx]
   have E3:=hide e3
   have E4:=hide e4
   clear hp e1 h0 e0 e2 e3 hx e4
   go_enter Tryz.func141,Tryz.ntmps141
   go_wp2_with first
    | (go_at_call 155;refine (need_yes g en 3 r r3 t3 _ (uh X2).1 (uh E3)).mono ?_;rintro e w3 ⟨rfl,hx⟩;have X3:=hide ((uh X2).trans hx);clear hx;unfold tkV)
    | (go_at_call 155;refine hc1.mono ?_;rintro e w1 ⟨rfl,hx⟩;have X1:=hide hx;clear hx)
    | (go_at_call 154;refine (strClone _ hsm _).mono ?_;rintro e w2 ⟨rfl,hb⟩;have X2:=hide ((uh X1).bel hb);clear hb)
    | (go_at_call 119;have tst:=uh M0;clear tst;refine (skip_no g en ⟨#[91]⟩ r _ (uh X2).1 (uh E2)).mono ?_;rintro e w3 ⟨rfl,rfl⟩)
    | (go_at_call 119;refine (skip_no g en ⟨#[123]⟩ r _ (uh X2).1 (uh E0)).mono ?_;rintro e w3 ⟨rfl,rfl⟩;have M0:=hide True.intro)
    | (go_at_call 140;refine (sign_yes g en ⟨#[42]⟩ r3 r4 u4 _ (uh X3).1 (uh E4)).mono ?_;rintro e w4 ⟨rfl,hx⟩;have X4:=hide ((uh X3).trans hx);clear hx)
    | (go_at_call 158;refine (prefix_any t.2.2.2.2 t3.2.2.2.2 _).mono ?_;rintro e w5 ⟨⟨v,rfl,hv⟩,hb⟩;have X5:=hide ((uh X4).bel hb);have HV:=hide hv;clear hb hv;obtain ⟨z1,⟨q0,q1,q2,q3,q4,q5,q6,q7⟩,qf⟩:=res8 (uh X5).2 hg;unfold Nv.val)
   refine bodyPost_ret (v:=v.val) (by simp [results,Tryz.results141,go_sem,Nv.val, *]) rfl ?_
   exact fin8 (uh X5) hg (uh HV) (by have:=(uh X4).2.size;simp at this;omega)
theorem prd_any (g:Nat) (en:Int) (l:List Tk) (w:World) (hp:Ps w g en l) :
  Calls Tryz.prog 141 #[.pointer (some ⟨g,0,none⟩)] w fun e w'=>NdR g en w (prL en l) e w':=by
 cases e1:ndL en 1 l with
 | bad p =>
  have hx:prL en l=.bad p:=by simp only [prL,e1]
  rw [hx]
  have hc1:=need_no g en 1 l p _ hp.z.1 e1
  clear hp e1 hx
  go_enter Tryz.func141,Tryz.ntmps141
  go_wp2_with (go_at_call 155;refine hc1.mono ?_;rintro e w' ⟨rfl,hb⟩;have HB:=hide hb;clear hb;simp only [refusal])
  exact ⟨rfl,rfl,gr_z (grown_bel (uh HB) _)⟩
 | ok t r =>
  cases e2:skL ⟨#[123]⟩ r with
  | some r1 =>
   have hx:prL en l=setL en t.2.2.2.2 r1:=by simp only [prL,e1,e2]
   rw [hx];exact prd_set g en l r r1 t w hp e1 e2
  | none =>
   cases e3:skL ⟨#[91]⟩ r with
   | some r1 =>
    have hx:prL en l=bdL en t.2.2.2.2 r1:=by simp only [prL,e1,e2,e3]
    rw [hx];exact prd_bounds g en l r r1 t w hp e1 e2 e3
   | none =>
    have hx:prL en l=pxL en t.2.2.2.2 r:=by simp only [prL,e1,e2,e3]
    rw [hx];exact prd_prefix g en l r t w hp e1 e2 e3
end Go.Proofs.YtencibjmiphinaaGreatDoor

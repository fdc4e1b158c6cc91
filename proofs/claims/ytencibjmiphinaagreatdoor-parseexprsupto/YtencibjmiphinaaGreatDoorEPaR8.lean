/- The document's reader: a predicate, whole; an operand. -/
import Derived.Test.YtencibjmiphinaaGreatDoorEZaz
import Derived.Test.YtencibjmiphinaaGreatDoorEZaj
namespace Go.Proofs.YtencibjmiphinaaGreatDoor
open Go.RowKit Go.Sort

theorem kd_cons {l:List Tk} {k:Int} (hk:k ≠ 0) (h:kdB false l=k):∃ t r,l=t :: r∧t.1=k:=(kdB_some hk h).2
theorem kd_sk {l:List Tk} {s:ByteArray} (h:kdB false l=3):skL s l=none:=by
 obtain ⟨t,r,rfl,ht⟩:=kd_cons (by decide) h
 rw [skL_cons,if_neg]
 rw [ht];rintro ⟨h1,_⟩;exact absurd h1 (by decide)
theorem sk_other {l r:List Tk} {s s':ByteArray} (h:skL s l=some r) (hs:s' ≠ s):skL s' l=none:=by
 obtain ⟨t,rfl,_,ht⟩:=skL_is h
 rw [skL_cons,if_neg]
 rw [ht];rintro ⟨_,h1⟩;exact hs h1.symm
theorem nd_plc {en k:Int} {l:List Tk} (h:¬ kdB false l=k):ndL en k l=.bad (plc en l):=by
 cases l with
 | nil=>rfl
 | cons t r =>
  simp only [ndL]
  rw [if_neg (show ¬ t.1=k from h)];rfl
theorem sg_is {L:List Tk} {s:ByteArray} {i i':Nat} {b:Bool} (h:sgS L s i b=(i',false)):b=false∧i'=i + 1∧skL s (L.drop i)=some (L.drop i'):=by
 unfold sgS at h
 split at h
 ·rename_i h1
  obtain ⟨rfl,r,hr⟩:=isS_some h1
  cases h
  obtain ⟨t,h2,_⟩:=skL_is hr
  exact ⟨rfl,rfl,by rw [hr,← List.tail_drop,h2];rfl⟩
 ·cases h
theorem sg_no {L:List Tk} {s:ByteArray} {i i':Nat} {b:Bool} (h:sgS L s i b=(i',true)):i'=i∧(b=false→skL s (L.drop i)=none):=by
 unfold sgS at h
 split at h
 ·cases h
 ·rename_i h1
  cases h
  exact ⟨rfl,fun hb=>by subst hb;exact isS_none (by simpa using h1)⟩
theorem ms_plc {en k:Int} {l:List Tk} (h:¬ kdB false l=k):msL en k l=.bad (plc en l):=by
 rw [msL_eq];simp only [nd_plc h,Rs.bnd]
/-- What the predicate's rule leaves, with what it means. -/
def PdA (g:Nat) (L:List Tk) (i:Nat) (w:World) (e:Ending) (w':World):Prop:=∃ x i3 b3,PvR g L w x i3 b3 e w'∧∀ en,Mt en L (prL en (L.drop i)) x i3 b3
theorem pred_any8 (g:Nat) (L:List Tk) (i:Nat) (w:World) (h:Rd w g L i false) :
  Calls Tryz.prog 101 #[.pointer (some ⟨g,0,none⟩)] w fun e w'=>PdA g L i w e w':=by
 obtain ⟨t,i1,b1,h1⟩:∃ t i1 b1,tkS L 1 i false=(t,i1,b1):=⟨_,_,_,rfl⟩
 have hpr:∀ (x:Nd) (i3:Nat) (b3:Bool),(b1=false→∀ en,Mt en L (brn ⟨#[123]⟩ (brn ⟨#[91]⟩ (pxL en t.2.2.2.2) (bdL en t.2.2.2.2)) (setL en t.2.2.2.2) (L.drop i1)) x i3 b3)→(b1=true→i3=i1∧b3=true)→∀ en,Mt en L (prL en (L.drop i)) x i3 b3:=fun x i3 b3 k1 k2 en=>by
  rw [prL_eq]
  exact (tk_mt (by decide) h1).bnd (fun hb=>k1 hb en) k2
 by_cases hk:kdB b1 (L.drop i1)=3
 ·obtain ⟨x,i2,b2,h2⟩:∃ x i2 b2,tkS L 3 i1 b1=(x,i2,b2):=⟨_,_,_,rfl⟩
  obtain ⟨i3,b3,h3⟩:∃ i3 b3,sgS L ⟨#[42]⟩ i2 b2=(i3,b3):=⟨_,_,rfl⟩
  refine (pred_word g L i i1 i2 i3 b1 b2 b3 t x w h h1 hk h2 h3).mono fun e w' hp=>⟨_,i3,b3,hp,hpr _ _ _ (fun hb en=>?_) fun hb=>?_⟩
  ·subst hb
   simp only [brn,kd_sk hk]
   rw [pxL_eq]
   refine (tk_mt (by decide) h2).bnd (fun hb=>?_) fun hb=>sg_stay hb h3
   subst hb
   refine (sg_mt h3).bnd (fun hb=>?_) fun hb=>⟨rfl,hb⟩
   subst hb
   exact Mt.ret _
  ·subst hb;exact absurd (show (0:Int)=3 from hk) (by decide)
 ·cases hs:isS ⟨#[91]⟩ b1 (L.drop i1) with
  | true =>
   obtain ⟨x,i2,b2,h2⟩:∃ x i2 b2,tkS L 2 (i1 + 1) b1=(x,i2,b2):=⟨_,_,_,rfl⟩
   obtain ⟨i3,b3,h3⟩:∃ i3 b3,sgS L ⟨#[44]⟩ i2 b2=(i3,b3):=⟨_,_,rfl⟩
   obtain ⟨y,i4,b4,h4⟩:∃ x i2 b2,tkS L 2 i3 b3=(x,i2,b2):=⟨_,_,_,rfl⟩
   obtain ⟨i5,b5,h5⟩:∃ i3 b3,sgS L ⟨#[93]⟩ i4 b4=(i3,b3):=⟨_,_,rfl⟩
   refine (pred_range g L i i1 i2 i3 i4 i5 b1 b2 b3 b4 b5 t x y w h h1 hk hs h2 h3 h4 h5).mono fun e w' hp=>⟨_,i5,b5,hp,hpr _ _ _ (fun hb en=>?_) fun hb=>?_⟩
   ·subst hb
    obtain ⟨_,r,hr⟩:=isS_some hs
    obtain ⟨t9,h9,_⟩:=skL_is hr
    have e9:r=L.drop (i1 + 1):=by rw [← List.tail_drop,h9];rfl
    subst e9
    have hn:=sk_other (s':=⟨#[123]⟩) hr (by decide)
    simp only [brn,hn,hr]
    rw [bdL_eq]
    refine (tk_mt (by decide) h2).bnd (fun hb=>?_) fun hb=>?_
    ·subst hb
     refine (sg_mt h3).bnd (fun hb=>?_) fun hb=>?_
     ·subst hb
      refine (tk_mt (by decide) h4).bnd (fun hb=>?_) fun hb=>sg_stay hb h5
      subst hb
      refine (sg_mt h5).bnd (fun hb=>?_) fun hb=>⟨rfl,hb⟩
      subst hb
      exact Mt.ret _
     ·obtain ⟨rfl,hb4⟩:=tk_stay (by decide) hb h4
      exact sg_stay hb4 h5
    ·obtain ⟨rfl,hb3⟩:=sg_stay hb h3
     obtain ⟨rfl,hb4⟩:=tk_stay (by decide) hb3 h4
     exact sg_stay hb4 h5
   ·subst hb;exact absurd hs (by simp [isS])
  | false =>
   obtain ⟨i2,b2,h2⟩:∃ i2 b2,sgS L ⟨#[123]⟩ i1 b1=(i2,b2):=⟨_,_,rfl⟩
   cases b2 with
   | true =>
    obtain ⟨i3,b3,h3⟩:∃ i3 b3,sgS L ⟨#[125]⟩ i2 true=(i3,b3):=⟨_,_,rfl⟩
    have e3:=sg_stay rfl h3
    have e2:=sg_no h2
    refine (pred_none g L i i1 i2 i3 b1 b3 t w h h1 hk hs h2 h3).mono fun e w' hp=>⟨_,i3,b3,hp,hpr _ _ _ (fun hb en=>?_) fun hb=>⟨e3.1.trans e2.1,e3.2⟩⟩
    subst hb
    have n1:=e2.2 rfl
    have n2:=isS_none hs
    simp only [brn,n1,n2]
    rw [pxL_eq]
    simp only [nd_plc (en:=en) hk,Rs.bnd]
    exact ⟨e3.2,by rw [e3.1,e2.1]⟩
   | false =>
    obtain ⟨rfl,_,hr⟩:=sg_is h2
    by_cases h3:kdB false (L.drop i2)=2
    ·refine (pred_ints g L i i1 i2 false t w h h1 hk hs h2 h3).mono fun e w' hp=>?_
     obtain ⟨ts,i3,b3,hp,hm⟩:=hp
     refine ⟨_,i3,b3,hp,hpr _ _ _ (fun hb en=>?_) fun hb=>by cases hb⟩
     simp only [brn,hr]
     have hi:isK 3 (L.drop i2)=false:=by
      obtain ⟨t9,r9,h9,h8⟩:=kd_cons (by decide) h3
      rw [h9];simp [isK,h8]
     rw [setL_eq]
     simp only [hi,Bool.false_eq_true,if_false]
     refine (hm en).bnd (fun hb=>?_) fun hb=>⟨rfl,hb⟩
     subst hb
     exact Mt.ret _
    ·refine (pred_words g L i i1 i2 false t w h h1 hk hs h2 h3).mono fun e w' hp=>?_
     obtain ⟨ts,i3,b3,hp,hm⟩:=hp
     refine ⟨_,i3,b3,hp,hpr _ _ _ (fun hb en=>?_) fun hb=>by cases hb⟩
     simp only [brn,hr]
     rw [setL_eq]
     cases hi:isK 3 (L.drop i2) with
     | true =>
      simp only [hi,if_true]
      refine (hm en).bnd (fun hb=>?_) fun hb=>⟨rfl,hb⟩
      subst hb
      exact Mt.ret _
     | false =>
      simp only [hi,Bool.false_eq_true,if_false]
      have h4:¬ kdB false (L.drop i2)=3:=fun h=>by
       obtain ⟨t9,r9,h9,h8⟩:=kd_cons (by decide) h
       rw [h9] at hi;simp [isK,h8] at hi
      have hm2:=hm en
      rw [ms_plc h4] at hm2
      rw [ms_plc h3]
      exact hm2
/-- What a rule of trees leaves. -/
def NdX (g:Nat) (L:List Tk) (w:World) (x:Nd) (i':Nat) (b':Bool) (e:Ending) (w':World):Prop :=
 ∃ v:Nv,e=.returned v.val∧NdFrom w' w.heap.size v x∧Rx g L i' b' w w'
def NdA (g:Nat) (L:List Tk) (i:Nat) (f:Int→Pz Nd) (w:World) (e:Ending) (w':World):Prop:=∃ x i3 b3,NdX g L w x i3 b3 e w'∧∀ en,Mt en L (f en (L.drop i)) x i3 b3
theorem Rd.z {w:World} {g i:Nat} {L:List Tk} {bad:Bool} (h:Rd w g L i bad):Rd (w.alloc (.cells #[.int .i64 0,.string ⟨#[]⟩,.slice none 0 0,.slice none 0 0,.int .i64 0,.int .i64 0,.int .i64 0,.slice none 0 0] 29)) g L i bad:=h.below (bel_z w)
theorem fin8R {g B i:Nat} {L:List Tk} {b:Bool} {w w9:World} {v:Nv} {t:Nd} (hx:Rx g L i b (w.alloc (.cells #[.int .i64 0,.string ⟨#[]⟩,.slice none 0 0,.slice none 0 0,.int .i64 0,.int .i64 0,.int .i64 0,.slice none 0 0] 29)) w9) (hg:g < w.heap.size) (hv:NdFrom w9 B v t) (hB:w.heap.size < B) :
  NdX g L w t i b (.returned v.val) ((((((((w9.setCell ⟨w.heap.size,0,none⟩ (.int .i64 v.kind)).setCell ⟨w.heap.size,1,none⟩ (.string v.attr)).setCell ⟨w.heap.size,2,none⟩ (.slice v.qi v.ni v.ci)).setCell ⟨w.heap.size,3,none⟩ (.slice v.qw v.nw v.cw)).setCell ⟨w.heap.size,4,none⟩ (.int .i64 v.lo)).setCell ⟨w.heap.size,5,none⟩ (.int .i64 v.hi)).setCell ⟨w.heap.size,6,none⟩ (.int .i64 v.op)).setCell ⟨w.heap.size,7,none⟩ (.slice v.qk v.nk v.ck)):=by
 have hlt:w.heap.size < (w.alloc (.cells #[.int .i64 0,.string ⟨#[]⟩,.slice none 0 0,.slice none 0 0,.int .i64 0,.int .i64 0,.int .i64 0,.slice none 0 0] 29)).heap.size:=by simp
 have hs:=hx.2.size
 have hb:RowKit.Below w.heap.size w9 ((((((((w9.setCell ⟨w.heap.size,0,none⟩ (.int .i64 v.kind)).setCell ⟨w.heap.size,1,none⟩ (.string v.attr)).setCell ⟨w.heap.size,2,none⟩ (.slice v.qi v.ni v.ci)).setCell ⟨w.heap.size,3,none⟩ (.slice v.qw v.nw v.cw)).setCell ⟨w.heap.size,4,none⟩ (.int .i64 v.lo)).setCell ⟨w.heap.size,5,none⟩ (.int .i64 v.hi)).setCell ⟨w.heap.size,6,none⟩ (.int .i64 v.op)).setCell ⟨w.heap.size,7,none⟩ (.slice v.qk v.nk v.ck)):=set8_below (RowKit.Below.refl _ _) (Nat.le_refl _) _ _ _ _ _ _ _ _
 refine ⟨v,rfl,(hv.up (set8_up w9 hB _ _ _ _ _ _ _ _)).mono (by omega),hx.1.low fun k hk=>hb.block k (by omega), ?_⟩
 exact ⟨hb.os.trans hx.2.os,hb.tape.trans hx.2.tape,hb.output.trans hx.2.output,by have:=hb.size;simp at hs hlt;omega,fun k hk hr=>(hb.block k hk).trans ((hx.2.block k (by simp;omega) hr).trans ((bel_z w).block k hk))⟩
/-- A negation: the kid's row is laid behind the result's cells. -/
theorem finN {g i:Nat} {L:List Tk} {b:Bool} {w w9:World} {v:Nv} {x:Nd} (hx:Rx g L i b (w.alloc (.cells #[.int .i64 0,.string ⟨#[]⟩,.slice none 0 0,.slice none 0 0,.int .i64 0,.int .i64 0,.int .i64 0,.slice none 0 0] 29)) w9) (hg:g < w.heap.size) (hn:NdFrom w9 (w.heap.size + 1) v x) :
  NdX g L w (.mk 0 ⟨#[]⟩ [] [] 0 0 2 [x]) i b (.returned (.agg #[.int .i64 0,.string ⟨#[]⟩,.slice none 0 0,.slice none 0 0,.int .i64 0,.int .i64 0,.int .i64 2,.slice (some ⟨w9.heap.size,0,none⟩) 1 1])) (((((((((w9.setCell ⟨w.heap.size,0,none⟩ (.int .i64 0)).setCell ⟨w.heap.size,1,none⟩ (.string ⟨#[]⟩)).setCell ⟨w.heap.size,2,none⟩ (.slice none 0 0)).setCell ⟨w.heap.size,3,none⟩ (.slice none 0 0)).setCell ⟨w.heap.size,4,none⟩ (.int .i64 0)).setCell ⟨w.heap.size,5,none⟩ (.int .i64 0)).setCell ⟨w.heap.size,6,none⟩ (.int .i64 2)).setCell ⟨w.heap.size,7,none⟩ (.slice (some ⟨w9.heap.size,0,none⟩) 1 1)).alloc (.cells #[.int .i64 v.kind,.string v.attr,.slice v.qi v.ni v.ci,.slice v.qw v.nw v.cw,.int .i64 v.lo,.int .i64 v.hi,.int .i64 v.op,.slice v.qk v.nk v.ck] 29)):=by
 have hs:=hx.2.size
 simp at hs
 have k8:RowKit.Below w.heap.size w9 ((((((((w9.setCell ⟨w.heap.size,0,none⟩ (.int .i64 0)).setCell ⟨w.heap.size,1,none⟩ (.string ⟨#[]⟩)).setCell ⟨w.heap.size,2,none⟩ (.slice none 0 0)).setCell ⟨w.heap.size,3,none⟩ (.slice none 0 0)).setCell ⟨w.heap.size,4,none⟩ (.int .i64 0)).setCell ⟨w.heap.size,5,none⟩ (.int .i64 0)).setCell ⟨w.heap.size,6,none⟩ (.int .i64 2)).setCell ⟨w.heap.size,7,none⟩ (.slice (some ⟨w9.heap.size,0,none⟩) 1 1)):=set8_below (RowKit.Below.refl _ _) (Nat.le_refl _) _ _ _ _ _ _ _ _
 have u8:SameUp (w.heap.size + 1) w9 ((((((((w9.setCell ⟨w.heap.size,0,none⟩ (.int .i64 0)).setCell ⟨w.heap.size,1,none⟩ (.string ⟨#[]⟩)).setCell ⟨w.heap.size,2,none⟩ (.slice none 0 0)).setCell ⟨w.heap.size,3,none⟩ (.slice none 0 0)).setCell ⟨w.heap.size,4,none⟩ (.int .i64 0)).setCell ⟨w.heap.size,5,none⟩ (.int .i64 0)).setCell ⟨w.heap.size,6,none⟩ (.int .i64 2)).setCell ⟨w.heap.size,7,none⟩ (.slice (some ⟨w9.heap.size,0,none⟩) 1 1)):=set8_up w9 (Nat.lt_succ_self _) _ _ _ _ _ _ _ _
 have z8:((((((((w9.setCell ⟨w.heap.size,0,none⟩ (.int .i64 0)).setCell ⟨w.heap.size,1,none⟩ (.string ⟨#[]⟩)).setCell ⟨w.heap.size,2,none⟩ (.slice none 0 0)).setCell ⟨w.heap.size,3,none⟩ (.slice none 0 0)).setCell ⟨w.heap.size,4,none⟩ (.int .i64 0)).setCell ⟨w.heap.size,5,none⟩ (.int .i64 0)).setCell ⟨w.heap.size,6,none⟩ (.int .i64 2)).setCell ⟨w.heap.size,7,none⟩ (.slice (some ⟨w9.heap.size,0,none⟩) 1 1)).heap.size=w9.heap.size:=by simp
 obtain ⟨W8,E8⟩:∃ W,((((((((w9.setCell ⟨w.heap.size,0,none⟩ (.int .i64 0)).setCell ⟨w.heap.size,1,none⟩ (.string ⟨#[]⟩)).setCell ⟨w.heap.size,2,none⟩ (.slice none 0 0)).setCell ⟨w.heap.size,3,none⟩ (.slice none 0 0)).setCell ⟨w.heap.size,4,none⟩ (.int .i64 0)).setCell ⟨w.heap.size,5,none⟩ (.int .i64 0)).setCell ⟨w.heap.size,6,none⟩ (.int .i64 2)).setCell ⟨w.heap.size,7,none⟩ (.slice (some ⟨w9.heap.size,0,none⟩) 1 1))=W:=⟨_,rfl⟩
 rw [E8] at k8 u8 z8 ⊢
 have hk:=kd_many 2 (Kd.one (B:=w.heap.size + 1) (hn.up u8) (by omega))
 rw [z8] at hk
 have hb:RowKit.Below w.heap.size w9 (W8.alloc (.cells #[.int .i64 v.kind,.string v.attr,.slice v.qi v.ni v.ci,.slice v.qw v.nw v.cw,.int .i64 v.lo,.int .i64 v.hi,.int .i64 v.op,.slice v.qk v.nk v.ck] 29)):=k8.alloc (by omega) _
 exact ⟨_,rfl,hk.mono (Nat.le_succ _),hx.1.low fun k hk=>hb.block k (by omega),⟨hb.os.trans hx.2.os,hb.tape.trans hx.2.tape,hb.output.trans hx.2.output,by have:=hb.size;omega,fun k hk hr=>(hb.block k hk).trans ((hx.2.block k (by simp;omega) hr).trans ((bel_z w).block k hk))⟩⟩
/-- A predicate as a node. -/
theorem Nv.pd {v:Nv} (h1:v.op=1) (h2:v.qk=none) (h3:v.nk=0) (h4:v.ck=0):v.val=.agg #[.int .i64 v.kind,.string v.attr,.slice v.qi v.ni v.ci,.slice v.qw v.nw v.cw,.int .i64 v.lo,.int .i64 v.hi,.int .i64 1,.slice none 0 0]:=by
 unfold Nv.val;rw [h1,h2,h3,h4]
set_option maxHeartbeats 4000000 in
theorem one_pd (g:Nat) (L:List Tk) (i:Nat) (w:World) (h:Rd w g L i false) (h1:isS ⟨#[33]⟩ false (L.drop i)=false) (h2:isS ⟨#[40]⟩ false (L.drop i)=false) :
  Calls Tryz.prog 56 #[.pointer (some ⟨g,0,none⟩)] w fun e w'=>NdA g L i oneP w e w':=by
 have hg:=h.lt
 have H0:=hide h.z
 have H1:=hide h1
 have H2:=hide h2
 clear h h1 h2
 go_enter Tryz.func56,Tryz.ntmps56
 go_wp2_with first
  | (go_at_call 57;have tst:=uh P1;clear tst;refine (is_any g L i false _ _ (uh P1).1).mono ?_;rintro e w2 ⟨rfl,hb⟩;have P2:=hide ((uh P1).bel hb);clear hb;rw [uh H2])
  | (go_at_call 57;refine (is_any g L i false _ _ (uh H0)).mono ?_;rintro e w1 ⟨rfl,hb⟩;have P1:=hide (show Rx g L i false (w.alloc (.cells #[.int .i64 0,.string ⟨#[]⟩,.slice none 0 0,.slice none 0 0,.int .i64 0,.int .i64 0,.int .i64 0,.slice none 0 0] 29)) w1 from ⟨(uh H0).below hb,grown_bel hb _⟩);clear hb;rw [uh H1])
  | (go_at_call 101;refine (pred_any8 g L i _ (uh P2).1).mono ?_;rintro e w3 ⟨x,i3,b3,⟨v,rfl,o1,o2,o3,o4,hn,hr⟩,hm⟩;have P3:=hide ((uh P2).trans hr);have HN:=hide hn;have HM:=hide hm;have O1:=hide o1;have O2:=hide o2;have O3:=hide o3;have O4:=hide o4;obtain ⟨z1,⟨q0,q1,q2,q3,q4,q5,q6,q7⟩,qf⟩:=res8 (uh P3).2 hg;clear o1 o2 o3 o4 hn hr hm)
 have hv:=Nv.pd (uh O1) (uh O2) (uh O3) (uh O4)
 have h9:=fin8R (uh P3) hg (uh HN) (by have:=(uh P2).2.size;simp at this;omega)
 have o1:=uh O1
 have o2:=uh O2
 have o3:=uh O3
 have o4:=uh O4
 rw [hv,o1,o2,o3,o4] at h9
 refine bodyPost_ret (v:=.agg #[.int .i64 v.kind,.string v.attr,.slice v.qi v.ni v.ci,.slice v.qw v.nw v.cw,.int .i64 v.lo,.int .i64 v.hi,.int .i64 1,.slice none 0 0]) (by simp [results,Tryz.results56,go_sem, *]) rfl ?_
 refine ⟨x,i3,b3,h9,fun en=>?_⟩
 rw [oneP_eq]
 simp only [brn,isS_none (uh H1),isS_none (uh H2)]
 exact uh HM en
set_option maxHeartbeats 4000000 in
theorem one_nt (g:Nat) (L:List Tk) (i:Nat) (w:World) (h:Rd w g L i false) (h1:isS ⟨#[33]⟩ false (L.drop i)=true) (hF:∀ W,Rd W g L (i + 1) false→Calls Tryz.prog 56 #[.pointer (some ⟨g,0,none⟩)] W fun e w'=>NdA g L (i + 1) oneP W e w') :
  Calls Tryz.prog 56 #[.pointer (some ⟨g,0,none⟩)] w fun e w'=>NdA g L i oneP w e w':=by
 have hg:=h.lt
 obtain ⟨_,r,hr⟩:=isS_some h1
 have e9:r=L.drop (i + 1):=by
  obtain ⟨t9,h9,_⟩:=skL_is hr
  rw [← List.tail_drop,h9];rfl
 subst e9
 have hi1:i + 1≤L.length:=by
  have:=skL_len hr
  simp at this;omega
 have a0:(i:Int)≤4096:=by have:=h.le;omega
 have HI:=hide hi1
 have H0:=hide h.z
 have H1:=hide h1
 have HR:=hide hr
 have HF:=hide hF
 clear h h1 hr hF hi1
 go_enter Tryz.func56,Tryz.ntmps56
 go_wp2_with first
  | (go_at_call 57;refine (is_any g L i false _ _ (uh H0)).mono ?_;rintro e w1 ⟨rfl,hb⟩;have P1:=hide (show Rx g L i false (w.alloc (.cells #[.int .i64 0,.string ⟨#[]⟩,.slice none 0 0,.slice none 0 0,.int .i64 0,.int .i64 0,.int .i64 0,.slice none 0 0] 29)) w1 from ⟨(uh H0).below hb,grown_bel hb _⟩);obtain ⟨q,c,_,_,_,_,c1,c2,cf,_⟩:=(uh P1).1.cells;clear hb;rw [uh H1])
  | (go_at_call 56;refine (uh HF _ ((uh P1).1.inc (uh HI)).1).mono ?_;rintro e w3 ⟨x,i3,b3,⟨v,rfl,hn,hr⟩,hm⟩;have P3:=hide (((uh P1).trans ((uh P1).1.inc (uh HI))).trans hr);have HN:=hide hn;have HM:=hide hm;obtain ⟨z1,⟨q0,q1,q2,q3,q4,q5,q6,q7⟩,qf⟩:=res8 (uh P3).2 hg;clear hn hr hm;unfold Nv.val)
 have h9:=finN (uh P3) hg ((uh HN).mono (B':=w.heap.size + 1) (by have:=(uh P1).2.size;simp at this;simp;omega))
 refine bodyPost_ret (v:=.agg #[.int .i64 0,.string ⟨#[]⟩,.slice none 0 0,.slice none 0 0,.int .i64 0,.int .i64 0,.int .i64 2,.slice (some ⟨w3.heap.size,0,none⟩) 1 1]) (by simp [results,Tryz.results56,go_sem, *]) rfl ?_
 refine ⟨_,i3,b3,h9,fun en=>?_⟩
 rw [oneP_eq]
 simp only [brn,uh HR]
 refine (uh HM en).bnd (fun hb=>?_) fun hb=>⟨rfl,hb⟩
 subst hb
 exact Mt.ret _
set_option maxHeartbeats 4000000 in
theorem one_pr (g:Nat) (L:List Tk) (i:Nat) (w:World) (h:Rd w g L i false) (h1:isS ⟨#[33]⟩ false (L.drop i)=false) (h2:isS ⟨#[40]⟩ false (L.drop i)=true) (hF:∀ W,Rd W g L (i + 1) false→Calls Tryz.prog 27 #[.pointer (some ⟨g,0,none⟩),.int .i64 4] W fun e w'=>NdA g L (i + 1) orP W e w') :
  Calls Tryz.prog 56 #[.pointer (some ⟨g,0,none⟩)] w fun e w'=>NdA g L i oneP w e w':=by
 have hg:=h.lt
 obtain ⟨_,r,hr⟩:=isS_some h2
 have e9:r=L.drop (i + 1):=by
  obtain ⟨t9,h9,_⟩:=skL_is hr
  rw [← List.tail_drop,h9];rfl
 subst e9
 have hi1:i + 1≤L.length:=by
  have:=skL_len hr
  simp at this;omega
 have a0:(i:Int)≤4096:=by have:=h.le;omega
 have HI:=hide hi1
 have H0:=hide h.z
 have H1:=hide h1
 have H2:=hide h2
 have HR:=hide hr
 have HF:=hide hF
 clear h h1 h2 hr hF hi1
 go_enter Tryz.func56,Tryz.ntmps56
 go_wp2_with first
  | (go_at_call 57;have tst:=uh P1;clear tst;refine (is_any g L i false _ _ (uh P1).1).mono ?_;rintro e w2 ⟨rfl,hb⟩;have P2:=hide ((uh P1).bel hb);obtain ⟨q,c,_,_,_,_,c1,c2,cf,_⟩:=(uh P2).1.cells;clear hb;rw [uh H2])
  | (go_at_call 57;refine (is_any g L i false _ _ (uh H0)).mono ?_;rintro e w1 ⟨rfl,hb⟩;have P1:=hide (show Rx g L i false (w.alloc (.cells #[.int .i64 0,.string ⟨#[]⟩,.slice none 0 0,.slice none 0 0,.int .i64 0,.int .i64 0,.int .i64 0,.slice none 0 0] 29)) w1 from ⟨(uh H0).below hb,grown_bel hb _⟩);clear hb;rw [uh H1])
  | (go_at_call 27;refine (uh HF _ ((uh P2).1.inc (uh HI)).1).mono ?_;rintro e w3 ⟨x,i3,b3,⟨v,rfl,hn,hr⟩,hm⟩;obtain ⟨i4,b4,h4⟩:∃ i4 b4,sgS L ⟨#[41]⟩ i3 b3=(i4,b4):=⟨_,_,rfl⟩;have H4:=hide h4;have P3:=hide ((((uh P2).trans ((uh P2).1.inc (uh HI))).trans hr).bel ((RowKit.Below.refl _ _).alloc (Nat.le_refl _) (.cells #[.int .i64 v.kind,.string v.attr,.slice v.qi v.ni v.ci,.slice v.qw v.nw v.cw,.int .i64 v.lo,.int .i64 v.hi,.int .i64 v.op,.slice v.qk v.nk v.ck] 29)));have S3:=hide (show w.heap.size < w3.heap.size by have:=(uh P2).2.size;have:=hr.2.size;simp at *;omega);have HN:=hide (hn.keep ((RowKit.Below.refl _ _).alloc (Nat.le_refl _) (.cells #[.int .i64 v.kind,.string v.attr,.slice v.qi v.ni v.ci,.slice v.qw v.nw v.cw,.int .i64 v.lo,.int .i64 v.hi,.int .i64 v.op,.slice v.qk v.nk v.ck] 29)));have HM:=hide hm;clear hn hr hm h4;unfold Nv.val)
  | (go_at_call 100;refine (sign_st (uh P3).1 (uh H4)).mono ?_;rintro e w4 ⟨rfl,hx⟩;have P4:=hide ((uh P3).trans hx);have bx:=blk_far2 (box_nw w3 (.cells #[.int .i64 v.kind,.string v.attr,.slice v.qi v.ni v.ci,.slice v.qw v.nw v.cw,.int .i64 v.lo,.int .i64 v.hi,.int .i64 v.op,.slice v.qk v.nk v.ck] 29)) hx.2 (by have:=uh S3;omega);obtain ⟨p0,p1,p2,p3,p4,p5,p6,p7⟩:=of8' bx;have HX:=hide hx.2;obtain ⟨z1,⟨q0,q1,q2,q3,q4,q5,q6,q7⟩,qf⟩:=res8 (uh P4).2 hg;clear hx bx)
 have hu:NdFrom w4 (w.heap.size + 1) v x:=by
  refine ((uh HN).mono (B':=w.heap.size + 1) ?_).up ⟨(uh HX).size,fun b o hb hl=>(uh HX).cell_far ⟨b,o,none⟩ hl (fun e=>by have e2:b=g:=(by simpa using e);omega)⟩
  have:=(uh P2).2.size
  simp at this;simp;omega
 have h9:=fin8R (uh P4) hg hu (Nat.lt_succ_self _)
 refine bodyPost_ret (v:=v.val) (by simp [results,Tryz.results56,go_sem,Nv.val, *]) rfl ?_
 refine ⟨_,i4,b4,h9,fun en=>?_⟩
 rw [oneP_eq]
 simp only [brn,isS_none (uh H1),uh HR]
 refine (uh HM en).bnd (fun hb=>?_) fun hb=>sg_stay hb (uh H4)
 subst hb
 refine (sg_mt (uh H4)).bnd (fun hb=>?_) fun hb=>⟨rfl,hb⟩
 subst hb
 exact Mt.ret _
end Go.Proofs.YtencibjmiphinaaGreatDoor

/- trommelmem.SamePreds and SameConj. -/
import Derived.Test.YtimklglliffpcaaGreatQZSp
import Derived.Test.YtimklglliffpcaaGreatQZSm
import Derived.Test.YtimklglliffpcaaGreatQCjTrue
namespace Go.Proofs.YtimklglliffpcaaGreat
open Go.RowKit Go.Sort Go.Shelf

theorem same_no {α:Type} {l m:List α} {k:Nat} {x y:α} (hx:l[k]? = some x) (hy:m[k]? = some y) (h:x ≠ y):¬ l=m:=fun e=>by
 subst e
 rw [hx] at hy
 exact h (Option.some.inj hy)
theorem same_yes {α:Type} {l m:List α} (hl:l.length=m.length) (h:∀ (j:Nat) (x y:α),l[j]? = some x→m[j]? = some y→x=y):l=m:=by
 apply List.ext_getElem hl
 intro j h1 h2
 exact h j _ _ (List.getElem?_eq_getElem h1) (List.getElem?_eq_getElem h2)
set_option maxHeartbeats 4000000 in
set_option maxRecDepth 100000 in
theorem samePreds_any (q q':Option Addr) (c c':Nat) (l m:List Pd) (w:World) (h:PdsOf w q c l) (h':PdsOf w q' c' m) (hs:Small l) (hl:l.length≤10000000000000) :
  Calls Tryz.prog 77 #[.slice q l.length c,.slice q' m.length c'] w fun e w'=>e=.returned (.bool (decide (l=m)))∧Below w.heap.size w w':=by
 have mixed:Tryz.prog.follows .mixedOrders=true:=by kernel_rfl
 have en18:∀ args w,(callFunc 18 args).run Tryz.prog w=.ok (.enter 18 args) w:=enters_of Tryz.func18 (by kernel_rfl) rfl
 have i9:(l.length:Int)≤10000000000000:=by omega
 have HH:=hide h
 have HH':=hide h'
 have HS:=hide hs
 clear h h' hs
 by_cases hlm:l.length=m.length
 ·have HLM:=hide hlm
  rw [← hlm]
  clear hlm
  go_enter Tryz.func77,Tryz.ntmps77
  go_wp2
  go_loopw [5,13] (fun _ iv wr=>∃ k:Nat,k≤l.length∧iv=.int .i64 k∧Hid (∀ (j:Nat) (x y:Pd),j < k→l[j]? = some x→m[j]? = some y→x=y)∧Hid (Below w.heap.size w wr)) (fun _ iv _=>l.length - (intOf iv).toNat)
  case atStart=>exact ⟨0,Nat.zero_le _,rfl,hide (fun j x y hj=>absurd hj (by omega)),hide (Below.refl _ _)⟩
  case round =>
   obtain ⟨k,hk,rfl,HA,HB⟩:=hrel
   by_cases hlt:k < l.length
   ·obtain ⟨p,hp,_⟩:=get_at hlt
    obtain ⟨r,hr,_⟩:=get_at (l:=m) (k:=k) (by rw [← uh HLM];exact hlt)
    obtain ⟨b,off,u,hq,hb,hu,c0,c1,c2,c3,c4,c5⟩:=((uh HH).below (uh HB)).at hp
    obtain ⟨b',off',u',hq',hb',hu',d0,d1,d2,d3,d4,d5⟩:=((uh HH').below (uh HB)).at hr
    subst hq hq'
    have k0:(0:Int)≤(k:Int):=by omega
    have k1:(k:Int) < (l.length:Int):=by omega
    have e0:=cell_regrownC c0
    have e1:=cell_regrownC c1
    have e2:=cell_regrownC c2
    have e3:=cell_regrownC c3
    have e4:=cell_regrownC c4
    have e5:=cell_regrownC c5
    have f0:=cell_regrownC d0
    have f1:=cell_regrownC d1
    have f2:=cell_regrownC d2
    have f3:=cell_regrownC d3
    have f4:=cell_regrownC d4
    have f5:=cell_regrownC d5
    have hP:=fun n os=>samePd u u' p r (grow (redrawn wr n) os) (hu.keep (below_regrown wr n os)) (hu'.keep (below_regrown wr n os)) (uh HS p (List.mem_of_getElem? hp))
    have HP:=hide hp
    have HR:=hide hr
    clear c0 c1 c2 c3 c4 c5 d0 d1 d2 d3 d4 d5 hp hr hu hu'
    by_cases he:p=r
    ·have HE:=hide he
     rw [decide_eq_true he] at hP
     clear he
     go_wp2
     refine wp_region_quiet_below (by assumption) (by kernel_rfl) ?_
     repeat (go_big_quiet_step (first | (go_at_fn 18;refine Calls.regrown_of (hP _ _))))
     refine wpQuiet_nil ?_
     intro _ hw'
     obtain ⟨⟨dq,osq⟩,hw''⟩:=hw'
     subst hw''
     have BF:=hide (below_sub (uh HB) (below_regrown wr dq osq))
     generalize grow (redrawn wr dq) osq=V4 at BF ⊢
     go_wp2
     go_roundw
     case rel =>
      refine ⟨k + 1,by omega,by go_num,hide (fun j x y hj hx hy=>?_),BF⟩
      by_cases e:j=k
      ·subst e
       rw [uh HP] at hx
       rw [uh HR] at hy
       cases hx
       cases hy
       exact uh HE
      ·exact uh HA j x y (by omega) hx hy
     case measure=>simp [intOf];omega
    ·have HE:=hide (show false=decide (l=m) from (decide_eq_false (same_no (uh HP) (uh HR) he)).symm)
     rw [decide_eq_false he] at hP
     clear he
     go_wp2
     refine wp_region_quiet_below (by assumption) (by kernel_rfl) ?_
     repeat (go_big_quiet_step (first | (go_at_fn 18;refine Calls.regrown_of (hP _ _))))
     refine wpQuiet_nil ?_
     intro _ hw'
     obtain ⟨⟨dq,osq⟩,hw''⟩:=hw'
     subst hw''
     go_wp2
     go_ret
     exact ⟨ret_bool (uh HE),below_sub (uh HB) (below_regrown wr dq osq)⟩
   ·have k1:¬ (k:Int) < (l.length:Int):=by omega
    have HR:=hide (show true=decide (l=m) from (decide_eq_true (same_yes (uh HLM) fun j x y hx hy=>uh HA j x y (by have:=(List.getElem?_eq_some_iff.1 hx).1;omega) hx hy)).symm)
    go_wp2
    go_ret
    exact ⟨ret_bool (uh HR),uh HB⟩
 ·have HR:=hide (show false=decide (l=m) from (decide_eq_false (fun e=>hlm (by rw [e]))).symm)
  have hb:((l.length:Int) != (m.length:Int))=true:=by simp;omega
  go_enter Tryz.func77,Tryz.ntmps77
  go_wp2
  go_ret
  exact ⟨ret_bool (uh HR),Below.refl _ _⟩
theorem cd_eq (d e:Cd):decide (d=e)=(decide (d.never=e.never) && (decide (d.pos=e.pos) && decide (d.neg=e.neg))):=by
 obtain ⟨a,b,c⟩:=d
 obtain ⟨a',b',c'⟩:=e
 rw [Bool.eq_iff_iff]
 simp
set_option maxHeartbeats 4000000 in
set_option maxRecDepth 100000 in
theorem sameConj_any (u v:Cv) (d e:Cd) (w:World) (hu:CdIn w u d) (hv:CdIn w v e) (s1:Small d.pos) (s2:Small d.neg) (l1:d.pos.length≤10000000000000) (l2:d.neg.length≤10000000000000) :
  Calls Tryz.prog 26 #[.agg #[.bool u.never,.slice u.qp u.np u.cp,.slice u.qn u.nn u.cn],.agg #[.bool v.never,.slice v.qp v.np v.cp,.slice v.qn v.nn v.cn]] w fun e' w'=>e'=.returned (.bool (decide (d=e)))∧Below w.heap.size w w':=by
 obtain ⟨X,HX⟩:∃ X,(w.alloc (.cells #[.bool u.never,.slice u.qp u.np u.cp,.slice u.qn u.nn u.cn] 39)).alloc (.cells #[.bool v.never,.slice v.qp v.np v.cp,.slice v.qn v.nn v.cn] 39)=X:=⟨_,rfl⟩
 obtain ⟨xA,xB,bX,sX⟩:=twoM HX
 obtain ⟨hu1,hu2,hu3,hu4,hu5⟩:=hu
 obtain ⟨hv1,hv2,hv3,hv4,hv5⟩:=hv
 have hP:=fun (W:World) (hW:Below X.heap.size X W)=>samePreds_any u.qp v.qp u.cp v.cp d.pos e.pos W (hu4.below (below_sub bX hW)) (hv4.below (below_sub bX hW)) s1 l1
 have hN:=fun (W:World) (hW:Below X.heap.size X W)=>samePreds_any u.qn v.qn u.cn v.cn d.neg e.neg W (hu5.below (below_sub bX hW)) (hv5.below (below_sub bX hW)) s2 l2
 rw [← hu2,← hv2] at hP
 rw [← hu3,← hv3] at hN
 have HE:=hide (cd_eq d e)
 rw [← hu1,← hv1] at HE
 have HCX:∀ W',Below X.heap.size X W'→(W'.cell? ⟨w.heap.size,0,none⟩=some (.bool u.never)∧W'.cell? ⟨w.heap.size,1,none⟩=some (.slice u.qp u.np u.cp)∧W'.cell? ⟨w.heap.size,2,none⟩=some (.slice u.qn u.nn u.cn))∧(W'.cell? ⟨w.heap.size + 1,0,none⟩=some (.bool v.never)∧W'.cell? ⟨w.heap.size + 1,1,none⟩=some (.slice v.qp v.np v.cp)∧W'.cell? ⟨w.heap.size + 1,2,none⟩=some (.slice v.qn v.nn v.cn)):=fun W' hW=>⟨of3C (blk_on xA hW),of3C (blk_on xB hW)⟩
 have HCY:=hide HCX
 obtain ⟨⟨a0,a1,a2⟩,b0,b1,b2⟩:=HCX X (Below.refl _ _)
 have BX:=hide bX
 obtain ⟨np,hnp⟩:∃ x,decide (d.pos=e.pos)=x:=⟨_,rfl⟩
 obtain ⟨nn,hnn⟩:∃ x,decide (d.neg=e.neg)=x:=⟨_,rfl⟩
 rw [hnp] at hP HE
 rw [hnn] at hN HE
 obtain ⟨nu,hnu⟩:∃ x,u.never=x:=⟨_,rfl⟩
 obtain ⟨nv,hnv⟩:∃ x,v.never=x:=⟨_,rfl⟩
 rw [hnu] at a0 HX HCY HE ⊢
 rw [hnv] at b0 HX HCY HE ⊢
 clear hnp hnn hnu hnv hu1 hu2 hu3 hu4 hu5 hv1 hv2 hv3 hv4 hv5 xA xB bX HCX
 go_enter Tryz.func26,Tryz.ntmps26
 go_upto_region 1 with (fail)
 clear HX
 cases nu <;> cases nv <;> cases np <;> cases nn
 all_goals
  go_wp2_with (first
   | (go_at_call 77;(with_reducible refine (hP _ (Below.refl _ _)).mono ?_);rintro e' w1 ⟨rfl,b1⟩;have B1:=hide b1;clear b1;clear hP a0 a1 a2 b0 b1 b2;obtain ⟨⟨a0,a1,a2⟩,b0,b1,b2⟩:=uh HCY _ (uh B1))
   | (go_at_call 77;(with_reducible refine (hN _ (uh B1)).mono ?_);rintro e' w2 ⟨rfl,b2⟩;have B2:=hide b2;clear b2))
  go_ret
  first
   | exact ⟨ret_bool (by rw [uh HE];rfl),below_sub (uh BX) (below_sub (uh B1) (uh B2))⟩
   | exact ⟨ret_bool (by rw [uh HE];rfl),below_sub (uh BX) (uh B1)⟩
   | exact ⟨ret_bool (by rw [uh HE];rfl),uh BX⟩
end Go.Proofs.YtimklglliffpcaaGreat
namespace Go.Proofs.YtimklglliffpcaaGreat
open Go.RowKit Go.Sort Go.Shelf

def toL (b:Bool) (u:Pv):Lv:=⟨u.kind,u.attr,u.qi,u.ni,u.ci,u.qw,u.nw,u.cw,u.lo,u.hi,b⟩
theorem toL_in {w:World} {u:Pv} {p:Pd} (b:Bool) (h:PdIn w u p):LitIn w (toL b u) (litP b p):=by
 obtain ⟨h1,h2,h3,h4,h5,h6,h7,h8⟩:=h
 exact ⟨h1,h2,h3,h4,h5,h6,rfl,h7,h8⟩
theorem map_snoc {α β:Type} {l:List α} {k:Nat} {x:α} (f:α→β) (h:l[k]? = some x):(l.take k).map f ++ [f x]=(l.take (k + 1)).map f:=by rw [take_snoc_of h,List.map_append];rfl
theorem rev_snoc {α:Type} {l:List α} {t m:Nat} {x:α} (h:l[t]? = some x) (hm:t + 1 + m=l.length):l.reverse.take m ++ [x]=l.reverse.take (m + 1):=by
 have:l.reverse[m]? = some x:=by rw [List.getElem?_reverse (by omega),show l.length - 1 - m=t by omega];exact h
 rw [take_snoc_of this]
/-- The rows of a conjunction's own literals. -/
theorem own_lits {W:World} {q:Option Addr} {c B:Nat} {us vs:List Pv} {d:Cd} (h:OwnK encL 64 7 B W q c (us.map (toL false) ++ vs.map (toL true))) (h1:us.length=d.pos.length) (h2:vs.length=d.neg.length) (i1:∀ (j:Nat) (u:Pv) (p:Pd),us[j]? = some u→d.pos[j]? = some p→PdIn W u p) (i2:∀ (j:Nat) (u:Pv) (p:Pd),vs[j]? = some u→d.neg[j]? = some p→PdIn W u p):LitsOf W q c (ownL d):=by
 refine ⟨_,h.ls,by simp [ownL,h1,h2],fun j u l hu hl=>?_⟩
 unfold ownL at hl
 by_cases hj:j < us.length
 ·rw [List.getElem?_append_left (by simpa using hj),List.getElem?_map] at hu
  rw [List.getElem?_append_left (by simpa using (by omega:j < d.pos.length)),List.getElem?_map] at hl
  obtain ⟨x,hx,rfl⟩:=Option.map_eq_some_iff.1 hu
  obtain ⟨p,hp,rfl⟩:=Option.map_eq_some_iff.1 hl
  exact toL_in false (i1 j x p hx hp)
 ·rw [List.getElem?_append_right (by simpa using hj),List.getElem?_map] at hu
  rw [List.getElem?_append_right (by simpa using (by omega:¬ j < d.pos.length)),List.getElem?_map] at hl
  obtain ⟨x,hx,rfl⟩:=Option.map_eq_some_iff.1 hu
  obtain ⟨p,hp,rfl⟩:=Option.map_eq_some_iff.1 hl
  simp only [List.length_map] at hx hp
  rw [h1] at hx
  exact toL_in true (i2 _ x p hx hp)
theorem back_lits {W:World} {q:Option Addr} {c B:Nat} {us:List Lv} {ls:List Lt} (h:OwnK encL 64 7 B W q c (us.reverse ++ us)) (h1:us.length=ls.length) (i1:∀ (j:Nat) (u:Lv) (l:Lt),us[j]? = some u→ls[j]? = some l→LitIn W u l):LitsOf W q c (ls.reverse ++ ls):=by
 refine ⟨_,h.ls,by simp [h1],fun j u l hu hl=>?_⟩
 by_cases hj:j < us.length
 ·rw [List.getElem?_append_left (by simpa using hj),List.getElem?_reverse hj] at hu
  rw [List.getElem?_append_left (by simpa using (by omega:j < ls.length)),List.getElem?_reverse (by omega)] at hl
  rw [h1] at hu
  exact i1 _ u l hu hl
 ·rw [List.getElem?_append_right (by simpa using hj),List.length_reverse] at hu
  rw [List.getElem?_append_right (by simpa using (by omega:¬ j < ls.length)),List.length_reverse] at hl
  rw [h1] at hu
  exact i1 _ u l hu hl
theorem own_small {ls:List Lt} (h:okL ls=true):SmallL (ownL (makeD ls))∧NamesFit (ownL (makeD ls)):=by
 have ho:=own_ok h
 unfold okL at ho
 refine ⟨fun l hl=>ok_small (List.all_eq_true.1 ho l hl),fun l hl=>?_⟩
 have:=(ok_parts (List.all_eq_true.1 ho l hl)).1
 have h2:(ltPd l).attr.size≤32:=by unfold nameOk at this;simp only [Bool.and_eq_true,decide_eq_true_eq] at this;exact this.1.1.2
 show (ltPd l).attr.size≤maxLen
 unfold maxLen
 omega
theorem make_len {ls:List Lt}:(makeD ls).pos.length≤ls.length∧(makeD ls).neg.length≤ls.length:=by
 cases h:okL ls with
 | false=>unfold makeD;rw [h];exact ⟨Nat.zero_le _,Nat.zero_le _⟩
 | true =>
  rcases make_parts h with e | ⟨d,e,ha,_⟩
  ·rw [e];exact ⟨Nat.zero_le _,Nat.zero_le _⟩
  ·rw [e]
   refine ⟨?_, ?_⟩
   ·have:=names_le ls
    rw [← ha,List.length_map] at this
    exact this
   ·exact Nat.le_trans (cptD_len _) (Nat.le_trans (Nat.le_of_eq (srtD_perm _).length_eq) (negL_len ls))
theorem make_smalls {ls:List Lt}:Small (makeD ls).pos∧Small (makeD ls).neg:=by
 cases h:okL ls with
 | false=>unfold makeD;rw [h];exact ⟨fun p hp=>by simp at hp,fun p hp=>by simp at hp⟩
 | true =>
  rcases make_parts h with e | ⟨d,e,_,hn⟩
  ·rw [e];exact ⟨fun p hp=>by simp at hp,fun p hp=>by simp at hp⟩
  ·rw [e];exact ⟨fun p hp=>ok_small (hn p hp).1,fun p hp=>ok_small (negD_nf h p hp).1⟩
theorem names_nil:(namesD []).length=0:=Nat.le_zero.1 (names_le [])
theorem own_lt7 {B c n:Nat} {w:World} {q:Option Addr} {l:List Lv} (h:OwnK encL 64 7 B w q c l) (hl:l.length=n):∀ b,(Value.slice q n c).ownBlock=some b→b < w.heap.size:=fun b e=>by
 subst hl
 exact (World.ownsRow.lt h b e).2
theorem off_grown {C:Nat} {w W:World} {x:Cv} {d:Cd} {r:Option Nat} (h:CdNew C w x d) (hg:w.grownBy W r) (hr:∀ b,r=some b→b < C) (h0:0 < C):CdIn W x d:=by
 cases r with
 | none=>exact h.off h0 W hg.size fun b hb _=>hg.block b hb (by simp)
 | some g=>exact h.off (hr g rfl) W hg.size fun b hb hne=>hg.block b hb (by simpa using hne)
set_option maxHeartbeats 16000000 in
set_option maxRecDepth 100000 in
theorem conjMeans_law (q:Option Addr) (c:Nat) (ls:List Lt) (qv:Option Addr) (cv:Nat) (evs:List (List Pr)) (w:World) (h:LitsOf w q c ls) (he:EvsOf w qv cv evs) (hs:SmallL ls) (hf:NamesFit ls) (hbl:litBound ls) (hl:ls.length≤50000000) (hle:evs.length≤1000000000) (hl3:∀ ev ∈ evs,ev.length≤1000000000) :
  Calls Tryz.prog 6 #[.slice q ls.length c,.slice qv evs.length cv] w fun e w'=>e=.returned (.bool true)∧Below w.heap.size w w':=by
 have mixed:Tryz.prog.follows .mixedOrders=true:=by kernel_rfl
 have i9:(ls.length:Int)≤50000000:=by omega
 have i8:(evs.length:Int)≤1000000000:=by omega
 obtain ⟨ws,sw,lw,iw⟩:=h
 have SW:=hide sw
 have HIW:=hide (And.intro lw iw)
 replace h:LitsOf w q c ls:=⟨ws,sw,lw,iw⟩
 clear sw lw iw
 have hF:=fixed_any w
 have HM:=hide (fun (W:World) (hW:Below w.heap.size w W)=>make_any q c ls W (h.below hW) hs hf (by omega))
 have HL:=hide h
 have HE:=hide he
 have HS:=hide hs
 have HF:=hide hf
 have HBL:=hide hbl
 have HL3:=hide hl3
 clear h he hs hf hbl hl3
 go_enter Tryz.func6,Tryz.ntmps6
 go_upto_region 3 with (go_at_call 11;refine hF.mono ?_;rintro e w1 ⟨rfl,b1⟩;have B1:=hide b1;clear b1)
 clear hF
 have hM:=uh HM w1 (uh B1)
 go_upto_region 4 with (go_at_call 24;refine hM.mono ?_;rintro e w2 ⟨⟨v,rfl,h2⟩,b2⟩;have B2:=hide (below_sub (uh B1) b2);have C2:=hide h2;clear b2 h2)
 clear hM
 obtain ⟨nv,hnv⟩:∃ nv,v.never=nv:=⟨_,rfl⟩
 rw [hnv]
 obtain ⟨X,HX⟩:∃ X,w2.alloc (.cells #[.bool nv,.slice v.qp v.np v.cp,.slice v.qn v.nn v.cn] 39)=X:=⟨_,rfl⟩
 rw [HX]
 have bX:Below w2.heap.size w2 X:=by rw [← HX];exact (Below.refl _ _).alloc (Nat.le_refl _) _
 have x8:X.heap[w2.heap.size]? = some (.cells #[.bool nv,.slice v.qp v.np v.cp,.slice v.qn v.nn v.cn] 39 (0,0)):=by rw [← HX];exact box_nw _ _
 have X8:=hide x8
 have BX:=hide (below_sub (uh B2) bX)
 have CX:=hide ((uh C2).below bX).in
 have HNV:=hide hnv
 obtain ⟨x0,x1,x2⟩:=of3C x8
 have SZ:=hide (heap_lt x8)
 clear HX bX x8 B2 C2 hnv
 obtain ⟨er,her⟩:∃ er,makeE ls=er:=⟨_,rfl⟩
 rw [her]
 cases hok:okL ls with
 | false =>
  obtain rfl:er=1:=by rw [← her];unfold makeE;rw [hok];rfl
  have hD:makeD ls=⟨false,[],[]⟩:=by unfold makeD;rw [hok];rfl
  have hC:=uh CX
  rw [hD] at hC
  have hS:=sameConj_any v ⟨false,none,0,0,none,0,0⟩ ⟨false,[],[]⟩ ⟨false,[],[]⟩ X hC (CdNew.nil 0 X false).in (fun p hp=>by simp at hp) (fun p hp=>by simp at hp) (by simp) (by simp)
  rw [decide_eq_true rfl,uh HNV] at hS
  clear hC hD her
  go_wp2_with (go_at_call 26;refine hS.mono ?_;rintro e w3 ⟨rfl,b3⟩;have B3:=hide b3;clear b3)
  go_ret
  exact ⟨rfl,below_sub (uh BX) (uh B3)⟩
 | true =>
  obtain rfl:er=0:=by rw [← her];unfold makeE;rw [hok];rfl
  obtain ⟨c1,c2,c3,⟨us,su,lu,iu⟩,⟨vs,sv,lv,iv⟩⟩:=uh CX
  rw [uh HNV] at c1
  have hml:=make_len (ls:=ls)
  have HIU:=hide (And.intro lu iu)
  have HIV:=hide (And.intro lv iv)
  have hnp:us.length=v.np:=by omega
  have hnn:vs.length=v.nn:=by omega
  have SU:=hide su
  have SV:=hide sv
  have HNP:=hide hnp
  have HNN:=hide hnn
  have HC1:=hide c1
  have np9:(v.np:Int)≤50000000:=by omega
  have nn9:(v.nn:Int)≤50000000:=by omega
  obtain ⟨np,enp⟩:∃ np,v.np=np:=⟨_,rfl⟩
  obtain ⟨nn,enn⟩:∃ nn,v.nn=nn:=⟨_,rfl⟩
  have ENP:=hide enp
  have ENN:=hide enn
  rw [enp] at np9 x1
  rw [enn] at nn9 x2
  obtain ⟨qp,eqp⟩:∃ z,v.qp=z:=⟨_,rfl⟩
  obtain ⟨cp,ecp⟩:∃ z,v.cp=z:=⟨_,rfl⟩
  obtain ⟨qn,eqn⟩:∃ z,v.qn=z:=⟨_,rfl⟩
  obtain ⟨cn,ecn⟩:∃ z,v.cn=z:=⟨_,rfl⟩
  rw [eqp,ecp] at x1 SU
  rw [eqn,ecn] at x2 SV
  have EQS:=hide (And.intro eqp (And.intro ecp (And.intro eqn ecn)))
  have HOK:=hide hok
  clear c1 c2 c3 su lu iu sv lv iv hml hnp hnn hok her enp enn eqp ecp eqn ecn
  go_wp2
  go_loopw [7,44] (fun ov kv wr=>∃ (k:Nat) (q':Option Addr) (c':Nat),k≤np∧kv=.int .i64 k∧ov=.slice q' k c'∧Hid (OwnK encL 64 7 X.heap.size wr q' c' ((us.take k).map (toL false)))∧Hid (Below X.heap.size X wr)) (fun _ kv _=>np - (intOf kv).toNat)
  case atStart=>exact ⟨0,none,0,Nat.zero_le _,rfl,rfl,hide (OwnK.nil _ _),hide (Below.refl _ _)⟩
  case round =>
   obtain ⟨k,q',c',hk,rfl,rfl,HO,HB⟩:=hrel
   by_cases hlt:k < np
   ·obtain ⟨u,hu,_⟩:=get_at (l:=us) (k:=k) (by rw [uh HNP,uh ENP];exact hlt)
    obtain ⟨b,off,hq,hb,hc⟩:=LsOf.at (uh SU).2.2.2 hu
    subst hq
    have g0:=((uh HB).cell (p:=⟨b,_,none⟩) hb).trans (hc 0 (by decide))
    have g1:=((uh HB).cell (p:=⟨b,_,none⟩) hb).trans (hc 1 (by decide))
    have g2:=((uh HB).cell (p:=⟨b,_,none⟩) hb).trans (hc 2 (by decide))
    have g3:=((uh HB).cell (p:=⟨b,_,none⟩) hb).trans (hc 3 (by decide))
    have g4:=((uh HB).cell (p:=⟨b,_,none⟩) hb).trans (hc 4 (by decide))
    have g5:=((uh HB).cell (p:=⟨b,_,none⟩) hb).trans (hc 5 (by decide))
    replace g0:wr.cell? ⟨b,off + k * 6,none⟩=some (.int .i64 u.kind):=g0
    replace g1:wr.cell? ⟨b,off + k * 6 + 1,none⟩=some (.string u.attr):=g1
    replace g2:wr.cell? ⟨b,off + k * 6 + 2,none⟩=some (.slice u.qi u.ni u.ci):=g2
    replace g3:wr.cell? ⟨b,off + k * 6 + 3,none⟩=some (.slice u.qw u.nw u.cw):=g3
    replace g4:wr.cell? ⟨b,off + k * 6 + 4,none⟩=some (.int .i64 u.lo):=g4
    replace g5:wr.cell? ⟨b,off + k * 6 + 5,none⟩=some (.int .i64 u.hi):=g5
    have k0:(0:Int)≤(k:Int):=by omega
    have k1:(k:Int) < (np:Int):=by omega
    obtain ⟨Z,HZ⟩:∃ Z,wr.alloc (.cells #[.int .i64 u.kind,.string u.attr,.slice u.qi u.ni u.ci,.slice u.qw u.nw u.cw,.int .i64 u.lo,.int .i64 u.hi] 26)=Z:=⟨_,rfl⟩
    have bZ:Below wr.heap.size wr Z:=by rw [← HZ];exact (Below.refl _ _).alloc (Nat.le_refl _) _
    have zk:Z.heap[wr.heap.size]? = some (.cells #[.int .i64 u.kind,.string u.attr,.slice u.qi u.ni u.ci,.slice u.qw u.nw u.cw,.int .i64 u.lo,.int .i64 u.hi] 26 (0,0)):=by rw [← HZ];exact World.alloc_heap_new _ _
    obtain ⟨e0,e1,e2,e3,e4,e5⟩:=of6C zk
    have BZ:=hide bZ
    have HU:=hide hu
    have LN:=hide (show ((us.take k).map (toL false)).length=k by rw [List.length_map,List.length_take];have:=uh HNP;have:=uh ENP;omega)
    have hB0:=(uh HB).size
    have hB1:=(uh BZ).size
    clear hc hu bZ zk hb
    go_upto_region 10 with (fail)
    clear HZ g0 g1 g2 g3 g4 g5
    go_wp2_with (at_builtin;refine wpList_appG rowL rfl _ _ rfl X.heap.size q' c' ((us.take k).map (toL false)) ⟨Z.heap.size,0,none⟩ 1 [toL false u] k 1 (k + 1) (uh LN) rfl rfl rfl rfl ((uh HO).below ((uh BZ).alloc hB1 _)) (lit_src (toL false u) rfl) (by unfold maxLen;omega) (by omega) (by simp only [size_al];omega) ?_;intro q9 c9 w9 ho9 hb9 _ _;have HO9:=hide ho9;have HB9:=hide hb9;clear ho9 hb9)
    go_roundw
    case rel=>exact ⟨k + 1,q9,c9,by omega,by go_num,rfl,hide (map_snoc (toL false) (uh HU) ▸ uh HO9),hide ((uh HB).trans (((uh BZ).mono hB0).trans ((((Below.refl _ _).alloc (Nat.le_refl _) _).mono (Nat.le_trans hB0 hB1)).trans (uh HB9))))⟩
    case measure=>simp [intOf];omega
   ·have k1:¬ (k:Int) < (np:Int):=by omega
    obtain rfl:np=k:=by omega
    have HO1:=hide (show OwnK encL 64 7 X.heap.size wr q' c' (us.map (toL false)) by
     have:=uh HO
     rwa [List.take_of_length_le (by rw [uh HNP,uh ENP];omega)] at this)
    have LU:=hide (show (us.map (toL false)).length=np by rw [List.length_map,uh HNP,uh ENP])
    obtain ⟨V1,hV1⟩:∃ V1,V1=wr:=⟨_,rfl⟩
    subst hV1
    clear x0 x1 x2
    obtain ⟨x0,x1,x2⟩:=of3C (blk_on (uh X8) (uh HB))
    rw [uh ENN,(uh EQS).2.2.1,(uh EQS).2.2.2] at x2
    go_wp2
    go_loopw [7,57] (fun ov kv wr=>∃ (k m:Nat) (q':Option Addr) (c':Nat),k≤nn∧kv=.int .i64 k∧ov=.slice q' m c'∧Hid (np + k=m)∧Hid (OwnK encL 64 7 X.heap.size wr q' c' (us.map (toL false) ++ (vs.take k).map (toL true)))∧Hid (Below X.heap.size X wr)) (fun _ kv _=>nn - (intOf kv).toNat)
    case atStart=>exact ⟨0,np,q',c',Nat.zero_le _,rfl,rfl,hide rfl,hide (by simpa using uh HO1),HB⟩
    case round =>
     obtain ⟨k,m,q2,c2,hk,rfl,rfl,HMK,HO2,HB2⟩:=hrel
     by_cases hlt:k < nn
     ·obtain ⟨u,hu,_⟩:=get_at (l:=vs) (k:=k) (by rw [uh HNN,uh ENN];exact hlt)
      obtain ⟨b,off,hq,hb,hc⟩:=LsOf.at (uh SV).2.2.2 hu
      subst hq
      have g0:=((uh HB2).cell (p:=⟨b,_,none⟩) hb).trans (hc 0 (by decide))
      have g1:=((uh HB2).cell (p:=⟨b,_,none⟩) hb).trans (hc 1 (by decide))
      have g2:=((uh HB2).cell (p:=⟨b,_,none⟩) hb).trans (hc 2 (by decide))
      have g3:=((uh HB2).cell (p:=⟨b,_,none⟩) hb).trans (hc 3 (by decide))
      have g4:=((uh HB2).cell (p:=⟨b,_,none⟩) hb).trans (hc 4 (by decide))
      have g5:=((uh HB2).cell (p:=⟨b,_,none⟩) hb).trans (hc 5 (by decide))
      replace g0:wr.cell? ⟨b,off + k * 6,none⟩=some (.int .i64 u.kind):=g0
      replace g1:wr.cell? ⟨b,off + k * 6 + 1,none⟩=some (.string u.attr):=g1
      replace g2:wr.cell? ⟨b,off + k * 6 + 2,none⟩=some (.slice u.qi u.ni u.ci):=g2
      replace g3:wr.cell? ⟨b,off + k * 6 + 3,none⟩=some (.slice u.qw u.nw u.cw):=g3
      replace g4:wr.cell? ⟨b,off + k * 6 + 4,none⟩=some (.int .i64 u.lo):=g4
      replace g5:wr.cell? ⟨b,off + k * 6 + 5,none⟩=some (.int .i64 u.hi):=g5
      have k0:(0:Int)≤(k:Int):=by omega
      have k2:(k:Int) < (nn:Int):=by omega
      obtain ⟨Z,HZ⟩:∃ Z,wr.alloc (.cells #[.int .i64 u.kind,.string u.attr,.slice u.qi u.ni u.ci,.slice u.qw u.nw u.cw,.int .i64 u.lo,.int .i64 u.hi] 26)=Z:=⟨_,rfl⟩
      have bZ:Below wr.heap.size wr Z:=by rw [← HZ];exact (Below.refl _ _).alloc (Nat.le_refl _) _
      have zk:Z.heap[wr.heap.size]? = some (.cells #[.int .i64 u.kind,.string u.attr,.slice u.qi u.ni u.ci,.slice u.qw u.nw u.cw,.int .i64 u.lo,.int .i64 u.hi] 26 (0,0)):=by rw [← HZ];exact World.alloc_heap_new _ _
      obtain ⟨e0,e1,e2,e3,e4,e5⟩:=of6C zk
      have BZ:=hide bZ
      have HU:=hide hu
      have LN:=hide (show (us.map (toL false) ++ (vs.take k).map (toL true)).length=m by rw [List.length_append,uh LU,List.length_map,List.length_take];have:=uh HNN;have:=uh ENN;have:=uh HMK;omega)
      have hB0:=(uh HB2).size
      have hB1:=(uh BZ).size
      have hm9:m≤100000000:=by have:=uh HMK;omega
      clear hc hu bZ zk hb
      go_upto_region 15 with (fail)
      clear HZ g0 g1 g2 g3 g4 g5
      go_wp2_with (at_builtin;refine wpList_appG rowL rfl _ _ rfl X.heap.size q2 c2 (us.map (toL false) ++ (vs.take k).map (toL true)) ⟨Z.heap.size,0,none⟩ 1 [toL true u] m 1 (m + 1) (uh LN) rfl rfl rfl rfl ((uh HO2).below ((uh BZ).alloc hB1 _)) (lit_src (toL true u) rfl) (by unfold maxLen;omega) (by omega) (by simp only [size_al];omega) ?_;intro q9 c9 w9 ho9 hb9 _ _;have HO9:=hide ho9;have HB9:=hide hb9;clear ho9 hb9)
      go_roundw
      case rel=>exact ⟨k + 1,m + 1,q9,c9,by omega,by go_num,rfl,hide (by have:=uh HMK;omega),hide (by rw [← map_snoc (toL true) (uh HU),← List.append_assoc];exact uh HO9),hide ((uh HB2).trans (((uh BZ).mono hB0).trans ((((Below.refl _ _).alloc (Nat.le_refl _) _).mono (Nat.le_trans hB0 hB1)).trans (uh HB9))))⟩
      case measure=>simp [intOf];omega
     ·have k2:¬ (k:Int) < (nn:Int):=by omega
      obtain rfl:nn=k:=by omega
      have HOW:=hide (show OwnK encL 64 7 X.heap.size wr q2 c2 (us.map (toL false) ++ vs.map (toL true)) by
       have:=uh HO2
       rwa [List.take_of_length_le (l:=vs) (by rw [uh HNN,uh ENN];omega)] at this)
      obtain ⟨Y3,hY3⟩:∃ Y3,Y3=wr:=⟨_,rfl⟩
      subst hY3
      clear x0 x1 x2 HO HO1 HO2
      have n0:(ls.length:Int) - 1≤50000000:=by omega
      go_wp2
      go_loopw [8,13] (fun bv iv wr=>∃ (k m:Nat) (i:Int) (q':Option Addr) (c':Nat),iv=.int .i64 i∧bv=.slice q' m c'∧Hid (i=(k:Int) - 1)∧Hid (k + m=ls.length)∧Hid (OwnK encL 64 7 Y3.heap.size wr q' c' (ws.reverse.take m))∧Hid (Below Y3.heap.size Y3 wr)) (fun _ iv _=>(intOf iv + 1).toNat)
      case atStart=>exact ⟨ls.length,0,(ls.length:Int) - 1,none,0,rfl,rfl,hide rfl,hide rfl,hide (OwnK.nil _ _),hide (Below.refl _ _)⟩
      case round =>
       obtain ⟨k,mm,i,q3,c3,rfl,rfl,HI,HKM,HO3,HB3⟩:=hrel
       cases k with
       | succ t =>
        obtain rfl:i=(t:Int):=by have:=uh HI;omega
        have htl:t < ls.length:=by have:=uh HKM;omega
        obtain ⟨u,hu,_⟩:=get_at (l:=ws) (k:=t) (by rw [(uh HIW).1];exact htl)
        obtain ⟨b,off,hq,hb,hc⟩:=LsOf.at (uh SW).2.2.2 hu
        subst hq
        have BWR:=hide (below_sub (uh BX) (below_sub (uh HB2) (uh HB3)))
        have g0:=((uh BWR).cell (p:=⟨b,_,none⟩) hb).trans (hc 0 (by decide))
        have g1:=((uh BWR).cell (p:=⟨b,_,none⟩) hb).trans (hc 1 (by decide))
        have g2:=((uh BWR).cell (p:=⟨b,_,none⟩) hb).trans (hc 2 (by decide))
        have g3:=((uh BWR).cell (p:=⟨b,_,none⟩) hb).trans (hc 3 (by decide))
        have g4:=((uh BWR).cell (p:=⟨b,_,none⟩) hb).trans (hc 4 (by decide))
        have g5:=((uh BWR).cell (p:=⟨b,_,none⟩) hb).trans (hc 5 (by decide))
        have g6:=((uh BWR).cell (p:=⟨b,_,none⟩) hb).trans (hc 6 (by decide))
        replace g0:wr.cell? ⟨b,off + t * 7,none⟩=some (.int .i64 u.kind):=g0
        replace g1:wr.cell? ⟨b,off + t * 7 + 1,none⟩=some (.string u.attr):=g1
        replace g2:wr.cell? ⟨b,off + t * 7 + 2,none⟩=some (.slice u.qi u.ni u.ci):=g2
        replace g3:wr.cell? ⟨b,off + t * 7 + 3,none⟩=some (.slice u.qw u.nw u.cw):=g3
        replace g4:wr.cell? ⟨b,off + t * 7 + 4,none⟩=some (.int .i64 u.lo):=g4
        replace g5:wr.cell? ⟨b,off + t * 7 + 5,none⟩=some (.int .i64 u.hi):=g5
        replace g6:wr.cell? ⟨b,off + t * 7 + 6,none⟩=some (.bool u.neg):=g6
        have k0:(0:Int)≤(t:Int):=by omega
        have k3:(t:Int) < (ls.length:Int):=by omega
        have HU:=hide hu
        have LN:=hide (show (ws.reverse.take mm).length=mm by rw [List.length_take,List.length_reverse,(uh HIW).1];have:=uh HKM;omega)
        have hB0:=(uh HB3).size
        have hm9:mm≤100000000:=by have:=uh HKM;omega
        clear hc hu hb
        go_wp2_with (at_builtin;refine wpList_appG rowL rfl _ _ rfl Y3.heap.size q3 c3 (ws.reverse.take mm) ⟨wr.heap.size,0,none⟩ 1 [u] mm 1 (mm + 1) (uh LN) rfl rfl rfl rfl ((uh HO3).below ((Below.refl _ _).alloc (Nat.le_refl _) _)) (lit_src u rfl) (by unfold maxLen;omega) (by omega) (by simp only [size_al];omega) ?_;intro q9 c9 w9 ho9 hb9 _ _;have HO9:=hide ho9;have HB9:=hide hb9;clear ho9 hb9)
        go_roundw
        case rel=>exact ⟨t,mm + 1,(t:Int) - 1,q9,c9,rfl,rfl,hide rfl,hide (by have:=uh HKM;omega),hide (rev_snoc (uh HU) (by rw [(uh HIW).1];exact uh HKM) ▸ uh HO9),hide ((uh HB3).trans (((Below.refl _ _).alloc hB0 _).trans (uh HB9)))⟩
        case measure=>simp [intOf]
       | zero =>
        obtain rfl:i=-1:=by have:=uh HI;omega
        obtain rfl:mm=ls.length:=by have:=uh HKM;omega
        have HOB:=hide (show OwnK encL 64 7 Y3.heap.size wr q3 c3 ws.reverse by
         have:=uh HO3
         rwa [List.take_of_length_le (by rw [List.length_reverse,(uh HIW).1];omega)] at this)
        obtain ⟨V3,hV3⟩:∃ V3,V3=wr:=⟨_,rfl⟩
        subst hV3
        have BV3:=hide (below_sub (uh HB2) (uh HB3))
        have hmk:=make_len (ls:=ls)
        have hOL:(ownL (makeD ls)).length=m:=by unfold ownL;rw [List.length_append,List.length_map,List.length_map,← (uh HIU).1,← (uh HIV).1,uh HNP,uh ENP,uh HNN,uh ENN];exact uh HMK
        have hM2:=make_any q2 c2 (ownL (makeD ls)) V3 (own_lits ((uh HOW).below (uh HB3)) (uh HIU).1 (uh HIV).1 (fun j u p a b=>((uh HIU).2 j u p a b).keep (uh BV3)) (fun j u p a b=>((uh HIV).2 j u p a b).keep (uh BV3))) (own_small (uh HOK)).1 (own_small (uh HOK)).2 (by rw [hOL];have:=uh HMK;omega)
        have hE2:makeE (ownL (makeD ls))=0:=by unfold makeE;rw [own_ok (uh HOK)];rfl
        rw [hOL,hE2] at hM2
        clear hmk hOL hE2 HO3
        go_upto_region 22 with (go_at_call 24;refine hM2.mono ?_;rintro e w4 ⟨⟨a,rfl,h4⟩,b4⟩;have B4:=hide b4;have C4:=hide h4;clear b4 h4)
        clear hM2
        obtain ⟨na,hna⟩:∃ na,a.never=na:=⟨_,rfl⟩
        rw [hna]
        obtain ⟨Y4,HY4⟩:∃ Y,w4.alloc (.cells #[.bool na,.slice a.qp a.np a.cp,.slice a.qn a.nn a.cn] 39)=Y:=⟨_,rfl⟩
        rw [HY4]
        have b44:Below w4.heap.size w4 Y4:=by rw [← HY4];exact (Below.refl _ _).alloc (Nat.le_refl _) _
        have Y8:=hide (show Y4.heap[w4.heap.size]? = some (.cells #[.bool na,.slice a.qp a.np a.cp,.slice a.qn a.nn a.cn] 39 (0,0)) by rw [← HY4];exact box_nw _ _)
        have C44:=hide ((uh C4).below b44)
        have B44:=hide (below_sub (uh B4) b44)
        have HNA:=hide hna
        have hs4:=(uh B44).size
        have hs3:=(uh HB3).size
        have LR:=hide (show ws.reverse.length=ls.length by rw [List.length_reverse,(uh HIW).1])
        obtain ⟨nd,hnd⟩:∃ nd,ls.length + ls.length=nd:=⟨_,rfl⟩
        have HND:=hide hnd
        have hnd9:nd≤100000000:=by omega
        have BOL:=hide (fun b e=>own_lt7 (uh HOB) (uh LR) b e)
        have HV0:=hide (show 0 < V3.heap.size from Nat.lt_of_lt_of_le (Nat.lt_of_le_of_lt (Nat.zero_le _) (uh SZ)) (uh BV3).size)
        have B4S:=hide (uh B4).size
        clear HY4 b44 C4 hna hnd B4
        have hM3:=fun (W:World) (qw:Option Addr) (cw:Nat) (h:LitsOf W qw cw (ls.reverse ++ ls))=>make_any qw cw (ls.reverse ++ ls) W h (fun l hl=>uh HS l ((turn_lits ls l).1 hl)) (fun l hl=>uh HF l ((turn_lits ls l).1 hl)) (by rw [List.length_append,List.length_reverse];omega)
        have hE3:makeE (ls.reverse ++ ls)=0:=by rw [makeE_mem (turn_lits ls)];unfold makeE;rw [uh HOK];rfl
        have hD3:=make_mem (turn_lits ls)
        rw [hE3,hD3,List.length_append,List.length_reverse,uh HND] at hM3
        clear hE3 hD3
        go_upto_region 23 with (first
         | (at_builtin;refine wpList_app rowL rfl _ _ rfl Y3.heap.size q3 c3 ws.reverse q c ws ls.length ls.length nd (uh LR) (uh HIW).1 (uh HND) rfl rfl ((uh HOB).below (uh B44)) ((uh SW).below (below_sub (uh BX) (below_sub (uh BV3) (uh B44)))).src (by unfold maxLen;omega) (by omega) (by omega) ?_;intro q5 c5 w5 ho5 hb5 _ hg5;have HO5:=hide ho5;have HB5:=hide hb5;have HG5:=hide hg5;clear ho5 hb5 hg5)
         | (go_at_call 24;refine (hM3 _ _ _ (back_lits (uh HO5) (uh HIW).1 (fun j u l a b=>((uh HIW).2 j u l a b).keep (below_sub (uh BX) (below_sub (uh HB2) ((uh HB3).trans (((uh B44).mono hs3).trans (uh HB5)))))))).mono ?_;rintro e w6 ⟨⟨a2,rfl,h6⟩,b6⟩;have B6:=hide b6;have C6:=hide h6;clear b6 h6))
        clear hM3
        obtain ⟨nb,hnb⟩:∃ nb,a2.never=nb:=⟨_,rfl⟩
        rw [hnb]
        obtain ⟨Y6,HY6⟩:∃ Y,w6.alloc (.cells #[.bool nb,.slice a2.qp a2.np a2.cp,.slice a2.qn a2.nn a2.cn] 39)=Y:=⟨_,rfl⟩
        rw [HY6]
        have b66:Below w6.heap.size w6 Y6:=by rw [← HY6];exact (Below.refl _ _).alloc (Nat.le_refl _) _
        have z8:Y6.heap[w6.heap.size]? = some (.cells #[.bool nb,.slice a2.qp a2.np a2.cp,.slice a2.qn a2.nn a2.cn] 39 (0,0)):=by rw [← HY6];exact box_nw _ _
        have Z8:=hide z8
        have B56:=hide (below_sub (uh B6) b66)
        have B36:=hide (show Below Y3.heap.size Y3 Y6 from (uh HB3).trans (((uh B44).mono hs3).trans ((uh HB5).trans ((uh B56).mono (Nat.le_trans hs3 (Nat.le_trans hs4 (uh HG5).size))))))
        have BX6:=hide (below_sub (uh HB2) (uh B36))
        have BW6:=hide (below_sub (uh BX) (uh BX6))
        have C66:=hide ((uh C6).below b66).in
        have CA:=hide ((off_grown (uh C44) (uh HG5) (uh BOL) (uh HV0)).below (uh B56))
        have CC:=hide ((uh CX).below (uh BX6))
        have Y9:=hide (show Y6.heap[w4.heap.size]? = some (.cells #[.bool na,.slice a.qp a.np a.cp,.slice a.qn a.nn a.cn] 39 (0,0)) from blk_on ((uh HG5).block _ (heap_lt (uh Y8)) (fun e=>by have h1:=uh BOL _ e.symm;have h2:=heap_lt (uh Y8);have h3:=(uh B4S);omega) |>.trans (uh Y8)) (uh B56))
        have X9:=hide (blk_on (uh X8) (uh BX6))
        have HNB:=hide hnb
        clear HY6 b66 z8 C6 B6 hnb
        have hSm:=make_smalls (ls:=ls)
        have hLn:=make_len (ls:=ls)
        have hck:=fun (W:World) (hW:Below Y6.heap.size Y6 W)=>ccheck_any v.never v.qp v.qn v.cp v.cn (makeD ls).pos (makeD ls).neg W ((uh CC).below hW).2.2.2.1 ((uh CC).below hW).2.2.2.2 hSm.1 hSm.2 (by omega) (by omega)
        have hsm1:=fun (W:World) (hW:Below Y6.heap.size Y6 W)=>sameConj_any a2 v (makeD ls) (makeD ls) W ((uh C66).below hW) ((uh CC).below hW) hSm.1 hSm.2 (by omega) (by omega)
        have hsm2:=fun (W:World) (hW:Below Y6.heap.size Y6 W) (hnv:nv=false)=>sameConj_any a v (makeD ls) (makeD ls) W (own_make (uh HOK) ((uh HC1).symm.trans hnv) ▸ (uh CA).below hW) ((uh CC).below hW) hSm.1 hSm.2 (by omega) (by omega)
        rw [uh HNV] at hck hsm1 hsm2
        have hg0:errC nv (makeD ls).pos (makeD ls).neg=0:=by rw [uh HC1];exact make_good (uh HOK)
        rw [hg0,← (uh CC).2.1,← (uh CC).2.2.1] at hck
        rw [decide_eq_true rfl,uh HNB] at hsm1
        rw [decide_eq_true rfl,uh HNA] at hsm2
        have hcells:=fun (W:World) (hW:Below Y6.heap.size Y6 W)=>And.intro (of3C (blk_on (uh X9) hW)) (And.intro (of3C (blk_on (uh Y9) hW)) (of3C (blk_on (uh Z8) hW)))
        have HCL:=hide hcells
        obtain ⟨⟨a0,a1,a2'⟩,⟨b0,b1,b2⟩,d0,d1,d2⟩:=hcells Y6 (Below.refl _ _)
        clear hcells hg0
        cases nv with
        | false =>
         go_upto_region 25 with (first
          | (go_at_call 29;refine (hck _ (Below.refl _ _)).mono ?_;rintro e w7 ⟨rfl,b7⟩;have B7:=hide b7;clear b7 hck a0 a1 a2' b0 b1 b2 d0 d1 d2;obtain ⟨⟨a0,a1,a2'⟩,⟨b0,b1,b2⟩,d0,d1,d2⟩:=uh HCL _ (uh B7))
          | (go_at_call 26;(with_reducible refine (hsm1 _ (uh B7)).mono ?_);rintro e w8 ⟨rfl,b8⟩;have B8:=hide (below_sub (uh B7) b8);clear b8 hsm1 a0 a1 a2' b0 b1 b2 d0 d1 d2;obtain ⟨⟨a0,a1,a2'⟩,⟨b0,b1,b2⟩,d0,d1,d2⟩:=uh HCL _ (uh B8))
          | (go_at_call 26;(with_reducible refine (hsm2 _ (uh B8) (by simp)).mono ?_);rintro e w9 ⟨rfl,b9⟩;have B9:=hide (below_sub (uh B8) b9);clear b9 hsm2 a0 a1 a2' b0 b1 b2 d0 d1 d2))
         skip
         obtain ⟨V9,hV9⟩:∃ V9,V9=w9:=⟨_,rfl⟩
         subst hV9
         go_wp2
         go_loopw [123] (fun iv wr=>∃ k:Nat,k≤evs.length∧iv=.int .i64 k∧Hid (Below Y6.heap.size Y6 wr)) (fun iv _=>evs.length - (intOf iv).toNat)
         case atStart=>exact ⟨0,Nat.zero_le _,rfl,B9⟩
         case round =>
          obtain ⟨k,hk,rfl,HB6⟩:=hrel
          by_cases hlt:k < evs.length
          ·obtain ⟨ev,hx,_⟩:=get_at hlt
           obtain ⟨b,off,qe,ce,hq,hbb,hev,g0⟩:=((uh HE).below (below_sub (uh BW6) (uh HB6))).at hx
           subst hq
           have ki0:(0:Int)≤(k:Int):=by omega
           have ki1:(k:Int) < (evs.length:Int):=by omega
           have hel:=uh HL3 ev (List.mem_of_getElem? hx)
           have hcc:=(uh CC).below (uh HB6)
           have hH:=cholds_any v.never v.qp v.qn v.cp v.cn (makeD ls).pos (makeD ls).neg qe ce ev wr hcc.2.2.2.1 hcc.2.2.2.2 hSm.1 hSm.2 (by omega) (by omega) hev (by omega)
           rw [← hcc.2.1,← hcc.2.2.1,uh HNV] at hH
           have hs:holdsC false (makeD ls).pos (makeD ls).neg ev=ls.all (ltH ev):=by rw [uh HC1];exact make_sem (uh HOK) ev
           rw [hs] at hH
           have hD:=fun (W:World) (hW:Below wr.heap.size wr W)=>dnfHolds_any qe ce ev q c ls W (hev.below hW) ((uh HL).below (below_sub (uh BW6) (below_sub (uh HB6) hW))) (uh HBL) (by omega) (by omega)
           obtain ⟨R,hR⟩:∃ R,ls.all (ltH ev)=R:=⟨_,rfl⟩
           rw [hR] at hH hD
           obtain ⟨x0,x1,x2⟩:=of3C (blk_on (uh X9) (uh HB6))
           clear hx hel hcc hs hR hbb hev
           cases R
           all_goals
            go_wp2_with (first
             | (go_at_call 31;refine hH.mono ?_;rintro e w10 ⟨rfl,b10⟩;have B10:=hide b10;clear b10)
             | (go_at_call 36;refine (hD _ (uh B10)).mono ?_;rintro e w11 ⟨rfl,b11⟩;have B11:=hide (below_sub (uh HB6) (below_sub (uh B10) b11));clear b11))
            go_roundw
            case rel=>exact ⟨k + 1,by omega,by go_num,B11⟩
            case measure=>simp [intOf];omega
          ·have ki1:¬ (k:Int) < (evs.length:Int):=by omega
           obtain ⟨V10,hV10⟩:∃ V10,V10=wr:=⟨_,rfl⟩
           subst hV10
           go_wp2
           go_loopw [20,137] (fun cv iv wr=>∃ k:Nat,k≤ls.length∧iv=.int .i64 k∧cv=.int .i64 ((namesD (ls.take k)).length:Int)∧Hid (Below Y6.heap.size Y6 wr)) (fun _ iv _=>ls.length - (intOf iv).toNat)
           case atStart=>exact ⟨0,Nat.zero_le _,rfl,by rw [List.take_zero,names_nil];rfl,HB6⟩
           case round =>
            obtain ⟨t,ht,rfl,rfl,HB7⟩:=hrel
            have hnt:=names_le (ls.take t)
            rw [List.length_take] at hnt
            obtain ⟨nm,hnm⟩:∃ nm,(namesD (ls.take t)).length=nm:=⟨_,rfl⟩
            rw [hnm] at hnt ⊢
            have HNM:=hide hnm
            have nm9:(nm:Int)≤50000000:=by omega
            clear hnm
            by_cases htl:t < ls.length
            ·obtain ⟨l,hx,_⟩:=get_at htl
             have BR:=hide (below_sub (uh BW6) (uh HB7))
             obtain ⟨b,off,u,hq,hb,hu,g0,g1,g2,g3,g4,g5,g6⟩:=((uh HL).below (uh BR)).at hx
             subst hq
             have t0:(0:Int)≤(t:Int):=by omega
             have t1:(t:Int) < (ls.length:Int):=by omega
             obtain ⟨ng,hng⟩:∃ ng,u.neg=ng:=⟨_,rfl⟩
             rw [hng] at g6
             obtain ⟨Z,HZ⟩:∃ Z,wr.alloc (.cells #[.int .i64 u.kind,.string u.attr,.slice u.qi u.ni u.ci,.slice u.qw u.nw u.cw,.int .i64 u.lo,.int .i64 u.hi,.bool ng] 64)=Z:=⟨_,rfl⟩
             have bZ:Below wr.heap.size wr Z:=by rw [← HZ];exact (Below.refl _ _).alloc (Nat.le_refl _) _
             have zk:Z.heap[wr.heap.size]? = some (.cells #[.int .i64 u.kind,.string u.attr,.slice u.qi u.ni u.ci,.slice u.qw u.nw u.cw,.int .i64 u.lo,.int .i64 u.hi,.bool ng] 64 (0,0)):=by rw [← HZ];exact World.alloc_heap_new _ _
             obtain ⟨e0,e1,e2,e3,e4,e5,e6⟩:=of7' zk
             have HLN:=hide (show l.neg=ng by rw [← hng];exact hu.2.2.2.2.2.2.1.symm)
             have HUA:=hide (show u.attr=l.attr from hu.2.1)
             have HX:=hide hx
             have ZK:=hide zk
             have HB8:=hide (below_sub (uh HB7) bZ)
             have HST:=hide (names_step hx)
             clear hx hu hb bZ zk hng
             go_upto_region 35 with (fail)
             clear HZ g0 g1 g2 g3 g4 g5 g6
             go_wp2
             go_loopw [23,24] (fun fv jv wr'=>∃ j:Nat,j≤t∧jv=.int .i64 j∧fv=.bool (!ng)∧Hid ((ls.take j).all (fun m=>m.neg || !decide (m.attr=l.attr))=true)∧Hid (Below Z.heap.size Z wr')) (fun _ jv _=>t - (intOf jv).toNat)
             case atStart=>exact ⟨0,Nat.zero_le _,rfl,rfl,hide (by rw [List.take_zero];rfl),hide (Below.refl _ _)⟩
             case round =>
              obtain ⟨j,hj,rfl,rfl,HAL,HB9⟩:=hrel
              by_cases hjt:j < t
              ·obtain ⟨m',hy,_⟩:=get_at (l:=ls) (k:=j) (by omega)
               have BR2:=hide (below_sub (uh BW6) (below_sub (uh HB8) (uh HB9)))
               obtain ⟨b',off',u',hq',hb',hu',y0,y1,y2,y3,y4,y5,y6⟩:=((uh HL).below (uh BR2)).at hy
               cases hq'
               have j0:(0:Int)≤(j:Int):=by omega
               have j1:(j:Int) < (t:Int):=by omega
               have j2:(j:Int) < (ls.length:Int):=by omega
               obtain ⟨mg,hmg⟩:∃ mg,u'.neg=mg:=⟨_,rfl⟩
               rw [hmg] at y6
               have r6:=cell_regrownC y6
               have r1:=cell_regrownC y1
               have z1:=cell_regrownC ((((uh HB9).block _ (heap_lt (uh ZK))).trans (uh ZK)) |> of7' |>.2.1)
               have HMN:=hide (show m'.neg=mg by rw [← hmg];exact hu'.2.2.2.2.2.2.1.symm)
               have HUB:=hide (show u'.attr=m'.attr from hu'.2.1)
               have HY:=hide hy
               clear hy hu' hb' y0 y1 y2 y3 y4 y5 y6 hmg e0 e1 e2 e3 e4 e5 e6
               cases mg with
               | true =>
                have HA2:=hide (show (ls.take (j + 1)).all (fun m=>m.neg || !decide (m.attr=l.attr))=true by rw [take_snoc_of (uh HY),List.all_append,uh HAL];simp [uh HMN])
                go_wp2
                refine wp_region_quiet_below (by assumption) (by kernel_rfl) ?_
                repeat (go_big_quiet_step (fail))
                refine wpQuiet_nil ?_
                intro _ hw'
                obtain ⟨⟨dq,osq⟩,hw''⟩:=hw'
                subst hw''
                have BF:=hide (below_sub (uh HB9) (below_regrown wr dq osq))
                generalize grow (redrawn wr dq) osq=V4 at BF ⊢
                go_wp2
                go_roundw
                case rel=>exact ⟨j + 1,by omega,by go_num,rfl,HA2,BF⟩
                case measure=>simp [intOf];omega
               | false =>
                by_cases hat:m'.attr=l.attr
                ·have hb1:(u'.attr.toList == u.attr.toList)=true:=by rw [uh HUB,hat,uh HUA];simp
                 have HFR:=hide (show freshL ls t l=false by
                  cases hf:freshL ls t l with
                  | false=>rfl
                  | true =>
                   exfalso
                   unfold freshL at hf
                   rw [Bool.and_eq_true,List.all_eq_true] at hf
                   have h9:=hf.2 m' (List.mem_of_getElem? (i:=j) (by rw [List.getElem?_take,if_pos hjt];exact uh HY))
                   rw [uh HMN,hat] at h9
                   simp at h9)
                 clear hat
                 go_wp2
                 refine wp_region_quiet_below (by assumption) (by kernel_rfl) ?_
                 repeat (go_big_quiet_step (fail))
                 refine wpQuiet_nil ?_
                 intro _ hw'
                 obtain ⟨⟨dq,osq⟩,hw''⟩:=hw'
                 subst hw''
                 have BF:=hide (below_sub (uh HB9) (below_regrown wr dq osq))
                 generalize grow (redrawn wr dq) osq=V4 at BF ⊢
                 go_wp2
                 go_roundw
                 case rel=>exact ⟨t + 1,by omega,by go_num,by rw [uh HST,uh HFR,uh HNM];rfl,hide (below_sub (uh HB8) (uh BF))⟩
                 case measure=>simp [intOf];omega
                ·have hb1:(u'.attr.toList == u.attr.toList)=false:=toList_ne (fun e=>hat (by rw [← uh HUB,e,uh HUA]))
                 have HA2:=hide (show (ls.take (j + 1)).all (fun m=>m.neg || !decide (m.attr=l.attr))=true by rw [take_snoc_of (uh HY),List.all_append,uh HAL];simp [uh HMN,hat])
                 clear hat
                 go_wp2
                 refine wp_region_quiet_below (by assumption) (by kernel_rfl) ?_
                 repeat (go_big_quiet_step (fail))
                 refine wpQuiet_nil ?_
                 intro _ hw'
                 obtain ⟨⟨dq,osq⟩,hw''⟩:=hw'
                 subst hw''
                 have BF:=hide (below_sub (uh HB9) (below_regrown wr dq osq))
                 generalize grow (redrawn wr dq) osq=V4 at BF ⊢
                 go_wp2
                 go_roundw
                 case rel=>exact ⟨j + 1,by omega,by go_num,rfl,HA2,BF⟩
                 case measure=>simp [intOf];omega
              ·obtain rfl:t=j:=by omega
               have j1:¬ (t:Int) < (t:Int):=by omega
               have HFR:=hide (show freshL ls t l=!ng by unfold freshL;rw [uh HAL,uh HLN,Bool.and_true])
               clear e0 e1 e2 e3 e4 e5 e6
               cases ng with
               | true =>
                go_wp2
                go_roundw
                case rel=>exact ⟨t + 1,by omega,by go_num,by rw [uh HST,uh HFR,uh HNM];rfl,hide (below_sub (uh HB8) (uh HB9))⟩
                case measure=>simp [intOf];omega
               | false =>
                go_wp2
                go_roundw
                case rel=>exact ⟨t + 1,by omega,by go_num,by rw [uh HST,uh HFR,uh HNM];rfl,hide (below_sub (uh HB8) (uh HB9))⟩
                case measure=>simp [intOf];omega
            ·have t1:¬ (t:Int) < (ls.length:Int):=by omega
             obtain ⟨x0,x1,x2⟩:=of3C (blk_on (uh X9) (uh HB7))
             have hcn:=ccount_any false v.qp v.qn v.cp v.cn v.np v.nn wr
             have hEQ:((v.np:Int) == (nm:Int))=true:=by
              have h1:=make_count (uh HOK) (uh HC1).symm
              have h2:=uh HNM
              rw [List.take_of_length_le (by omega)] at h2
              rw [(uh CC).2.1,h1,h2]
              simp
             go_wp2_with (go_at_call 30;refine hcn.mono ?_;rintro e w12 ⟨rfl,b12⟩;have B12:=hide b12;clear b12)
             go_ret
             exact ⟨rfl,below_sub (uh BW6) (below_sub (uh HB7) (uh B12))⟩
        | true =>
         go_upto_region 25 with (first
          | (go_at_call 29;refine (hck _ (Below.refl _ _)).mono ?_;rintro e w7 ⟨rfl,b7⟩;have B7:=hide b7;clear b7 hck a0 a1 a2' b0 b1 b2 d0 d1 d2;obtain ⟨⟨a0,a1,a2'⟩,⟨b0,b1,b2⟩,d0,d1,d2⟩:=uh HCL _ (uh B7))
          | (go_at_call 26;(with_reducible refine (hsm1 _ (uh B7)).mono ?_);rintro e w9 ⟨rfl,b8⟩;have B9:=hide (below_sub (uh B7) b8);clear b8 hsm1 a0 a1 a2' b0 b1 b2 d0 d1 d2;obtain ⟨⟨a0,a1,a2'⟩,⟨b0,b1,b2⟩,d0,d1,d2⟩:=uh HCL _ (uh B9)))
         clear hsm2 a0 a1 a2' b0 b1 b2 d0 d1 d2
         obtain ⟨V9,hV9⟩:∃ V9,V9=w9:=⟨_,rfl⟩
         subst hV9
         go_wp2
         go_loopw [123] (fun iv wr=>∃ k:Nat,k≤evs.length∧iv=.int .i64 k∧Hid (Below Y6.heap.size Y6 wr)) (fun iv _=>evs.length - (intOf iv).toNat)
         case atStart=>exact ⟨0,Nat.zero_le _,rfl,B9⟩
         case round =>
          obtain ⟨k,hk,rfl,HB6⟩:=hrel
          by_cases hlt:k < evs.length
          ·obtain ⟨ev,hx,_⟩:=get_at hlt
           obtain ⟨b,off,qe,ce,hq,hbb,hev,g0⟩:=((uh HE).below (below_sub (uh BW6) (uh HB6))).at hx
           subst hq
           have ki0:(0:Int)≤(k:Int):=by omega
           have ki1:(k:Int) < (evs.length:Int):=by omega
           have hel:=uh HL3 ev (List.mem_of_getElem? hx)
           have hcc:=(uh CC).below (uh HB6)
           have hH:=cholds_any v.never v.qp v.qn v.cp v.cn (makeD ls).pos (makeD ls).neg qe ce ev wr hcc.2.2.2.1 hcc.2.2.2.2 hSm.1 hSm.2 (by omega) (by omega) hev (by omega)
           rw [← hcc.2.1,← hcc.2.2.1,uh HNV] at hH
           have hs:holdsC true (makeD ls).pos (makeD ls).neg ev=ls.all (ltH ev):=by rw [uh HC1];exact make_sem (uh HOK) ev
           rw [hs] at hH
           have hD:=fun (W:World) (hW:Below wr.heap.size wr W)=>dnfHolds_any qe ce ev q c ls W (hev.below hW) ((uh HL).below (below_sub (uh BW6) (below_sub (uh HB6) hW))) (uh HBL) (by omega) (by omega)
           obtain ⟨R,hR⟩:∃ R,ls.all (ltH ev)=R:=⟨_,rfl⟩
           rw [hR] at hH hD
           obtain ⟨x0,x1,x2⟩:=of3C (blk_on (uh X9) (uh HB6))
           clear hx hel hcc hs hR hbb hev
           cases R
           all_goals
            go_wp2_with (first
             | (go_at_call 31;refine hH.mono ?_;rintro e w10 ⟨rfl,b10⟩;have B10:=hide b10;clear b10)
             | (go_at_call 36;refine (hD _ (uh B10)).mono ?_;rintro e w11 ⟨rfl,b11⟩;have B11:=hide (below_sub (uh HB6) (below_sub (uh B10) b11));clear b11))
            go_roundw
            case rel=>exact ⟨k + 1,by omega,by go_num,B11⟩
            case measure=>simp [intOf];omega
          ·have ki1:¬ (k:Int) < (evs.length:Int):=by omega
           obtain ⟨V10,hV10⟩:∃ V10,V10=wr:=⟨_,rfl⟩
           subst hV10
           go_wp2
           go_loopw [20,137] (fun cv iv wr=>∃ k:Nat,k≤ls.length∧iv=.int .i64 k∧cv=.int .i64 ((namesD (ls.take k)).length:Int)∧Hid (Below Y6.heap.size Y6 wr)) (fun _ iv _=>ls.length - (intOf iv).toNat)
           case atStart=>exact ⟨0,Nat.zero_le _,rfl,by rw [List.take_zero,names_nil];rfl,HB6⟩
           case round =>
            obtain ⟨t,ht,rfl,rfl,HB7⟩:=hrel
            have hnt:=names_le (ls.take t)
            rw [List.length_take] at hnt
            obtain ⟨nm,hnm⟩:∃ nm,(namesD (ls.take t)).length=nm:=⟨_,rfl⟩
            rw [hnm] at hnt ⊢
            have HNM:=hide hnm
            have nm9:(nm:Int)≤50000000:=by omega
            clear hnm
            by_cases htl:t < ls.length
            ·obtain ⟨l,hx,_⟩:=get_at htl
             have BR:=hide (below_sub (uh BW6) (uh HB7))
             obtain ⟨b,off,u,hq,hb,hu,g0,g1,g2,g3,g4,g5,g6⟩:=((uh HL).below (uh BR)).at hx
             subst hq
             have t0:(0:Int)≤(t:Int):=by omega
             have t1:(t:Int) < (ls.length:Int):=by omega
             obtain ⟨ng,hng⟩:∃ ng,u.neg=ng:=⟨_,rfl⟩
             rw [hng] at g6
             obtain ⟨Z,HZ⟩:∃ Z,wr.alloc (.cells #[.int .i64 u.kind,.string u.attr,.slice u.qi u.ni u.ci,.slice u.qw u.nw u.cw,.int .i64 u.lo,.int .i64 u.hi,.bool ng] 64)=Z:=⟨_,rfl⟩
             have bZ:Below wr.heap.size wr Z:=by rw [← HZ];exact (Below.refl _ _).alloc (Nat.le_refl _) _
             have zk:Z.heap[wr.heap.size]? = some (.cells #[.int .i64 u.kind,.string u.attr,.slice u.qi u.ni u.ci,.slice u.qw u.nw u.cw,.int .i64 u.lo,.int .i64 u.hi,.bool ng] 64 (0,0)):=by rw [← HZ];exact World.alloc_heap_new _ _
             obtain ⟨e0,e1,e2,e3,e4,e5,e6⟩:=of7' zk
             have HLN:=hide (show l.neg=ng by rw [← hng];exact hu.2.2.2.2.2.2.1.symm)
             have HUA:=hide (show u.attr=l.attr from hu.2.1)
             have HX:=hide hx
             have ZK:=hide zk
             have HB8:=hide (below_sub (uh HB7) bZ)
             have HST:=hide (names_step hx)
             clear hx hu hb bZ zk hng
             go_upto_region 35 with (fail)
             clear HZ g0 g1 g2 g3 g4 g5 g6
             go_wp2
             go_loopw [23,24] (fun fv jv wr'=>∃ j:Nat,j≤t∧jv=.int .i64 j∧fv=.bool (!ng)∧Hid ((ls.take j).all (fun m=>m.neg || !decide (m.attr=l.attr))=true)∧Hid (Below Z.heap.size Z wr')) (fun _ jv _=>t - (intOf jv).toNat)
             case atStart=>exact ⟨0,Nat.zero_le _,rfl,rfl,hide (by rw [List.take_zero];rfl),hide (Below.refl _ _)⟩
             case round =>
              obtain ⟨j,hj,rfl,rfl,HAL,HB9⟩:=hrel
              by_cases hjt:j < t
              ·obtain ⟨m',hy,_⟩:=get_at (l:=ls) (k:=j) (by omega)
               have BR2:=hide (below_sub (uh BW6) (below_sub (uh HB8) (uh HB9)))
               obtain ⟨b',off',u',hq',hb',hu',y0,y1,y2,y3,y4,y5,y6⟩:=((uh HL).below (uh BR2)).at hy
               cases hq'
               have j0:(0:Int)≤(j:Int):=by omega
               have j1:(j:Int) < (t:Int):=by omega
               have j2:(j:Int) < (ls.length:Int):=by omega
               obtain ⟨mg,hmg⟩:∃ mg,u'.neg=mg:=⟨_,rfl⟩
               rw [hmg] at y6
               have r6:=cell_regrownC y6
               have r1:=cell_regrownC y1
               have z1:=cell_regrownC ((((uh HB9).block _ (heap_lt (uh ZK))).trans (uh ZK)) |> of7' |>.2.1)
               have HMN:=hide (show m'.neg=mg by rw [← hmg];exact hu'.2.2.2.2.2.2.1.symm)
               have HUB:=hide (show u'.attr=m'.attr from hu'.2.1)
               have HY:=hide hy
               clear hy hu' hb' y0 y1 y2 y3 y4 y5 y6 hmg e0 e1 e2 e3 e4 e5 e6
               cases mg with
               | true =>
                have HA2:=hide (show (ls.take (j + 1)).all (fun m=>m.neg || !decide (m.attr=l.attr))=true by rw [take_snoc_of (uh HY),List.all_append,uh HAL];simp [uh HMN])
                go_wp2
                refine wp_region_quiet_below (by assumption) (by kernel_rfl) ?_
                repeat (go_big_quiet_step (fail))
                refine wpQuiet_nil ?_
                intro _ hw'
                obtain ⟨⟨dq,osq⟩,hw''⟩:=hw'
                subst hw''
                have BF:=hide (below_sub (uh HB9) (below_regrown wr dq osq))
                generalize grow (redrawn wr dq) osq=V4 at BF ⊢
                go_wp2
                go_roundw
                case rel=>exact ⟨j + 1,by omega,by go_num,rfl,HA2,BF⟩
                case measure=>simp [intOf];omega
               | false =>
                by_cases hat:m'.attr=l.attr
                ·have hb1:(u'.attr.toList == u.attr.toList)=true:=by rw [uh HUB,hat,uh HUA];simp
                 have HFR:=hide (show freshL ls t l=false by
                  cases hf:freshL ls t l with
                  | false=>rfl
                  | true =>
                   exfalso
                   unfold freshL at hf
                   rw [Bool.and_eq_true,List.all_eq_true] at hf
                   have h9:=hf.2 m' (List.mem_of_getElem? (i:=j) (by rw [List.getElem?_take,if_pos hjt];exact uh HY))
                   rw [uh HMN,hat] at h9
                   simp at h9)
                 clear hat
                 go_wp2
                 refine wp_region_quiet_below (by assumption) (by kernel_rfl) ?_
                 repeat (go_big_quiet_step (fail))
                 refine wpQuiet_nil ?_
                 intro _ hw'
                 obtain ⟨⟨dq,osq⟩,hw''⟩:=hw'
                 subst hw''
                 have BF:=hide (below_sub (uh HB9) (below_regrown wr dq osq))
                 generalize grow (redrawn wr dq) osq=V4 at BF ⊢
                 go_wp2
                 go_roundw
                 case rel=>exact ⟨t + 1,by omega,by go_num,by rw [uh HST,uh HFR,uh HNM];rfl,hide (below_sub (uh HB8) (uh BF))⟩
                 case measure=>simp [intOf];omega
                ·have hb1:(u'.attr.toList == u.attr.toList)=false:=toList_ne (fun e=>hat (by rw [← uh HUB,e,uh HUA]))
                 have HA2:=hide (show (ls.take (j + 1)).all (fun m=>m.neg || !decide (m.attr=l.attr))=true by rw [take_snoc_of (uh HY),List.all_append,uh HAL];simp [uh HMN,hat])
                 clear hat
                 go_wp2
                 refine wp_region_quiet_below (by assumption) (by kernel_rfl) ?_
                 repeat (go_big_quiet_step (fail))
                 refine wpQuiet_nil ?_
                 intro _ hw'
                 obtain ⟨⟨dq,osq⟩,hw''⟩:=hw'
                 subst hw''
                 have BF:=hide (below_sub (uh HB9) (below_regrown wr dq osq))
                 generalize grow (redrawn wr dq) osq=V4 at BF ⊢
                 go_wp2
                 go_roundw
                 case rel=>exact ⟨j + 1,by omega,by go_num,rfl,HA2,BF⟩
                 case measure=>simp [intOf];omega
              ·obtain rfl:t=j:=by omega
               have j1:¬ (t:Int) < (t:Int):=by omega
               have HFR:=hide (show freshL ls t l=!ng by unfold freshL;rw [uh HAL,uh HLN,Bool.and_true])
               clear e0 e1 e2 e3 e4 e5 e6
               cases ng with
               | true =>
                go_wp2
                go_roundw
                case rel=>exact ⟨t + 1,by omega,by go_num,by rw [uh HST,uh HFR,uh HNM];rfl,hide (below_sub (uh HB8) (uh HB9))⟩
                case measure=>simp [intOf];omega
               | false =>
                go_wp2
                go_roundw
                case rel=>exact ⟨t + 1,by omega,by go_num,by rw [uh HST,uh HFR,uh HNM];rfl,hide (below_sub (uh HB8) (uh HB9))⟩
                case measure=>simp [intOf];omega
            ·have t1:¬ (t:Int) < (ls.length:Int):=by omega
             obtain ⟨x0,x1,x2⟩:=of3C (blk_on (uh X9) (uh HB7))
             go_wp2
             go_ret
             exact ⟨rfl,below_sub (uh BW6) (uh HB7)⟩
end Go.Proofs.YtimklglliffpcaaGreat

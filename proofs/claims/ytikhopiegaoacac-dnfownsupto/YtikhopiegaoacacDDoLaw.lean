/- DnfOwns: the law. -/
import Derived.Test.YtikhopiegaoacacDZaj
import Derived.Test.YtikhopiegaoacacDDnfFixed
import Derived.Deep.CutBlock
namespace Go.Proofs.Ytikhopiegaoacac
open Go.RowKit Go.Sort

set_option maxHeartbeats 16000000 in
set_option maxRecDepth 100000 in
theorem dnfOwns_any (t:Nd) (v:Nv) (m:Int) (w:World) (hin:NdIn w v t) (hwt:wtN t≤100000000) :
    Calls Try.prog 3 #[v.val,.int .i64 m] w fun e w'=>e=.returned (.bool true)∧Below w.heap.size w w':=by
  have mixed:Try.prog.follows .mixedOrders=true:=by kernel_rfl
  show Calls Try.prog 3 #[.agg #[.int .i64 v.kind,.string v.attr,.slice v.qi v.ni v.ci,.slice v.qw v.nw v.cw,.int .i64 v.lo,.int .i64 v.hi,.int .i64 v.op,.slice v.qk v.nk v.ck],.int .i64 m] w _
  obtain ⟨X,HX⟩:∃ X,w.alloc (.cells #[.int .i64 v.kind,.string v.attr,.slice v.qi v.ni v.ci,.slice v.qw v.nw v.cw,.int .i64 v.lo,.int .i64 v.hi,.int .i64 v.op,.slice v.qk v.nk v.ck] 28)=X:=⟨_,rfl⟩
  have bX:Below w.heap.size w X:=by rw [← HX];exact (Below.refl _ _).alloc (Nat.le_refl _) _
  have hX:X.heap[w.heap.size]? = some (.cells #[.int .i64 v.kind,.string v.attr,.slice v.qi v.ni v.ci,.slice v.qw v.nw v.cw,.int .i64 v.lo,.int .i64 v.hi,.int .i64 v.op,.slice v.qk v.nk v.ck] 28 (0,0)):=by rw [← HX];exact box_nw _ _
  have O0:=hide (show Objs [bxOb w.heap.size v] X from ⟨List.pairwise_singleton _ _,fun o ho=>(by rw [List.mem_singleton.1 ho];exact box_st hX)⟩)
  obtain ⟨cs,hcs⟩:∃ cs,expC t m=cs:=⟨_,rfl⟩
  obtain ⟨E,hE⟩:∃ E,expE t m=E:=⟨_,rfl⟩
  have hEX:=fun (u:Nv) (W:World) (h:NdIn W u t)=>expand_any t m u W h (by omega)
  rw [hcs,hE] at hEX
  simp only [Nv.val] at hEX
  have hsm:(∀ ls ∈ cs,litBound ls∧ls.length≤1000000000)∧cs.length≤64:=by
    rw [← hcs]
    unfold expC
    split
    · rename_i h0
      have h1:WidthE t m=0:=by
        by_cases e:WidthE t m=0
        · exact e
        · unfold expE at h0;rw [if_neg e] at h0;exact absurd h0 e
      have h2:¬ WidthA t m > m:=by
        intro h;unfold expE at h0;rw [if_pos h1,if_pos h] at h0;exact absurd h0 (by decide)
      obtain ⟨hc,m1,m2,hwn,hwa,_,_⟩:=exp_ok h1 h2
      have hw:=wt_down t false hc
      refine ⟨fun ls hl=>?_,by omega⟩
      obtain ⟨k1,k2⟩:=cj_small _ ls hl
      exact ⟨fun l hl=>by have:=k2 l hl;omega,by omega⟩
    · exact ⟨fun ls hl=>by simp at hl,by simp⟩
  have HEX:=hide hEX
  have HBD:=hide hsm.1
  have HLN:=hide (show cs.length≤1000000000 by have:=hsm.2;omega)
  have a0:(cs.length:Int)≤64:=by have:=hsm.2;omega
  have HNO:=hide (fun (u:Nv) (W:World) (h:NdIn W u t)=>node_any t u W h (by omega))
  have HKE:=hide (fun (B:Nat) (u:Nv) (W:World) (hs:SpIn W B u t) (hn:NdIn W v t)=>kept_any t B u v W hs hn (by omega))
  have HIN:=hide hin
  have HZX:=hide (show wtN t≤1000000000 by omega)
  have HWX:=hide bX
  obtain ⟨n0,n1,n2,n3,n4,n5,n6,n7⟩:=of8' (hX)
  clear hin hwt bX hX hEX hsm hcs hE
  go_enter Try.func3,Try.ntmps3
  go_upto_region 3 with (go_at_call 4;refine (fixed8_any _).mono ?_;rintro e w1 ⟨rfl,b1⟩;have Q1:=hide (below_sub (uh HWX) b1);have O1:=hide ((uh O0).below b1);clear n0 n1 n2 n3 n4 n5 n6 n7 b1;obtain ⟨n0,n1,n2,n3,n4,n5,n6,n7⟩:=of8' ((uh O1).get (o:=bxOb w.heap.size v) (by simp)))
  go_upto_region 4 with (go_at_call 5;refine (uh HNO v w1 ((uh HIN).keep (uh Q1))).mono ?_;rintro e w2 ⟨⟨vm,he,hs⟩,b2⟩;have he2:e=.returned (.agg #[.int .i64 vm.kind,.string vm.attr,.slice vm.qi vm.ni vm.ci,.slice vm.qw vm.nw vm.cw,.int .i64 vm.lo,.int .i64 vm.hi,.int .i64 vm.op,.slice vm.qk vm.nk vm.ck]):=he;clear he;subst he2;obtain ⟨oM,hoM⟩:∃ o,cpOb w1.heap.size w2.heap.size vm t=o:=⟨_,rfl⟩;have O2:=(uh O1).join b2 (L2:=[oM]) ⟨List.pairwise_singleton _ _,fun o ho=>(by rw [List.mem_singleton.1 ho,← hoM];exact hs.st (uh HZX) b2.size)⟩ (fun o ho=>(by rw [List.mem_singleton.1 ho,← hoM];exact Nat.le_refl _));obtain ⟨Y2,HY2⟩:∃ Y2,w2.alloc (.cells #[.int .i64 vm.kind,.string vm.attr,.slice vm.qi vm.ni vm.ci,.slice vm.qw vm.nw vm.cw,.int .i64 vm.lo,.int .i64 vm.hi,.int .i64 vm.op,.slice vm.qk vm.nk vm.ck] 28)=Y2:=⟨_,rfl⟩;have bY:Below w2.heap.size w2 Y2:=(by rw [← HY2];exact (Below.refl _ _).alloc (Nat.le_refl _) _);have O3:=hide (O2.join bY (L2:=[bxOb w2.heap.size vm]) ⟨List.pairwise_singleton _ _,fun o ho=>(by rw [List.mem_singleton.1 ho,← HY2];exact box_st (box_nw _ _))⟩ (fun o ho=>(by rw [List.mem_singleton.1 ho];exact Nat.le_refl _)));have Q2:=hide (below_sub (uh Q1) (below_sub b2 bY));have SM:=hide (hs.keep bY).toIn;have HDM:=hide hoM;clear n0 n1 n2 n3 n4 n5 n6 n7 hs b2 bY O2 hoM;obtain ⟨m0,m1,m2,m3,m4,m5,m6,m7⟩:=of8' ((uh O3).get (o:=bxOb w2.heap.size vm) (by simp)))
  go_upto_region 5 with (go_at_call 6;refine (uh HEX vm Y2 (uh SM)).mono ?_;rintro e w3 ⟨⟨qa,ca,rfl,hc⟩,b3⟩;obtain ⟨us,ms,h1,h2,h3,h4,h5,h6⟩:=hc;have hf:=famQ_from h6 h1 h2;have O4:=(uh O3).join b3 h4 hf;have O5:=hide (O4.rowQ h3 (fun a ha p hp=>(List.mem_append.1 hp).elim (fun hp=>Or.inr (Nat.le_trans ((uh O3).2 p hp).top (h3.from a ha))) (fun hp=>h5 a ha p hp)));have Q3:=hide (below_sub (uh Q2) b3);have K3:=hide b3;have H1:=hide h1;have H2:=hide h2;have H6:=hide h6;clear m0 m1 m2 m3 m4 m5 m6 m7 h1 h2 h3 h4 h5 h6 hf O4 b3;obtain ⟨m0,m1,m2,m3,m4,m5,m6,m7⟩:=of8' ((uh O5).get (o:=bxOb w2.heap.size vm) (by simp)))
  go_upto_region 6 with (go_at_call 6;have tb:=O5;clear tb;refine (uh HEX vm w3 ((uh SM).keep (uh K3))).mono ?_;rintro e w4 ⟨⟨qb,cb,rfl,hc⟩,b4⟩;obtain ⟨oB,hoB⟩:∃ o,csOb w3.heap.size w4.heap.size qb cb cs=o:=⟨_,rfl⟩;have O6:=hide ((uh O5).join b4 (L2:=[oB]) ⟨List.pairwise_singleton _ _,fun o ho=>(by rw [List.mem_singleton.1 ho,← hoB];exact hc.st b4.size)⟩ (fun o ho=>(by rw [List.mem_singleton.1 ho,← hoB];exact Nat.le_refl _)));have Q4:=hide (below_sub (uh Q3) b4);have CB:=hide hc.of;have HDB:=hide hoB;clear m0 m1 m2 m3 m4 m5 m6 m7 hc b4 hoB)
  go_upto_region 9 with (go_at_call 7;refine (copies_any qb cb cs w4 (uh CB) (uh HBD) (uh HLN)).mono ?_;rintro e w5 ⟨⟨qw,cw,rfl,hc⟩,b5⟩;obtain ⟨oW,hoW⟩:∃ o,csOb w4.heap.size w5.heap.size qw cw cs=o:=⟨_,rfl⟩;have O7:=hide ((uh O6).join b5 (L2:=[oW]) ⟨List.pairwise_singleton _ _,fun o ho=>(by rw [List.mem_singleton.1 ho,← hoW];exact hc.st b5.size)⟩ (fun o ho=>(by rw [List.mem_singleton.1 ho,← hoW];exact Nat.le_refl _)));have Q5:=hide (below_sub (uh Q4) b5);have HDW:=hide hoW;clear hc b5 hoW)
  have O8:=hide (show Objs ([bxOb w.heap.size v,oM,bxOb w2.heap.size vm] ++ (ms.drop 0 ++ [rqOb qa ca us,oB,oW])) w5 by have h:=uh O7;simpa using h)
  clear O7
  go_wp2
  go_loopw [36] (fun i wr=>∃ k:Nat,k≤cs.length∧i=.int .i64 k∧Hid (Objs ([bxOb w.heap.size v,oM,bxOb w2.heap.size vm] ++ (ms.drop k ++ [rqOb qa ca us,oB,oW])) wr)∧Hid (Below w.heap.size w wr)) (fun i _=>cs.length - (intOf i).toNat)
  case atStart=>exact ⟨0,by omega,rfl,O8,Q5⟩
  case round =>
    clear O8 Q5
    obtain ⟨k,hkk,rfl,HQ,HB⟩:=hrel
    obtain ⟨wr,rfl⟩:∃ U,U=wr:=⟨_,rfl⟩
    by_cases hlt:k < cs.length
    · obtain ⟨x,hx,_⟩:=get_at hlt
      have hR:OwnK encQ 37 1 0 wr qa ca us:=(uh HQ).get (o:=rqOb qa ca us) (by simp)
      obtain ⟨sl,hs,_⟩:=get_at (l:=us) (k:=k) (by have:=uh H1;omega)
      obtain ⟨ba,fa,hqa,hba,hcell⟩:=(hR.ls.2.2.2).at hs
      subst hqa
      have e0:wr.cell? ⟨ba,fa + k,none⟩=some (.slice sl.1 sl.2.1 sl.2.2):=by have:=hcell 0 (by omega);rw [Nat.mul_one] at this;exact this
      obtain ⟨lo,hi,hlo,hm⟩:=uh H6 k sl x hs hx
      obtain ⟨o,ho,hd⟩:=get_at (l:=ms) (k:=k) (by have:=uh H2;omega)
      rw [hm] at ho
      cases ho
      have HQ1:=hide (show Objs ([bxOb w.heap.size v,oM,bxOb w2.heap.size vm] ++ cjOb lo hi sl x :: (ms.drop (k + 1) ++ [rqOb (some ⟨ba,fa,none⟩) ca us,oB,oW])) wr by have h:=uh HQ;rw [hd] at h;exact h)
      have hg:=((uh HQ1).get (o:=cjOb lo hi sl x) (by simp)).1
      have HSN:=hide (show sl.2.1≤1000000000 by have h1:=hg.1;have:=(uh HBD x (List.mem_of_getElem? hx)).2;omega)
      have HLO:=hide (show w.heap.size≤lo from Nat.le_trans (uh Q2).size hlo)
      have ki0:(0:Int)≤(k:Int):=by omega
      have ki1:(k:Int) < (cs.length:Int):=by omega
      clear hx hR hs hcell hm hd hg hlo HQ
      go_upto_block 2 with (go_at_call 8;obtain ⟨vs,hlr⟩:=((uh HQ1).get (o:=cjOb lo hi sl x) (by simp)).2;have hst:=(uh HQ1).2 (cjOb lo hi sl x) (by simp);refine (over_lits lo hi sl.1 sl.2.1 sl.2.2 vs wr hlr hst.top (uh HSN)).mono ?_;rintro e y1 ⟨rfl,h6⟩;have HQ2:=hide ((uh HQ1).wr (L1:=[bxOb w.heap.size v,oM,bxOb w2.heap.size vm]) (L2:=ms.drop (k + 1) ++ [rqOb (some ⟨ba,fa,none⟩) ca us,oB,oW]) (o:=cjOb lo hi sl x) h6);have HB2:=hide ((uh HB).trans ((h6.below (Nat.le_trans hst.le hst.top)).mono (uh HLO)));clear hlr hst h6)
      go_wp2
      go_loopw [12] (fun i wr=>∃ j:Nat,k + 1≤j∧j≤cs.length∧i=.int .i64 j∧Hid (Objs ([bxOb w.heap.size v,oM,bxOb w2.heap.size vm] ++ (ms.drop (k + 1) ++ [rqOb (some ⟨ba,fa,none⟩) ca us,oB,oW])) wr)∧Hid (Below w.heap.size w wr)) (fun i _=>cs.length - (intOf i).toNat)
      case atStart=>exact ⟨k + 1,by omega,by omega,by go_num,HQ2,HB2⟩
      case round =>
        clear HQ2 HB2
        obtain ⟨j,hjk,hjn,rfl,HQ,HB⟩:=hrel
        obtain ⟨wr,rfl⟩:∃ U,U=wr:=⟨_,rfl⟩
        by_cases hjt:j < cs.length
        · obtain ⟨y,hy,_⟩:=get_at hjt
          have hR:OwnK encQ 37 1 0 wr (some ⟨ba,fa,none⟩) ca us:=(uh HQ).get (o:=rqOb (some ⟨ba,fa,none⟩) ca us) (by simp)
          obtain ⟨sj,hsj,_⟩:=get_at (l:=us) (k:=j) (by have:=uh H1;omega)
          obtain ⟨b1,f1,hq1,hb1,hc1⟩:=(hR.ls.2.2.2).at hsj
          injection hq1 with hq1
          injection hq1 with g1 g2
          subst g1 g2
          obtain ⟨lo2,hi2,hlo2,hm⟩:=uh H6 j sj y hsj hy
          have hmem:cjOb lo2 hi2 sj y ∈ ms.drop (k + 1):=List.mem_of_getElem? (i:=j - (k + 1)) (by rw [List.getElem?_drop,show k + 1 + (j - (k + 1))=j by omega];exact hm)
          have hg:=((uh HQ).get (o:=cjOb lo2 hi2 sj y) (by simp [hmem])).1
          have hW:=(uh HQ).get (o:=oW) (by simp)
          rw [← uh HDW] at hW
          have hW2:CjsOf wr qw cw cs:=hW
          obtain ⟨bw,fw,q3,c3,hqw,hbw,hlw,hcw⟩:=hW2.at hy
          subst hqw
          have e0:wr.cell? ⟨ba,fa + j,none⟩=some (.slice sj.1 y.length sj.2.2):=by have:=hc1 0 (by omega);rw [Nat.mul_one] at this;rw [hg.1];exact this
          have d0:wr.cell? ⟨bw,fw + j,none⟩=some (.slice q3 y.length c3):=hcw
          have hbd:=uh HBD y (List.mem_of_getElem? hy)
          have HSL:=hide (fun (W:World) (hW:Below wr.heap.size wr W)=>sameLits_eq sj.1 sj.2.2 q3 c3 y W (hg.lits.below hW) (hlw.below hW) hbd.1 hbd.2)
          have KSH:=hide (fun (W:World) (hW:Below wr.heap.size wr W)=>(show (fun w':World=>w'.cell? ⟨ba,fa + j,none⟩=some (.slice sj.1 y.length sj.2.2)∧w'.cell? ⟨bw,fw + j,none⟩=some (.slice q3 y.length c3)) W from ⟨(hW.cell hb1).trans e0,(hW.cell hbw).trans d0⟩))
          have kj0:(0:Int)≤(j:Int):=by omega
          have kj1:(j:Int) < (cs.length:Int):=by omega
          clear hy hR hsj hb1 hc1 hlo2 hm hmem hg hW hW2 hbw hcw hlw hbd
          go_upto_region 16 with fail
          go_region_held3 (fun w':World=>w'.cell? ⟨ba,fa + j,none⟩=some (.slice sj.1 y.length sj.2.2)∧w'.cell? ⟨bw,fw + j,none⟩=some (.slice q3 y.length c3)) (exact uh KSH _ (by (repeat (first | exact Below.refl _ _ | exact uh KY | refine Below.drew ?_)))) (first
            | (go_at_call 9;refine name_world ?_;intro Y1 hY1;have bY1:Below wr.heap.size wr Y1:=(by rw [hY1];(repeat (first | exact Below.refl _ _ | exact uh KY | refine Below.drew ?_)));refine (uh HSL Y1 bY1).mono ?_;rintro e y2 ⟨rfl,b2⟩;simp only;have b3:=below_sub bY1 b2;have HQ3:=hide ((uh HQ).below b3);have HB3:=hide (below_sub (uh HB) b3);have KY:=hide (show Below wr.heap.size wr y2 from b3);clear b2 b3))
          go_wp2
          exact ⟨⟨j + 1,by omega,by omega,by go_num,HQ3,HB3⟩,by simp [intOf];omega⟩
        · obtain rfl:j=cs.length:=by omega
          have kj1:¬ (cs.length:Int) < (cs.length:Int):=by omega
          go_wp2
          exact ⟨⟨k + 1,by omega,by go_num,HQ,HB⟩,by simp [intOf];omega⟩
    · obtain rfl:k=cs.length:=by omega
      have ki1:¬ (cs.length:Int) < (cs.length:Int):=by omega
      clear hlt hkk
      obtain ⟨n0,n1,n2,n3,n4,n5,n6,n7⟩:=of8' ((uh HQ).get (o:=bxOb w.heap.size v) (by simp))
      obtain ⟨m0,m1,m2,m3,m4,m5,m6,m7⟩:=of8' ((uh HQ).get (o:=bxOb w2.heap.size vm) (by simp))
      have hM:=(uh HQ).get (o:=oM) (by simp)
      rw [← uh HDM] at hM
      have HSP:=hide hM.1
      clear hM
      go_upto_region 21 with (first
        | (go_at_call 11;have tb:=O9;clear tb;have hB1:=(uh O9).get (o:=oB) (by simp);rw [← uh HDB] at hB1;have hW1:=(uh O9).get (o:=oW) (by simp);rw [← uh HDW] at hW1;refine (sameCj_eq qb cb qw cw cs y1 hB1 hW1 (uh HBD) (uh HLN)).mono ?_;rintro e y2 ⟨rfl,b2⟩;have O10:=hide ((uh O9).below b2);have Q10:=hide (below_sub (uh Q9) b2);clear b2 hB1 hW1 n0 n1 n2 n3 n4 n5 n6 n7 m0 m1 m2 m3 m4 m5 m6 m7;obtain ⟨m0,m1,m2,m3,m4,m5,m6,m7⟩:=of8' ((uh O10).get (o:=bxOb w2.heap.size vm) (by simp)))
        | (go_at_call 10;refine (uh HKE _ vm wr (uh HSP) ((uh HIN).keep (uh HB))).mono ?_;rintro e y1 ⟨rfl,b1⟩;have O9:=hide ((uh HQ).below b1);have Q9:=hide (below_sub (uh HB) b1);clear b1))
      go_upto_region 22 with (go_at_call 12;have tb:=O10;clear tb;have hst:=(uh O10).2 oM (by simp);have hM1:=hst.now;rw [← uh HDM] at hM1 hst;obtain ⟨_,nm,hrm⟩:=hM1;refine (over_node nm w1.heap.size w2.heap.size vm y2 hrm hst.top).mono ?_;rintro e y3 ⟨rfl,h6,_⟩;have O11:=hide ((uh O10).wr (L1:=[bxOb w.heap.size v]) (L2:=bxOb w2.heap.size vm :: (ms.drop cs.length ++ [rqOb qa ca us,oB,oW])) (o:=oM) (show Wr [3,9,28] oM.lo oM.hi y2 y3 by rw [← uh HDM];exact h6));have Q11:=hide ((uh Q10).trans ((h6.below (Nat.le_trans hst.le hst.top)).mono (uh Q1).size));clear hst hrm h6 m0 m1 m2 m3 m4 m5 m6 m7)
      go_wp2_with (go_at_call 11;have tb:=O11;clear tb;have hB1:=(uh O11).get (o:=oB) (by simp);rw [← uh HDB] at hB1;have hW1:=(uh O11).get (o:=oW) (by simp);rw [← uh HDW] at hW1;refine (sameCj_eq qb cb qw cw cs y3 hB1 hW1 (uh HBD) (uh HLN)).mono ?_;rintro e y4 ⟨rfl,b4⟩;have Q12:=hide (below_sub (uh Q11) b4);clear b4 hB1 hW1)
      go_ret
      exact ⟨rfl,uh Q12⟩
end Go.Proofs.Ytikhopiegaoacac

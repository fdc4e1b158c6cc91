/- dnf's choice: a digit of the place for each kid. -/
import Derived.Test.YtikhopiegaoacacDDnfOne
namespace Go.Proofs.Ytikhopiegaoacac
open Go.RowKit Go.Sort

theorem prod_drop {kids:List Nd} {k p:Nat} {x:Nd} {d:List Lt} (hx:kids[k]? = some x) (h:(cjProd (kids.drop k))[p]? = some d) :
  (cjProd (kids.drop k)).length=(cjN x).length * (cjProd (kids.drop (k + 1))).length∧p < (cjN x).length * (cjProd (kids.drop (k + 1))).length∧∃ c1 d1,(cjN x)[p / (cjProd (kids.drop (k + 1))).length]? = some c1∧(cjProd (kids.drop (k + 1)))[p % (cjProd (kids.drop (k + 1))).length]? = some d1∧d=c1 ++ d1:=by
 obtain ⟨hk,rfl⟩:=List.getElem?_eq_some_iff.1 hx
 have hl:(cjProd (kids.drop k)).length=(cjN kids[k]).length * (cjProd (kids.drop (k + 1))).length:=by
  rw [List.drop_eq_getElem_cons hk];simp only [cjProd,cross_len]
 have hp:=(List.getElem?_eq_some_iff.1 h).1
 rw [hl] at hp
 refine ⟨hl,hp, ?_⟩
 obtain ⟨c1,d1,h1,h2,h3⟩:=prod_get kids[k] (kids.drop (k + 1)) p hp
 rw [List.drop_eq_getElem_cons hk,h3] at h
 cases h
 exact ⟨c1,d1,h1,h2,rfl⟩
set_option maxRecDepth 100000 in
set_option maxHeartbeats 8000000 in
theorem choice_any (kids:List Nd) (hK:∀ x ∈ kids,ConjAny x) (hC:∀ x ∈ kids,chkN x=true∧atN x=true) (s:Sv) (w0:World) (qk:Option Addr) (ck P:Nat) (cj:List Lt) (q:Option Addr) (c n B:Nat) (ls:List Lt) (w:World) (hs:SdsOf w0 qk ck kids) (hwd:s.width=((cjProd kids).length:Nat)) (hb:Below w0.heap.size w0 w) (hB0:w0.heap.size≤B) (hB:B≤w.heap.size) (hg:GrowL B w q c n ls) (hcj:(cjProd kids)[P]? = some cj) (ln:n + cj.length≤1000000000) (lP:(cjProd kids).length≤1000000000000) (lk:kids.length≤1000000000) :
  Calls Try.prog 43 #[.agg #[.int .i64 s.lit.kind,.string s.lit.attr,.slice s.lit.qi s.lit.ni s.lit.ci,.slice s.lit.qw s.lit.nw s.lit.cw,.int .i64 s.lit.lo,.int .i64 s.lit.hi,.bool s.lit.neg,.int .i64 s.op,.int .i64 s.width,.slice qk kids.length ck],.int .i64 P,.slice q n c] w (ConjEnd B w ls cj):=by
 obtain ⟨X,HX⟩:∃ X,w.alloc (.cells #[.int .i64 s.lit.kind,.string s.lit.attr,.slice s.lit.qi s.lit.ni s.lit.ci,.slice s.lit.qw s.lit.nw s.lit.cw,.int .i64 s.lit.lo,.int .i64 s.lit.hi,.bool s.lit.neg,.int .i64 s.op,.int .i64 s.width,.slice qk kids.length ck] 62)=X:=⟨_,rfl⟩
 have bX:Below w.heap.size w X:=by rw [← HX];exact (Below.refl _ _).alloc (Nat.le_refl _) _
 have xk:X.heap[w.heap.size]? = some (.cells #[.int .i64 s.lit.kind,.string s.lit.attr,.slice s.lit.qi s.lit.ni s.lit.ci,.slice s.lit.qw s.lit.nw s.lit.cw,.int .i64 s.lit.lo,.int .i64 s.lit.hi,.bool s.lit.neg,.int .i64 s.op,.int .i64 s.width,.slice qk kids.length ck] 62 (0,0)):=by rw [← HX];exact box_nw _ _
 obtain ⟨x0,x1,x2,x3,x4,x5,x6,x7,x8,x9⟩:=of10' xk
 have HBW:=hide (bX.mono hB)
 have hBX:B≤X.heap.size:=Nat.le_trans hB bX.size
 have HG:=hide (hg.below bX)
 have HS0:=hide hs
 have HB0:=hide hb
 have HKK:=hide hK
 have HCC:=hide hC
 have HCJ:=hide hcj
 have HWD:=hide hwd
 have HLL:=hide hg.1
 have lk1:(kids.length:Int)≤1000000000:=by omega
 clear hs hg bX hK hC hcj xk hb hwd
 go_enter Try.func43,Try.ntmps43
 go_wp2
 go_loopw [1,2,7,15] (fun pv sv tv i wr=>∃ (k p m T:Nat) (q':Option Addr) (c':Nat) (l d:List Lt),k≤kids.length∧i=.int .i64 k∧pv=.int .i64 p∧tv=.int .i64 T∧sv=.slice q' m c'∧T≤1000000000000∧(cjProd (kids.drop k)).length=T∧(cjProd (kids.drop k))[p]? = some d∧l ++ d=ls ++ cj∧GrowL B wr q' c' m l∧Below B w wr∧B≤wr.heap.size) (fun _ _ _ i _=>kids.length - (intOf i).toNat)
 case atStart=>exact ⟨0,P,n,(cjProd kids).length,q,c,ls,cj,by omega,rfl,rfl,by rw [uh HWD],rfl,lP,rfl,uh HCJ,rfl,uh HG,uh HBW,hBX⟩
 case round =>
  obtain ⟨k,p,m,T,q',c',l,d,hkk,rfl,rfl,rfl,rfl,hT,hTl,hat,hld,hgr,hbel,hBr⟩:=hrel
  by_cases hlt:k < kids.length
  ·obtain ⟨x,hx,hxd⟩:=get_at hlt
   clear hxd
   obtain ⟨b,off,v,hq,hbb,hin,f0,f1,f2,f3,f4,f5,f6,f7,f8,f9⟩:=(uh HS0).at hx
   have b0r:Below w0.heap.size w0 wr:=(uh HB0).trans (hbel.mono hB0)
   have g0:=(b0r.cell (p:=⟨b,off + k * 10,none⟩) hbb).trans f0
   have g1:=(b0r.cell (p:=⟨b,off + k * 10 + 1,none⟩) hbb).trans f1
   have g2:=(b0r.cell (p:=⟨b,off + k * 10 + 2,none⟩) hbb).trans f2
   have g3:=(b0r.cell (p:=⟨b,off + k * 10 + 3,none⟩) hbb).trans f3
   have g4:=(b0r.cell (p:=⟨b,off + k * 10 + 4,none⟩) hbb).trans f4
   have g5:=(b0r.cell (p:=⟨b,off + k * 10 + 5,none⟩) hbb).trans f5
   have g6:=(b0r.cell (p:=⟨b,off + k * 10 + 6,none⟩) hbb).trans f6
   have g7:=(b0r.cell (p:=⟨b,off + k * 10 + 7,none⟩) hbb).trans f7
   have g8:=(b0r.cell (p:=⟨b,off + k * 10 + 8,none⟩) hbb).trans f8
   have g9:=(b0r.cell (p:=⟨b,off + k * 10 + 9,none⟩) hbb).trans f9
   clear f0 f1 f2 f3 f4 f5 f6 f7 f8 f9
   subst hq
   have hmx:=List.mem_of_getElem? hx
   have hw:v.width=((cjN x).length:Nat):=(hin.wide (uh HCC x hmx).1 (uh HCC x hmx).2).trans (cj_all [] x (uh HCC x hmx).1 (uh HCC x hmx).2).1.symm
   obtain ⟨e1,e2,c1,d1,e3,e4,e5⟩:=prod_drop hx hat
   obtain ⟨A,hA⟩:∃ A,(cjN x).length=A:=⟨_,rfl⟩
   obtain ⟨D,hD⟩:∃ D,(cjProd (kids.drop (k + 1))).length=D:=⟨_,rfl⟩
   rw [hA] at hw e1 e2
   rw [hD] at e1 e2 e3 e4
   rw [hw] at g8
   rw [hTl] at e1
   have A0:0 < A:=by
    rcases Nat.eq_zero_or_pos A with h | h
    ·rw [h,Nat.zero_mul] at e2;omega
    ·exact h
   have D0:0 < D:=by
    rcases Nat.eq_zero_or_pos D with h | h
    ·rw [h,Nat.mul_zero] at e2;omega
    ·exact h
   have hTA:T / A=D:=by rw [e1];exact Nat.mul_div_cancel_left D A0
   have hDT:D≤1000000000000:=by have:=Nat.div_le_self T A;omega
   have hp2:p < 1000000000000:=by omega
   have ki0:(0:Int)≤(k:Int):=by omega
   have ki1:(k:Int) < (kids.length:Int):=by omega
   have hml:l.length=m:=hgr.1
   have hnc:m + c1.length≤1000000000:=by
    have:=congrArg List.length hld
    rw [e5] at this
    simp only [List.length_append] at this
    have:=uh HLL
    omega
   have iA:¬ (A:Int)=0:=by omega
   have iD:¬ (D:Int)=0:=by omega
   have td1:(T:Int).tdiv (A:Int)=(D:Int):=by rw [← hTA];rfl
   have td2:(p:Int).tdiv (D:Int)=((p / D:Nat):Int):=rfl
   have td3:(p:Int).tmod (D:Int)=((p % D:Nat):Int):=rfl
   obtain ⟨F,hF⟩:∃ F,p / D=F:=⟨_,rfl⟩
   obtain ⟨E,hE⟩:∃ E,p % D=E:=⟨_,rfl⟩
   rw [hF] at td2 e3
   rw [hE] at td3 e4
   have hF2:F≤1000000000000:=by have:=Nat.div_le_self p D;omega
   have hE2:E≤1000000000000:=by have:=Nat.mod_lt p D0;omega
   have nD:¬ D=0:=by omega
   have wF:IntKind.i64.wrap (F:Int)=(F:Int):=wrap_of _ (by omega) (by omega)
   obtain ⟨Z,HZ⟩:∃ Z,wr.alloc (.cells #[.int .i64 v.lit.kind,.string v.lit.attr,.slice v.lit.qi v.lit.ni v.lit.ci,.slice v.lit.qw v.lit.nw v.lit.cw,.int .i64 v.lit.lo,.int .i64 v.lit.hi,.bool v.lit.neg,.int .i64 v.op,.int .i64 (A:Nat),.slice v.qk v.nk v.ck] 62)=Z:=⟨_,rfl⟩
   have bZ:Below wr.heap.size wr Z:=by rw [← HZ];exact (Below.refl _ _).alloc (Nat.le_refl _) _
   have zk:Z.heap[wr.heap.size]? = some (.cells #[.int .i64 v.lit.kind,.string v.lit.attr,.slice v.lit.qi v.lit.ni v.lit.ci,.slice v.lit.qw v.lit.nw v.lit.cw,.int .i64 v.lit.lo,.int .i64 v.lit.hi,.bool v.lit.neg,.int .i64 v.op,.int .i64 (A:Nat),.slice v.qk v.nk v.ck] 62 (0,0)):=by rw [← HZ];exact box_nw _ _
   obtain ⟨z0,z1,z2,z3,z4,z5,z6,z7,z8,z9⟩:=of10' zk
   have hBZ:B≤Z.heap.size:=Nat.le_trans hBr bZ.size
   have hC6:=fun (Wd:World) (hWd:Below Z.heap.size Z Wd)=>uh HKK x hmx v w0 F c1 q' c' m B l Wd hin (below_sub (below_sub b0r bZ) hWd) hB0 (Nat.le_trans hBZ hWd.size) ((hgr.below bZ).below hWd) e3 hnc
   unfold Sv.val at hC6
   rw [hw] at hC6
   have HEQ:=hide (show (l ++ c1) ++ d1=ls ++ cj by rw [List.append_assoc,← e5];exact hld)
   have HD:=hide hD
   have HE4:=hide e4
   have HBZ:=hide (hbel.trans (bZ.mono hBr))
   clear e1 e2 e3 e4 e5 hw hA hD hTl hat hld hgr hbel b0r bZ zk hin hmx hx hTA hF hE hml hnc A0 D0 hBr
   have mixed:Try.prog.follows .mixedOrders=true:=by kernel_rfl
   go_wp2
   refine wp_region_held_drew (S:=fun w'=>True) (by kernel_rfl) (trivial) (fun hHeld=>?_)
   refine wpAnyH_take (i:=1) (oi:=⟨some 24,.move (.tmp 1),_,_,_,none⟩) (v:=?_) rfl (by kernel_rfl) (by kernel_rfl) (by kernel_rfl) (fun _ _ _ h=>h) (Or.inl ⟨by rfl, ?_⟩) (by assumption) ?_
   rotate_left
   ·intro wq hSw
    go_simp
    with_reducible rfl
   simp only [Act.put,List.setIfInBounds_toArray,List.set_cons_zero,List.set_cons_succ]
   refine wpAnyH_take (i:=2) (oi:=⟨some 25,.move (.tmp 7),_,_,_,none⟩) (v:=?_) rfl (by kernel_rfl) (by kernel_rfl) (by kernel_rfl) (fun _ _ _ h=>h) (Or.inl ⟨by rfl, ?_⟩) (by assumption) ?_
   rotate_left
   ·intro wq hSw
    go_simp
    with_reducible rfl
   simp only [Act.put,List.setIfInBounds_toArray,List.set_cons_zero,List.set_cons_succ]
   refine wpAnyH_take (i:=4) (oi:=⟨some 27,.move (.tmp 2),_,_,_,none⟩) (v:=?_) rfl (by kernel_rfl) (by kernel_rfl) (by kernel_rfl) (fun _ _ _ h=>h) (Or.inl ⟨by rfl, ?_⟩) (by assumption) ?_
   rotate_left
   ·intro wq hSw
    go_simp
    with_reducible rfl
   simp only [Act.put,List.setIfInBounds_toArray,List.set_cons_zero,List.set_cons_succ]
   refine wpAnyH_ready (rs:=[0,3]) (by kernel_rfl) (by simp) ?_
   refine AllReadyH.cons (o:=⟨some 23,.load 62 (.tmp 9),_,_,_,none⟩) rfl (fun K hK=>?_) ?_
   ·go_simp
    refine hK.out _ _ (trivial) (fun hHeld=>?_)
    clear hK K
    refine wpAnyH_ready (rs:=[3]) (by kernel_rfl) (by simp) ?_
    refine AllReadyH.cons (o:=⟨some 26,.binOp .quo 3 (.tmp 24) (.tmp 25) 3,_,_,_,none⟩) rfl (fun K hK=>?_) ?_
    ·go_simp
     refine hK.out _ _ (trivial) (fun hHeld=>?_)
     clear hK K
     refine wpAnyH_ready (rs:=[5]) (by kernel_rfl) (by simp) ?_
     refine AllReadyH.cons (o:=⟨some 28,.call { callee:=.value (.func 24),args:=#[.tmp 23,.tmp 26,.tmp 27],argTypes:=#[62,3,37] },_,_,_,none⟩) rfl (fun K hK=>?_) ?_
     ·go_simp
      refine (hC6 _ ((Below.refl _ _).drew)).mono ?_
      rintro e w2 ⟨q2,c2,N2,rfl,h1,h2⟩
      simp only
      have HE1:=hide h1
      have HE2:=hide (show Below B Z w2 from (((Below.refl Z.heap.size Z).drew).mono hBZ).trans h2)
      have hs2:=(uh HE2).size
      clear h1 h2
      refine hK.out _ _ (trivial) (fun hHeld=>?_)
      clear hK K
      refine wpAnyH_take (i:=6) (oi:=⟨some 2,.assign (.tmp 28),_,_,_,none⟩) (v:=?_) rfl (by kernel_rfl) (by kernel_rfl) (by kernel_rfl) (fun _ _ _ h=>h) (Or.inl ⟨by rfl, ?_⟩) (by assumption) ?_
      rotate_left
      ·intro wq hSw
       go_simp
       with_reducible rfl
      simp only [Act.put,List.setIfInBounds_toArray,List.set_cons_zero,List.set_cons_succ]
      refine wpAnyH_done (by kernel_rfl) ?_ _
      go_wp2
      go_roundw
      case rel=>exact ⟨k + 1,E,N2,D,q2,c2,l ++ c1,d1,by omega,by go_num,by go_num,by go_num,rfl,hDT,uh HD,uh HE4,uh HEQ,uh HE1,(uh HBZ).trans (uh HE2),Nat.le_trans hBZ hs2⟩
      case measure=>simp [intOf];omega
     exact AllReadyH.nil
    exact AllReadyH.nil
   refine AllReadyH.cons (o:=⟨some 26,.binOp .quo 3 (.tmp 24) (.tmp 25) 3,_,_,_,none⟩) rfl (fun K hK=>?_) ?_
   ·go_simp
    refine hK.out _ _ (trivial) (fun hHeld=>?_)
    clear hK K
    refine wpAnyH_ready (rs:=[0]) (by kernel_rfl) (by simp) ?_
    refine AllReadyH.cons (o:=⟨some 23,.load 62 (.tmp 9),_,_,_,none⟩) rfl (fun K hK=>?_) ?_
    ·go_simp
     refine hK.out _ _ (trivial) (fun hHeld=>?_)
     clear hK K
     refine wpAnyH_ready (rs:=[5]) (by kernel_rfl) (by simp) ?_
     refine AllReadyH.cons (o:=⟨some 28,.call { callee:=.value (.func 24),args:=#[.tmp 23,.tmp 26,.tmp 27],argTypes:=#[62,3,37] },_,_,_,none⟩) rfl (fun K hK=>?_) ?_
     ·go_simp
      refine (hC6 _ ((Below.refl _ _).drew)).mono ?_
      rintro e w2 ⟨q2,c2,N2,rfl,h1,h2⟩
      simp only
      have HE1:=hide h1
      have HE2:=hide (show Below B Z w2 from (((Below.refl Z.heap.size Z).drew).mono hBZ).trans h2)
      have hs2:=(uh HE2).size
      clear h1 h2
      refine hK.out _ _ (trivial) (fun hHeld=>?_)
      clear hK K
      refine wpAnyH_take (i:=6) (oi:=⟨some 2,.assign (.tmp 28),_,_,_,none⟩) (v:=?_) rfl (by kernel_rfl) (by kernel_rfl) (by kernel_rfl) (fun _ _ _ h=>h) (Or.inl ⟨by rfl, ?_⟩) (by assumption) ?_
      rotate_left
      ·intro wq hSw
       go_simp
       with_reducible rfl
      simp only [Act.put,List.setIfInBounds_toArray,List.set_cons_zero,List.set_cons_succ]
      refine wpAnyH_done (by kernel_rfl) ?_ _
      go_wp2
      go_roundw
      case rel=>exact ⟨k + 1,E,N2,D,q2,c2,l ++ c1,d1,by omega,by go_num,by go_num,by go_num,rfl,hDT,uh HD,uh HE4,uh HEQ,uh HE1,(uh HBZ).trans (uh HE2),Nat.le_trans hBZ hs2⟩
      case measure=>simp [intOf];omega
     exact AllReadyH.nil
    exact AllReadyH.nil
   exact AllReadyH.nil
  ·have ki1:¬ (k:Int) < (kids.length:Int):=by omega
   have HEND:=hide (show l=ls ++ cj by
    rw [List.drop_eq_nil_of_le (by omega)] at hat
    have hp:=(List.getElem?_eq_some_iff.1 hat).1
    have h0:p=0:=by simp [cjProd] at hp;omega
    subst h0
    simp [cjProd] at hat
    have hd:d=[]:=by first | exact hat | exact hat.symm
    rw [← hld,hd,List.append_nil])
   have HGR:=hide hgr
   have HBE:=hide hbel
   clear hat hld hgr hbel hTl
   go_wp2
   go_ret
   exact ⟨q',c',m,rfl,by rw [← uh HEND];exact uh HGR,uh HBE⟩
end Go.Proofs.Ytikhopiegaoacac

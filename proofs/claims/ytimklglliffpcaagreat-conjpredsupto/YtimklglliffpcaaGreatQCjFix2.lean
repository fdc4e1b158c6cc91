/- Layer 9's fixed facts: the region that makes the first conjunction, every order of its operations. -/
import Derived.Test.YtimklglliffpcaaGreatQZak
import Derived.OrdersHeld
import Derived.Deep.RegionHeld
import Derived.Deep.Cut
import Derived.Deep.RegionHeld3
namespace Go.Proofs.YtimklglliffpcaaGreat
open Go.RowKit Go.Sort Go.Shelf
/-- The walk of a drawn region, seen as a predicate of what has come up. -/
theorem Rr {P:Program} {md:Region.Mode} {ops:Array Oper} {Q:Exit->Act->World->Prop} {S:World->Prop} {fuel:Nat} {listed:Array Bool} {a:Act} {w:World} (h:∀ F:Nat->Array Bool->Act->World->Prop,(∀ n l a w,F n l a w=wpAnyH P md ops Q S n l a w)->F fuel listed a w):wpAnyH P md ops Q S fuel listed a w :=
 h (fun n l a w=>wpAnyH P md ops Q S n l a w) (fun _ _ _ _=>rfl)
theorem kn {F:Nat->Array Bool->Act->World->Prop} {n:Nat} {l l':Array Bool} {a a':Act} {w:World} (h:F n l' a' w) (hl:l'=l) (ha:a'=a):F n l a w:=by subst hl ha;exact h
theorem Hi {w:World} {M:Nat} {a b c a' b' c':Value} {T:TypeId} (h:w.heap[M]? = some (.cells #[a,b,c] T (0,0))):(((w.setCell ⟨M,0,none⟩ a').setCell ⟨M,1,none⟩ b').setCell ⟨M,2,none⟩ c').heap[M]? = some (.cells #[a',b',c'] T (0,0)):=by
 have h1:=heap_setCell_same w M 0 _ T a' h
 have h2:=heap_setCell_same _ M 1 _ T b' h1
 have h3:=heap_setCell_same _ M 2 _ T c' h2
 simpa using h3
theorem Gp {w:World} {M:Nat} {x:Cv} {d:Cd} {a b c:Value} (h:Pq M w x d):CdIn (((w.setCell ⟨M,0,none⟩ a).setCell ⟨M,1,none⟩ b).setCell ⟨M,2,none⟩ c) x d:=by
 refine h _ (by simp) fun j _ hne=>?_
 rw [Below.heap_setCell _ _ _ _ hne,Below.heap_setCell _ _ _ _ hne,Below.heap_setCell _ _ _ _ hne]
set_option maxRecDepth 100000 in
set_option maxHeartbeats 40000000 in
theorem zdy (v1 v2:Nv) (A B:Nat) (U:World) (hA:U.heap[A]? = some (.cells #[.int .i64 v1.kind,.string v1.attr,.slice v1.qi v1.ni v1.ci,.slice v1.qw v1.nw v1.cw,.int .i64 v1.lo,.int .i64 v1.hi,.int .i64 v1.op,.slice v1.qk v1.nk v1.ck] 56 (0,0))) (hB:U.heap[B]? = some (.cells #[.int .i64 v2.kind,.string v2.attr,.slice v2.qi v2.ni v2.ci,.slice v2.qw v2.nw v2.cw,.int .i64 v2.lo,.int .i64 v2.hi,.int .i64 v2.op,.slice v2.qk v2.nk v2.ck] 56 (0,0))) (n1:NdIn U v1 T1) (n2:NdIn U v2 T2)
  (aa ab ac ad ae af ag ah ai aj ak al am an ao ap aq ar au av aw ax ay az ba bc bd be bf bg bh bi bj bk bl bm bo bp bq br bs bt bu bv bw bx bz ca cb cc cd ce cf cg ch cj cl cm co cq cr cs ct cu cv cx cy cz da db dc dd de df dg dh di dj dk dl dm dn dp dq dr ds dt du dv dw dx dy dz ea eb ec ed ee ef eg eh ei ej ek el em en eo ep er es et eu ev ew ex ey ez fa fb fc fd fe ff fg fh fi fj fk fl fm fn fo fp fq fr fs ft fu fv fw fx fy fz ga gb gc gd ge gf gg gh gi:Value) (d:List Deferred) (Q:Exit->Act->World->Prop) (hP:∀ c (a:Act) o v w,Q (.panic c) (a.put o v) w->Q (.panic c) a w)
  (hQ:∀ (W:World) (x:Cv) (M:Nat) (gj gk gl gm gn gp gq gr gs gt gu gv gw gx:Value),Below U.heap.size U W->W.heap[M]? = some (.cells #[.bool x.never,.slice x.qp x.np x.cp,.slice x.qn x.nn x.cn] 39 (0,0))->CdIn W x ⟨false,[P1,P2],[P3]⟩->Q .normal (Act.mk #[aa,.pointer (some ⟨A,0,none⟩),.pointer (some ⟨B,0,none⟩),.pointer (some ⟨M,0,none⟩),.int .i64 0,ad,ae,af,ag,ah,ai,aj,ak,al,am,an,ao,gj,gk,gl,gm,gn,gp,gq,gr,gs,gt,gu,gv,gw,gx,bg,bh,bi,bj,bk,bl,bm,bo,bp,bq,br,bs,bt,bu,bv,bw,bx,bz,ca,cb,cc,cd,ce,cf,cg,ch,cj,cl,cm,co,cq,cr,cs,ct,cu,cv,cx,cy,cz,da,db,dc,dd,de,df,dg,dh,di,dj,dk,dl,dm,dn,dp,dq,dr,ds,dt,du,dv,dw,dx,dy,dz,ea,eb,ec,ed,ee,ef,eg,eh,ei,ej,ek,el,em,en,eo,ep,er,es,et,eu,ev,ew,ex,ey,ez,fa,fb,fc,fd,fe,ff,fg,fh,fi,fj,fk,fl,fm,fn,fo,fp,fq,fr,fs,ft,fu,fv,fw,fx,fy,fz,ga,gb,gc,gd,ge,gf,gg,gh,gi] d) W) :
  (Code.region 2 #[{ dst:=some 18,op:=Op.load 56 (Operand.tmp 1),type:=56,pos:="law.go:20",after:=#[],guard:=none },{ dst:=some 19,op:=Op.call { callee:=Callee.value (Operand.func 45),args:=#[Operand.tmp 18,Operand.const (Value.bool false)],argTypes:=#[56,4] },type:=64,pos:="law.go:20",after:=#[{ on:=0,ground:=Ground.data }],guard:=none },{ dst:=some 20,op:=Op.load 56 (Operand.tmp 2),type:=56,pos:="law.go:20",after:=#[],guard:=none },{ dst:=some 21,op:=Op.call { callee:=Callee.value (Operand.func 45),args:=#[Operand.tmp 20,Operand.const (Value.bool false)],argTypes:=#[56,4] },type:=64,pos:="law.go:20",after:=#[{ on:=2,ground:=Ground.data },{ on:=1,ground:=Ground.chain }],guard:=none },{ dst:=some 22,op:=Op.call { callee:=Callee.value (Operand.func 46),args:=#[Operand.const (Value.string { data:=#[99] }),Operand.const (Value.string { data:=#[120] })],argTypes:=#[9,9] },type:=56,pos:="law.go:20",after:=#[{ on:=3,ground:=Ground.chain }],guard:=none },{ dst:=some 23,op:=Op.call { callee:=Callee.value (Operand.func 45),args:=#[Operand.tmp 22,Operand.const (Value.bool false)],argTypes:=#[56,4] },type:=64,pos:="law.go:20",after:=#[{ on:=4,ground:=Ground.data },{ on:=4,ground:=Ground.chain }],guard:=none },{ dst:=some 24,op:=Op.buildSlice 23 1 #[(0,Operand.const (Value.int IntKind.i64 3))],type:=23,pos:="law.go:20",after:=#[],guard:=none },{ dst:=some 25,op:=Op.call { callee:=Callee.value (Operand.func 43),args:=#[Operand.const (Value.string { data:=#[97] }),Operand.tmp 24],argTypes:=#[9,23] },type:=56,pos:="law.go:20",after:=#[{ on:=6,ground:=Ground.data },{ on:=5,ground:=Ground.chain }],guard:=none },{ dst:=some 26,op:=Op.call { callee:=Callee.value (Operand.func 45),args:=#[Operand.tmp 25,Operand.const (Value.bool true)],argTypes:=#[56,4] },type:=64,pos:="law.go:20",after:=#[{ on:=7,ground:=Ground.data },{ on:=7,ground:=Ground.chain }],guard:=none },{ dst:=some 27,op:=Op.buildSlice 37 4 #[(0,Operand.tmp 19),(1,Operand.tmp 21),(2,Operand.tmp 23),(3,Operand.tmp 26)],type:=37,pos:="law.go:20",after:=#[{ on:=1,ground:=Ground.data },{ on:=3,ground:=Ground.data },{ on:=5,ground:=Ground.data },{ on:=8,ground:=Ground.data }],guard:=none },{ dst:=some 28,op:=Op.call { callee:=Callee.value (Operand.func 24),args:=#[Operand.tmp 27],argTypes:=#[37] },type:=44,pos:="law.go:20",after:=#[{ on:=9,ground:=Ground.data },{ on:=8,ground:=Ground.chain }],guard:=none },{ dst:=some 17,op:=Op.move (Operand.tmp 28),type:=44,pos:="law.go:20",after:=#[{ on:=10,ground:=Ground.data }],guard:=none },{ dst:=some 29,op:=Op.extract (Operand.tmp 17) 0,type:=39,pos:="law.go:20",after:=#[{ on:=11,ground:=Ground.data }],guard:=none },{ dst:=some 30,op:=Op.extract (Operand.tmp 17) 1,type:=43,pos:="law.go:20",after:=#[{ on:=11,ground:=Ground.data },{ on:=15,ground:=Ground.gcOnly Departure.lateStores }],guard:=none },{ dst:=some 3,op:=Op.alloc 39,type:=0,pos:="law.go:20",after:=#[],guard:=none },{ dst:=none,op:=Op.store 39 (Operand.tmp 3) (Operand.tmp 29),type:=0,pos:="law.go:20",after:=#[{ on:=14,ground:=Ground.data },{ on:=12,ground:=Ground.data },{ on:=10,ground:=Ground.chain },{ on:=0,ground:=Ground.phase },{ on:=1,ground:=Ground.phase },{ on:=2,ground:=Ground.phase },{ on:=3,ground:=Ground.phase },{ on:=4,ground:=Ground.phase },{ on:=5,ground:=Ground.phase },{ on:=6,ground:=Ground.phase },{ on:=7,ground:=Ground.phase },{ on:=8,ground:=Ground.phase },{ on:=9,ground:=Ground.phase },{ on:=10,ground:=Ground.phase },{ on:=11,ground:=Ground.phase },{ on:=12,ground:=Ground.phase },{ on:=13,ground:=Ground.textOnly Departure.lateStores },{ on:=14,ground:=Ground.phase }],guard:=none },{ dst:=some 4,op:=Op.assign (Operand.tmp 30),type:=43,pos:="law.go:20",after:=#[{ on:=13,ground:=Ground.data },{ on:=15,ground:=Ground.chain },{ on:=0,ground:=Ground.phase },{ on:=1,ground:=Ground.phase },{ on:=2,ground:=Ground.phase },{ on:=3,ground:=Ground.phase },{ on:=4,ground:=Ground.phase },{ on:=5,ground:=Ground.phase },{ on:=6,ground:=Ground.phase },{ on:=7,ground:=Ground.phase },{ on:=8,ground:=Ground.phase },{ on:=9,ground:=Ground.phase },{ on:=10,ground:=Ground.phase },{ on:=11,ground:=Ground.phase },{ on:=12,ground:=Ground.phase },{ on:=13,ground:=Ground.phase },{ on:=14,ground:=Ground.phase },{ on:=15,ground:=Ground.phase }],guard:=none }] true).wp Tryz.prog Q (Act.mk #[aa,.pointer (some ⟨A,0,none⟩),.pointer (some ⟨B,0,none⟩),ab,ac,ad,ae,af,ag,ah,ai,aj,ak,al,am,an,ao,ap,aq,ar,au,av,aw,ax,ay,az,ba,bc,bd,be,bf,bg,bh,bi,bj,bk,bl,bm,bo,bp,bq,br,bs,bt,bu,bv,bw,bx,bz,ca,cb,cc,cd,ce,cf,cg,ch,cj,cl,cm,co,cq,cr,cs,ct,cu,cv,cx,cy,cz,da,db,dc,dd,de,df,dg,dh,di,dj,dk,dl,dm,dn,dp,dq,dr,ds,dt,du,dv,dw,dx,dy,dz,ea,eb,ec,ed,ee,ef,eg,eh,ei,ej,ek,el,em,en,eo,ep,er,es,et,eu,ev,ew,ex,ey,ez,fa,fb,fc,fd,fe,ff,fg,fh,fi,fj,fk,fl,fm,fn,fo,fp,fq,fr,fs,ft,fu,fv,fw,fx,fy,fz,ga,gb,gc,gd,ge,gf,gg,gh,gi] d) U:=by
 have KS:∀ W,Below U.heap.size U W->(fun w'=>w'.cell? ⟨A,0,none⟩=some (.int .i64 v1.kind)/\w'.cell? ⟨A,1,none⟩=some (.string v1.attr)/\w'.cell? ⟨A,2,none⟩=some (.slice v1.qi v1.ni v1.ci)/\w'.cell? ⟨A,3,none⟩=some (.slice v1.qw v1.nw v1.cw)/\w'.cell? ⟨A,4,none⟩=some (.int .i64 v1.lo)/\w'.cell? ⟨A,5,none⟩=some (.int .i64 v1.hi)/\w'.cell? ⟨A,6,none⟩=some (.int .i64 v1.op)/\w'.cell? ⟨A,7,none⟩=some (.slice v1.qk v1.nk v1.ck)/\w'.cell? ⟨B,0,none⟩=some (.int .i64 v2.kind)/\w'.cell? ⟨B,1,none⟩=some (.string v2.attr)/\w'.cell? ⟨B,2,none⟩=some (.slice v2.qi v2.ni v2.ci)/\w'.cell? ⟨B,3,none⟩=some (.slice v2.qw v2.nw v2.cw)/\w'.cell? ⟨B,4,none⟩=some (.int .i64 v2.lo)/\w'.cell? ⟨B,5,none⟩=some (.int .i64 v2.hi)/\w'.cell? ⟨B,6,none⟩=some (.int .i64 v2.op)/\w'.cell? ⟨B,7,none⟩=some (.slice v2.qk v2.nk v2.ck)) W:=fun W hb=>by
  obtain ⟨a0,a1,a2,a3,a4,a5,a6,a7⟩:=rj ((hb.block _ (jc hA)).trans hA)
  obtain ⟨b0,b1,b2,b3,b4,b5,b6,b7⟩:=rj ((hb.block _ (jc hB)).trans hB)
  exact ⟨a0,a1,a2,a3,a4,a5,a6,a7,b0,b1,b2,b3,b4,b5,b6,b7⟩
 have N1:=d9 n1
 have N2:=d9 n2
 have HQ:=d9 hQ
 have HP:=d9 hP
 clear hP hA hB n1 n2 hQ
 refine wp_region_held_drew (S:=fun w'=>w'.cell? ⟨A,0,none⟩=some (.int .i64 v1.kind)/\w'.cell? ⟨A,1,none⟩=some (.string v1.attr)/\w'.cell? ⟨A,2,none⟩=some (.slice v1.qi v1.ni v1.ci)/\w'.cell? ⟨A,3,none⟩=some (.slice v1.qw v1.nw v1.cw)/\w'.cell? ⟨A,4,none⟩=some (.int .i64 v1.lo)/\w'.cell? ⟨A,5,none⟩=some (.int .i64 v1.hi)/\w'.cell? ⟨A,6,none⟩=some (.int .i64 v1.op)/\w'.cell? ⟨A,7,none⟩=some (.slice v1.qk v1.nk v1.ck)/\w'.cell? ⟨B,0,none⟩=some (.int .i64 v2.kind)/\w'.cell? ⟨B,1,none⟩=some (.string v2.attr)/\w'.cell? ⟨B,2,none⟩=some (.slice v2.qi v2.ni v2.ci)/\w'.cell? ⟨B,3,none⟩=some (.slice v2.qw v2.nw v2.cw)/\w'.cell? ⟨B,4,none⟩=some (.int .i64 v2.lo)/\w'.cell? ⟨B,5,none⟩=some (.int .i64 v2.hi)/\w'.cell? ⟨B,6,none⟩=some (.int .i64 v2.op)/\w'.cell? ⟨B,7,none⟩=some (.slice v2.qk v2.nk v2.ck)) (by kernel_rfl) (KS _ (Below.refl _ _).drew) (fun hHeld=>?_)
 clear hHeld
 refine Rr ?_
 intro F hF
 obtain ⟨G,hG⟩:∃ G:Value->Value->Value->Value->Value->Value->Value->Value->Value->Value->Value->Value->Value->Value->Value->Act,∀ x3 x17 x18 x19 x20 x21 x22 x23 x24 x25 x26 x27 x28 x29 x30,G x3 x17 x18 x19 x20 x21 x22 x23 x24 x25 x26 x27 x28 x29 x30=Act.mk #[aa,.pointer (some ⟨A,0,none⟩),.pointer (some ⟨B,0,none⟩),x3,ac,ad,ae,af,ag,ah,ai,aj,ak,al,am,an,ao,x17,x18,x19,x20,x21,x22,x23,x24,x25,x26,x27,x28,x29,x30,bg,bh,bi,bj,bk,bl,bm,bo,bp,bq,br,bs,bt,bu,bv,bw,bx,bz,ca,cb,cc,cd,ce,cf,cg,ch,cj,cl,cm,co,cq,cr,cs,ct,cu,cv,cx,cy,cz,da,db,dc,dd,de,df,dg,dh,di,dj,dk,dl,dm,dn,dp,dq,dr,ds,dt,du,dv,dw,dx,dy,dz,ea,eb,ec,ed,ee,ef,eg,eh,ei,ej,ek,el,em,en,eo,ep,er,es,et,eu,ev,ew,ex,ey,ez,fa,fb,fc,fd,fe,ff,fg,fh,fi,fj,fk,fl,fm,fn,fo,fp,fq,fr,fs,ft,fu,fv,fw,fx,fy,fz,ga,gb,gc,gd,ge,gf,gg,gh,gi] d:=⟨fun x3 x17 x18 x19 x20 x21 x22 x23 x24 x25 x26 x27 x28 x29 x30=>Act.mk #[aa,.pointer (some ⟨A,0,none⟩),.pointer (some ⟨B,0,none⟩),x3,ac,ad,ae,af,ag,ah,ai,aj,ak,al,am,an,ao,x17,x18,x19,x20,x21,x22,x23,x24,x25,x26,x27,x28,x29,x30,bg,bh,bi,bj,bk,bl,bm,bo,bp,bq,br,bs,bt,bu,bv,bw,bx,bz,ca,cb,cc,cd,ce,cf,cg,ch,cj,cl,cm,co,cq,cr,cs,ct,cu,cv,cx,cy,cz,da,db,dc,dd,de,df,dg,dh,di,dj,dk,dl,dm,dn,dp,dq,dr,ds,dt,du,dv,dw,dx,dy,dz,ea,eb,ec,ed,ee,ef,eg,eh,ei,ej,ek,el,em,en,eo,ep,er,es,et,eu,ev,ew,ex,ey,ez,fa,fb,fc,fd,fe,ff,fg,fh,fi,fj,fk,fl,fm,fn,fo,fp,fq,fr,fs,ft,fu,fv,fw,fx,fy,fz,ga,gb,gc,gd,ge,gf,gg,gh,gi] d,fun _ _ _ _ _ _ _ _ _ _ _ _ _ _ _=>rfl⟩
 have st0:Hid (∀ (W:World) (M14:Nat) (M6:Nat) (M9:Nat) (v4:Nv) (v7:Nv) (x:Cv),Hid (Below U.heap.size U W)->Hid (W.heap[M14]? = some (.cells #[.bool x.never,.slice x.qp x.np x.cp,.slice x.qn x.nn x.cn] 39 (0,0)))->Hid (CdIn W x ⟨false,[P1,P2],[P3]⟩)->F 1 #[true,true,true,true,true,true,true,true,true,true,true,true,true,true,true,true,false] (G (.pointer (some ⟨M14,0,none⟩)) (.tuple #[.agg #[.bool x.never,.slice x.qp x.np x.cp,.slice x.qn x.nn x.cn],.int .i64 0]) (.agg #[.int .i64 v1.kind,.string v1.attr,.slice v1.qi v1.ni v1.ci,.slice v1.qw v1.nw v1.cw,.int .i64 v1.lo,.int .i64 v1.hi,.int .i64 v1.op,.slice v1.qk v1.nk v1.ck]) (.agg #[.int .i64 v1.kind,.string v1.attr,.slice v1.qi v1.ni v1.ci,.slice v1.qw v1.nw v1.cw,.int .i64 v1.lo,.int .i64 v1.hi,.bool false]) (.agg #[.int .i64 v2.kind,.string v2.attr,.slice v2.qi v2.ni v2.ci,.slice v2.qw v2.nw v2.cw,.int .i64 v2.lo,.int .i64 v2.hi,.int .i64 v2.op,.slice v2.qk v2.nk v2.ck]) (.agg #[.int .i64 v2.kind,.string v2.attr,.slice v2.qi v2.ni v2.ci,.slice v2.qw v2.nw v2.cw,.int .i64 v2.lo,.int .i64 v2.hi,.bool false]) (.agg #[.int .i64 v4.kind,.string v4.attr,.slice v4.qi v4.ni v4.ci,.slice v4.qw v4.nw v4.cw,.int .i64 v4.lo,.int .i64 v4.hi,.int .i64 v4.op,.slice v4.qk v4.nk v4.ck]) (.agg #[.int .i64 v4.kind,.string v4.attr,.slice v4.qi v4.ni v4.ci,.slice v4.qw v4.nw v4.cw,.int .i64 v4.lo,.int .i64 v4.hi,.bool false]) (.slice (some ⟨M6,0,none⟩) 1 1) (.agg #[.int .i64 v7.kind,.string v7.attr,.slice v7.qi v7.ni v7.ci,.slice v7.qw v7.nw v7.cw,.int .i64 v7.lo,.int .i64 v7.hi,.int .i64 v7.op,.slice v7.qk v7.nk v7.ck]) (.agg #[.int .i64 v7.kind,.string v7.attr,.slice v7.qi v7.ni v7.ci,.slice v7.qw v7.nw v7.cw,.int .i64 v7.lo,.int .i64 v7.hi,.bool true]) (.slice (some ⟨M9,0,none⟩) 4 4) (.tuple #[.agg #[.bool x.never,.slice x.qp x.np x.cp,.slice x.qn x.nn x.cn],.int .i64 0]) (.agg #[.bool x.never,.slice x.qp x.np x.cp,.slice x.qn x.nn x.cn]) (.int .i64 0)) W):=d9 (by
  intro W M14 M6 M9 v4 v7 x R H15 X15
  refine Eq.mpr (hF _ _ _ _) ?_
  rw [hG]
  have hHeld:=KS W (uh R)
  refine wpAnyH_take (i:=16) (oi:=⟨some 4,.assign (.tmp 30),_,_,_,none⟩) (v:=?_) rfl (by kernel_rfl) (by kernel_rfl) (by kernel_rfl) (fun c a w=>(uh HP) c a _ _ w) (Or.inl ⟨by rfl, ?_⟩) (by assumption) ?_
  rotate_left
  ·intro wq hSw
   go_simp
   with_reducible rfl
  simp only [Act.put,List.setIfInBounds_toArray,List.set_cons_zero,List.set_cons_succ]
  refine wpAnyH_done (by kernel_rfl) ?_ _
  exact (uh HQ) W x M14 _ _ _ _ _ _ _ _ _ _ _ _ _ _ (uh R) (uh H15) (uh X15)
  )
 have st1:Hid (∀ (W:World) (M14:Nat) (M6:Nat) (M9:Nat) (v4:Nv) (v7:Nv) (x:Cv),Hid (Below U.heap.size U W)->Hid (NdIn W v4 T3)->Hid (NdIn W v7 T4)->Hid (U.heap.size<=M14)->Hid (W.heap[M14]? = some (.cells #[.bool false,.slice none 0 0,.slice none 0 0] 39 (0,0)))->Hid (W.heap[M6]? = some (.cells #[.int .i64 3] 3 (0,0)))->Hid (W.heap[M9]? = some (.cells #[.int .i64 v1.kind,.string v1.attr,.slice v1.qi v1.ni v1.ci,.slice v1.qw v1.nw v1.cw,.int .i64 v1.lo,.int .i64 v1.hi,.bool false,.int .i64 v2.kind,.string v2.attr,.slice v2.qi v2.ni v2.ci,.slice v2.qw v2.nw v2.cw,.int .i64 v2.lo,.int .i64 v2.hi,.bool false,.int .i64 v4.kind,.string v4.attr,.slice v4.qi v4.ni v4.ci,.slice v4.qw v4.nw v4.cw,.int .i64 v4.lo,.int .i64 v4.hi,.bool false,.int .i64 v7.kind,.string v7.attr,.slice v7.qi v7.ni v7.ci,.slice v7.qw v7.nw v7.cw,.int .i64 v7.lo,.int .i64 v7.hi,.bool true] 64 (0,0)))->Hid (Pq M14 W x ⟨false,[P1,P2],[P3]⟩)->F 2 #[true,true,true,true,true,true,true,true,true,true,true,true,true,true,true,false,false] (G (.pointer (some ⟨M14,0,none⟩)) (.tuple #[.agg #[.bool x.never,.slice x.qp x.np x.cp,.slice x.qn x.nn x.cn],.int .i64 0]) (.agg #[.int .i64 v1.kind,.string v1.attr,.slice v1.qi v1.ni v1.ci,.slice v1.qw v1.nw v1.cw,.int .i64 v1.lo,.int .i64 v1.hi,.int .i64 v1.op,.slice v1.qk v1.nk v1.ck]) (.agg #[.int .i64 v1.kind,.string v1.attr,.slice v1.qi v1.ni v1.ci,.slice v1.qw v1.nw v1.cw,.int .i64 v1.lo,.int .i64 v1.hi,.bool false]) (.agg #[.int .i64 v2.kind,.string v2.attr,.slice v2.qi v2.ni v2.ci,.slice v2.qw v2.nw v2.cw,.int .i64 v2.lo,.int .i64 v2.hi,.int .i64 v2.op,.slice v2.qk v2.nk v2.ck]) (.agg #[.int .i64 v2.kind,.string v2.attr,.slice v2.qi v2.ni v2.ci,.slice v2.qw v2.nw v2.cw,.int .i64 v2.lo,.int .i64 v2.hi,.bool false]) (.agg #[.int .i64 v4.kind,.string v4.attr,.slice v4.qi v4.ni v4.ci,.slice v4.qw v4.nw v4.cw,.int .i64 v4.lo,.int .i64 v4.hi,.int .i64 v4.op,.slice v4.qk v4.nk v4.ck]) (.agg #[.int .i64 v4.kind,.string v4.attr,.slice v4.qi v4.ni v4.ci,.slice v4.qw v4.nw v4.cw,.int .i64 v4.lo,.int .i64 v4.hi,.bool false]) (.slice (some ⟨M6,0,none⟩) 1 1) (.agg #[.int .i64 v7.kind,.string v7.attr,.slice v7.qi v7.ni v7.ci,.slice v7.qw v7.nw v7.cw,.int .i64 v7.lo,.int .i64 v7.hi,.int .i64 v7.op,.slice v7.qk v7.nk v7.ck]) (.agg #[.int .i64 v7.kind,.string v7.attr,.slice v7.qi v7.ni v7.ci,.slice v7.qw v7.nw v7.cw,.int .i64 v7.lo,.int .i64 v7.hi,.bool true]) (.slice (some ⟨M9,0,none⟩) 4 4) (.tuple #[.agg #[.bool x.never,.slice x.qp x.np x.cp,.slice x.qn x.nn x.cn],.int .i64 0]) (.agg #[.bool x.never,.slice x.qp x.np x.cp,.slice x.qn x.nn x.cn]) (.int .i64 0)) W):=d9 (by
  intro W M14 M6 M9 v4 v7 x R F4 F7 G14 H14 H6 H9 X10
  refine Eq.mpr (hF _ _ _ _) ?_
  rw [hG]
  have hHeld:=KS W (uh R)
  refine wpAnyH_ready (rs:=[15]) (by kernel_rfl) (by simp) ?_
  refine AllReadyH.cons (o:=⟨none,.store 39 (.tmp 3) (.tmp 29),_,_,_,none⟩) rfl (fun K hK=>?_) ?_
  ·obtain ⟨y0,y1,y2⟩:=Fj (uh H14)
   have yf:=fun o=>gy (o:=o) (uh H14)
   go_simp
   refine hK.out _ _ (KS _ ((((uh R).setCell (p:=⟨M14,0,none⟩) (uh G14) _).setCell (p:=⟨M14,1,none⟩) (uh G14) _).setCell (p:=⟨M14,2,none⟩) (uh G14) _)) (fun hHeld=>?_)
   clear hK K
   refine Eq.mp (hF _ _ _ _) ?_
   exact kn (uh st0 (((W.setCell ⟨M14,0,none⟩ (.bool x.never)).setCell ⟨M14,1,none⟩ (.slice x.qp x.np x.cp)).setCell ⟨M14,2,none⟩ (.slice x.qn x.nn x.cn)) M14 M6 M9 v4 v7 x (d9 ((((uh R).setCell (p:=⟨M14,0,none⟩) (uh G14) _).setCell (p:=⟨M14,1,none⟩) (uh G14) _).setCell (p:=⟨M14,2,none⟩) (uh G14) _)) (d9 (Hi (uh H14))) (d9 (Gp (uh X10)))) (by kernel_rfl) (hG ..)
  exact AllReadyH.nil
  )
 have st2:Hid (∀ (W:World) (M6:Nat) (M9:Nat) (v4:Nv) (v7:Nv) (x:Cv),Hid (Below U.heap.size U W)->Hid (NdIn W v4 T3)->Hid (NdIn W v7 T4)->Hid (W.heap[M6]? = some (.cells #[.int .i64 3] 3 (0,0)))->Hid (W.heap[M9]? = some (.cells #[.int .i64 v1.kind,.string v1.attr,.slice v1.qi v1.ni v1.ci,.slice v1.qw v1.nw v1.cw,.int .i64 v1.lo,.int .i64 v1.hi,.bool false,.int .i64 v2.kind,.string v2.attr,.slice v2.qi v2.ni v2.ci,.slice v2.qw v2.nw v2.cw,.int .i64 v2.lo,.int .i64 v2.hi,.bool false,.int .i64 v4.kind,.string v4.attr,.slice v4.qi v4.ni v4.ci,.slice v4.qw v4.nw v4.cw,.int .i64 v4.lo,.int .i64 v4.hi,.bool false,.int .i64 v7.kind,.string v7.attr,.slice v7.qi v7.ni v7.ci,.slice v7.qw v7.nw v7.cw,.int .i64 v7.lo,.int .i64 v7.hi,.bool true] 64 (0,0)))->Hid (∃ C,CdNew C W x ⟨false,[P1,P2],[P3]⟩)->F 6 #[true,true,true,true,true,true,true,true,true,true,true,false,false,false,false,false,false] (G ab ap (.agg #[.int .i64 v1.kind,.string v1.attr,.slice v1.qi v1.ni v1.ci,.slice v1.qw v1.nw v1.cw,.int .i64 v1.lo,.int .i64 v1.hi,.int .i64 v1.op,.slice v1.qk v1.nk v1.ck]) (.agg #[.int .i64 v1.kind,.string v1.attr,.slice v1.qi v1.ni v1.ci,.slice v1.qw v1.nw v1.cw,.int .i64 v1.lo,.int .i64 v1.hi,.bool false]) (.agg #[.int .i64 v2.kind,.string v2.attr,.slice v2.qi v2.ni v2.ci,.slice v2.qw v2.nw v2.cw,.int .i64 v2.lo,.int .i64 v2.hi,.int .i64 v2.op,.slice v2.qk v2.nk v2.ck]) (.agg #[.int .i64 v2.kind,.string v2.attr,.slice v2.qi v2.ni v2.ci,.slice v2.qw v2.nw v2.cw,.int .i64 v2.lo,.int .i64 v2.hi,.bool false]) (.agg #[.int .i64 v4.kind,.string v4.attr,.slice v4.qi v4.ni v4.ci,.slice v4.qw v4.nw v4.cw,.int .i64 v4.lo,.int .i64 v4.hi,.int .i64 v4.op,.slice v4.qk v4.nk v4.ck]) (.agg #[.int .i64 v4.kind,.string v4.attr,.slice v4.qi v4.ni v4.ci,.slice v4.qw v4.nw v4.cw,.int .i64 v4.lo,.int .i64 v4.hi,.bool false]) (.slice (some ⟨M6,0,none⟩) 1 1) (.agg #[.int .i64 v7.kind,.string v7.attr,.slice v7.qi v7.ni v7.ci,.slice v7.qw v7.nw v7.cw,.int .i64 v7.lo,.int .i64 v7.hi,.int .i64 v7.op,.slice v7.qk v7.nk v7.ck]) (.agg #[.int .i64 v7.kind,.string v7.attr,.slice v7.qi v7.ni v7.ci,.slice v7.qw v7.nw v7.cw,.int .i64 v7.lo,.int .i64 v7.hi,.bool true]) (.slice (some ⟨M9,0,none⟩) 4 4) (.tuple #[.agg #[.bool x.never,.slice x.qp x.np x.cp,.slice x.qn x.nn x.cn],.int .i64 0]) be bf) W):=d9 (by
  intro W M6 M9 v4 v7 x R F4 F7 H6 H9 X10
  refine Eq.mpr (hF _ _ _ _) ?_
  rw [hG]
  have hHeld:=KS W (uh R)
  refine wpAnyH_take (i:=11) (oi:=⟨some 17,.move (.tmp 28),_,_,_,none⟩) (v:=?_) rfl (by kernel_rfl) (by kernel_rfl) (by kernel_rfl) (fun c a w=>(uh HP) c a _ _ w) (Or.inl ⟨by rfl, ?_⟩) (by assumption) ?_
  rotate_left
  ·intro wq hSw
   go_simp
   with_reducible rfl
  simp only [Act.put,List.setIfInBounds_toArray,List.set_cons_zero,List.set_cons_succ]
  refine wpAnyH_take (i:=12) (oi:=⟨some 29,.extract (.tmp 17) 0,_,_,_,none⟩) (v:=?_) rfl (by kernel_rfl) (by kernel_rfl) (by kernel_rfl) (fun c a w=>(uh HP) c a _ _ w) (Or.inl ⟨by rfl, ?_⟩) (by assumption) ?_
  rotate_left
  ·intro wq hSw
   go_simp
   with_reducible rfl
  simp only [Act.put,List.setIfInBounds_toArray,List.set_cons_zero,List.set_cons_succ]
  refine wpAnyH_take (i:=13) (oi:=⟨some 30,.extract (.tmp 17) 1,_,_,_,none⟩) (v:=?_) rfl (by kernel_rfl) (by kernel_rfl) (by kernel_rfl) (fun c a w=>(uh HP) c a _ _ w) (Or.inl ⟨by rfl, ?_⟩) (by assumption) ?_
  rotate_left
  ·intro wq hSw
   go_simp
   with_reducible rfl
  simp only [Act.put,List.setIfInBounds_toArray,List.set_cons_zero,List.set_cons_succ]
  refine wpAnyH_ready (rs:=[14]) (by kernel_rfl) (by simp) ?_
  refine AllReadyH.cons (o:=⟨some 3,.alloc 39,_,_,_,none⟩) rfl (fun K hK=>?_) ?_
  ·obtain ⟨C,hC⟩:=uh X10
   go_simp
   refine hK.out _ _ (KS _ ((uh R).alloc (uh R).size _)) (fun hHeld=>?_)
   clear hK K
   refine Eq.mp (hF _ _ _ _) ?_
   exact kn (uh st1 (World.alloc W (.cells #[.bool false,.slice none 0 0,.slice none 0 0] 39)) W.heap.size M6 M9 v4 v7 x (d9 ((uh R).alloc (uh R).size _)) (d9 ((uh F4).keep (((Below.refl W.heap.size W).alloc (Nat.le_refl _) (.cells #[.bool false,.slice none 0 0,.slice none 0 0] 39))))) (d9 ((uh F7).keep (((Below.refl W.heap.size W).alloc (Nat.le_refl _) (.cells #[.bool false,.slice none 0 0,.slice none 0 0] 39))))) (d9 (uh R).size) (d9 (jf _ _)) (d9 (((((Below.refl W.heap.size W).alloc (Nat.le_refl _) (.cells #[.bool false,.slice none 0 0,.slice none 0 0] 39))).block _ (jc (uh H6))).trans (uh H6))) (d9 (((((Below.refl W.heap.size W).alloc (Nat.le_refl _) (.cells #[.bool false,.slice none 0 0,.slice none 0 0] 39))).block _ (jc (uh H9))).trans (uh H9))) (d9 (hC.off2 _))) (by kernel_rfl) (hG ..)
  exact AllReadyH.nil
  )
 have st3:Hid (∀ (W:World) (M14:Nat) (M6:Nat) (M9:Nat) (v4:Nv) (v7:Nv) (x:Cv),Hid (Below U.heap.size U W)->Hid (NdIn W v4 T3)->Hid (NdIn W v7 T4)->Hid (U.heap.size<=M14)->Hid (W.heap[M14]? = some (.cells #[.bool false,.slice none 0 0,.slice none 0 0] 39 (0,0)))->Hid (W.heap[M6]? = some (.cells #[.int .i64 3] 3 (0,0)))->Hid (W.heap[M9]? = some (.cells #[.int .i64 v1.kind,.string v1.attr,.slice v1.qi v1.ni v1.ci,.slice v1.qw v1.nw v1.cw,.int .i64 v1.lo,.int .i64 v1.hi,.bool false,.int .i64 v2.kind,.string v2.attr,.slice v2.qi v2.ni v2.ci,.slice v2.qw v2.nw v2.cw,.int .i64 v2.lo,.int .i64 v2.hi,.bool false,.int .i64 v4.kind,.string v4.attr,.slice v4.qi v4.ni v4.ci,.slice v4.qw v4.nw v4.cw,.int .i64 v4.lo,.int .i64 v4.hi,.bool false,.int .i64 v7.kind,.string v7.attr,.slice v7.qi v7.ni v7.ci,.slice v7.qw v7.nw v7.cw,.int .i64 v7.lo,.int .i64 v7.hi,.bool true] 64 (0,0)))->Hid (Pq M14 W x ⟨false,[P1,P2],[P3]⟩)->F 5 #[true,true,true,true,true,true,true,true,true,true,true,false,false,false,true,false,false] (G (.pointer (some ⟨M14,0,none⟩)) ap (.agg #[.int .i64 v1.kind,.string v1.attr,.slice v1.qi v1.ni v1.ci,.slice v1.qw v1.nw v1.cw,.int .i64 v1.lo,.int .i64 v1.hi,.int .i64 v1.op,.slice v1.qk v1.nk v1.ck]) (.agg #[.int .i64 v1.kind,.string v1.attr,.slice v1.qi v1.ni v1.ci,.slice v1.qw v1.nw v1.cw,.int .i64 v1.lo,.int .i64 v1.hi,.bool false]) (.agg #[.int .i64 v2.kind,.string v2.attr,.slice v2.qi v2.ni v2.ci,.slice v2.qw v2.nw v2.cw,.int .i64 v2.lo,.int .i64 v2.hi,.int .i64 v2.op,.slice v2.qk v2.nk v2.ck]) (.agg #[.int .i64 v2.kind,.string v2.attr,.slice v2.qi v2.ni v2.ci,.slice v2.qw v2.nw v2.cw,.int .i64 v2.lo,.int .i64 v2.hi,.bool false]) (.agg #[.int .i64 v4.kind,.string v4.attr,.slice v4.qi v4.ni v4.ci,.slice v4.qw v4.nw v4.cw,.int .i64 v4.lo,.int .i64 v4.hi,.int .i64 v4.op,.slice v4.qk v4.nk v4.ck]) (.agg #[.int .i64 v4.kind,.string v4.attr,.slice v4.qi v4.ni v4.ci,.slice v4.qw v4.nw v4.cw,.int .i64 v4.lo,.int .i64 v4.hi,.bool false]) (.slice (some ⟨M6,0,none⟩) 1 1) (.agg #[.int .i64 v7.kind,.string v7.attr,.slice v7.qi v7.ni v7.ci,.slice v7.qw v7.nw v7.cw,.int .i64 v7.lo,.int .i64 v7.hi,.int .i64 v7.op,.slice v7.qk v7.nk v7.ck]) (.agg #[.int .i64 v7.kind,.string v7.attr,.slice v7.qi v7.ni v7.ci,.slice v7.qw v7.nw v7.cw,.int .i64 v7.lo,.int .i64 v7.hi,.bool true]) (.slice (some ⟨M9,0,none⟩) 4 4) (.tuple #[.agg #[.bool x.never,.slice x.qp x.np x.cp,.slice x.qn x.nn x.cn],.int .i64 0]) be bf) W):=d9 (by
  intro W M14 M6 M9 v4 v7 x R F4 F7 G14 H14 H6 H9 X10
  refine Eq.mpr (hF _ _ _ _) ?_
  rw [hG]
  have hHeld:=KS W (uh R)
  refine wpAnyH_take (i:=11) (oi:=⟨some 17,.move (.tmp 28),_,_,_,none⟩) (v:=?_) rfl (by kernel_rfl) (by kernel_rfl) (by kernel_rfl) (fun c a w=>(uh HP) c a _ _ w) (Or.inl ⟨by rfl, ?_⟩) (by assumption) ?_
  rotate_left
  ·intro wq hSw
   go_simp
   with_reducible rfl
  simp only [Act.put,List.setIfInBounds_toArray,List.set_cons_zero,List.set_cons_succ]
  refine wpAnyH_take (i:=12) (oi:=⟨some 29,.extract (.tmp 17) 0,_,_,_,none⟩) (v:=?_) rfl (by kernel_rfl) (by kernel_rfl) (by kernel_rfl) (fun c a w=>(uh HP) c a _ _ w) (Or.inl ⟨by rfl, ?_⟩) (by assumption) ?_
  rotate_left
  ·intro wq hSw
   go_simp
   with_reducible rfl
  simp only [Act.put,List.setIfInBounds_toArray,List.set_cons_zero,List.set_cons_succ]
  refine wpAnyH_take (i:=13) (oi:=⟨some 30,.extract (.tmp 17) 1,_,_,_,none⟩) (v:=?_) rfl (by kernel_rfl) (by kernel_rfl) (by kernel_rfl) (fun c a w=>(uh HP) c a _ _ w) (Or.inl ⟨by rfl, ?_⟩) (by assumption) ?_
  rotate_left
  ·intro wq hSw
   go_simp
   with_reducible rfl
  simp only [Act.put,List.setIfInBounds_toArray,List.set_cons_zero,List.set_cons_succ]
  refine wpAnyH_ready (rs:=[15]) (by kernel_rfl) (by simp) ?_
  refine AllReadyH.cons (o:=⟨none,.store 39 (.tmp 3) (.tmp 29),_,_,_,none⟩) rfl (fun K hK=>?_) ?_
  ·obtain ⟨y0,y1,y2⟩:=Fj (uh H14)
   have yf:=fun o=>gy (o:=o) (uh H14)
   go_simp
   refine hK.out _ _ (KS _ ((((uh R).setCell (p:=⟨M14,0,none⟩) (uh G14) _).setCell (p:=⟨M14,1,none⟩) (uh G14) _).setCell (p:=⟨M14,2,none⟩) (uh G14) _)) (fun hHeld=>?_)
   clear hK K
   refine Eq.mp (hF _ _ _ _) ?_
   exact kn (uh st0 (((W.setCell ⟨M14,0,none⟩ (.bool x.never)).setCell ⟨M14,1,none⟩ (.slice x.qp x.np x.cp)).setCell ⟨M14,2,none⟩ (.slice x.qn x.nn x.cn)) M14 M6 M9 v4 v7 x (d9 ((((uh R).setCell (p:=⟨M14,0,none⟩) (uh G14) _).setCell (p:=⟨M14,1,none⟩) (uh G14) _).setCell (p:=⟨M14,2,none⟩) (uh G14) _)) (d9 (Hi (uh H14))) (d9 (Gp (uh X10)))) (by kernel_rfl) (hG ..)
  exact AllReadyH.nil
  )
 have st4:Hid (∀ (W:World) (M14:Nat) (M6:Nat) (M9:Nat) (v4:Nv) (v7:Nv),Hid (Below U.heap.size U W)->Hid (NdIn W v4 T3)->Hid (NdIn W v7 T4)->Hid (U.heap.size<=M14)->Hid (W.heap[M14]? = some (.cells #[.bool false,.slice none 0 0,.slice none 0 0] 39 (0,0)))->Hid (W.heap[M6]? = some (.cells #[.int .i64 3] 3 (0,0)))->Hid (W.heap[M9]? = some (.cells #[.int .i64 v1.kind,.string v1.attr,.slice v1.qi v1.ni v1.ci,.slice v1.qw v1.nw v1.cw,.int .i64 v1.lo,.int .i64 v1.hi,.bool false,.int .i64 v2.kind,.string v2.attr,.slice v2.qi v2.ni v2.ci,.slice v2.qw v2.nw v2.cw,.int .i64 v2.lo,.int .i64 v2.hi,.bool false,.int .i64 v4.kind,.string v4.attr,.slice v4.qi v4.ni v4.ci,.slice v4.qw v4.nw v4.cw,.int .i64 v4.lo,.int .i64 v4.hi,.bool false,.int .i64 v7.kind,.string v7.attr,.slice v7.qi v7.ni v7.ci,.slice v7.qw v7.nw v7.cw,.int .i64 v7.lo,.int .i64 v7.hi,.bool true] 64 (0,0)))->F 6 #[true,true,true,true,true,true,true,true,true,true,false,false,false,false,true,false,false] (G (.pointer (some ⟨M14,0,none⟩)) ap (.agg #[.int .i64 v1.kind,.string v1.attr,.slice v1.qi v1.ni v1.ci,.slice v1.qw v1.nw v1.cw,.int .i64 v1.lo,.int .i64 v1.hi,.int .i64 v1.op,.slice v1.qk v1.nk v1.ck]) (.agg #[.int .i64 v1.kind,.string v1.attr,.slice v1.qi v1.ni v1.ci,.slice v1.qw v1.nw v1.cw,.int .i64 v1.lo,.int .i64 v1.hi,.bool false]) (.agg #[.int .i64 v2.kind,.string v2.attr,.slice v2.qi v2.ni v2.ci,.slice v2.qw v2.nw v2.cw,.int .i64 v2.lo,.int .i64 v2.hi,.int .i64 v2.op,.slice v2.qk v2.nk v2.ck]) (.agg #[.int .i64 v2.kind,.string v2.attr,.slice v2.qi v2.ni v2.ci,.slice v2.qw v2.nw v2.cw,.int .i64 v2.lo,.int .i64 v2.hi,.bool false]) (.agg #[.int .i64 v4.kind,.string v4.attr,.slice v4.qi v4.ni v4.ci,.slice v4.qw v4.nw v4.cw,.int .i64 v4.lo,.int .i64 v4.hi,.int .i64 v4.op,.slice v4.qk v4.nk v4.ck]) (.agg #[.int .i64 v4.kind,.string v4.attr,.slice v4.qi v4.ni v4.ci,.slice v4.qw v4.nw v4.cw,.int .i64 v4.lo,.int .i64 v4.hi,.bool false]) (.slice (some ⟨M6,0,none⟩) 1 1) (.agg #[.int .i64 v7.kind,.string v7.attr,.slice v7.qi v7.ni v7.ci,.slice v7.qw v7.nw v7.cw,.int .i64 v7.lo,.int .i64 v7.hi,.int .i64 v7.op,.slice v7.qk v7.nk v7.ck]) (.agg #[.int .i64 v7.kind,.string v7.attr,.slice v7.qi v7.ni v7.ci,.slice v7.qw v7.nw v7.cw,.int .i64 v7.lo,.int .i64 v7.hi,.bool true]) (.slice (some ⟨M9,0,none⟩) 4 4) bd be bf) W):=d9 (by
  intro W M14 M6 M9 v4 v7 R F4 F7 G14 H14 H6 H9
  refine Eq.mpr (hF _ _ _ _) ?_
  rw [hG]
  have hHeld:=KS W (uh R)
  refine wpAnyH_ready (rs:=[10]) (by kernel_rfl) (by simp) ?_
  refine AllReadyH.cons (o:=⟨some 28,.call { callee:=.value (.func 24),args:=#[.tmp 27],argTypes:=#[37] },_,_,_,none⟩) rfl (fun K hK=>?_) ?_
  ·go_simp
   refine (Xj v1 v2 v4 v7 M9 _ (uh H9) ((uh N1).keep (uh R)) ((uh N2).keep (uh R)) (uh F4) (uh F7)).mono ?_
   rintro e W1 ⟨⟨x,rfl,bn⟩,bb⟩
   refine hK.out _ _ (KS _ (d8 (uh R) bb)) (fun hHeld=>?_)
   clear hK K
   refine Eq.mp (hF _ _ _ _) ?_
   exact kn (uh st3 W1 M14 M6 M9 v4 v7 x (d9 (d8 (uh R) bb)) (d9 ((uh F4).keep (bb))) (d9 ((uh F7).keep (bb))) G14 (d9 (((bb).block _ (jc (uh H14))).trans (uh H14))) (d9 (((bb).block _ (jc (uh H6))).trans (uh H6))) (d9 (((bb).block _ (jc (uh H9))).trans (uh H9))) (d9 (bn.off (jc (uh H14))))) (by kernel_rfl) (hG ..)
  exact AllReadyH.nil
  )
 have st5:Hid (∀ (W:World) (M6:Nat) (M9:Nat) (v4:Nv) (v7:Nv),Hid (Below U.heap.size U W)->Hid (NdIn W v4 T3)->Hid (NdIn W v7 T4)->Hid (W.heap[M6]? = some (.cells #[.int .i64 3] 3 (0,0)))->Hid (W.heap[M9]? = some (.cells #[.int .i64 v1.kind,.string v1.attr,.slice v1.qi v1.ni v1.ci,.slice v1.qw v1.nw v1.cw,.int .i64 v1.lo,.int .i64 v1.hi,.bool false,.int .i64 v2.kind,.string v2.attr,.slice v2.qi v2.ni v2.ci,.slice v2.qw v2.nw v2.cw,.int .i64 v2.lo,.int .i64 v2.hi,.bool false,.int .i64 v4.kind,.string v4.attr,.slice v4.qi v4.ni v4.ci,.slice v4.qw v4.nw v4.cw,.int .i64 v4.lo,.int .i64 v4.hi,.bool false,.int .i64 v7.kind,.string v7.attr,.slice v7.qi v7.ni v7.ci,.slice v7.qw v7.nw v7.cw,.int .i64 v7.lo,.int .i64 v7.hi,.bool true] 64 (0,0)))->F 7 #[true,true,true,true,true,true,true,true,true,true,false,false,false,false,false,false,false] (G ab ap (.agg #[.int .i64 v1.kind,.string v1.attr,.slice v1.qi v1.ni v1.ci,.slice v1.qw v1.nw v1.cw,.int .i64 v1.lo,.int .i64 v1.hi,.int .i64 v1.op,.slice v1.qk v1.nk v1.ck]) (.agg #[.int .i64 v1.kind,.string v1.attr,.slice v1.qi v1.ni v1.ci,.slice v1.qw v1.nw v1.cw,.int .i64 v1.lo,.int .i64 v1.hi,.bool false]) (.agg #[.int .i64 v2.kind,.string v2.attr,.slice v2.qi v2.ni v2.ci,.slice v2.qw v2.nw v2.cw,.int .i64 v2.lo,.int .i64 v2.hi,.int .i64 v2.op,.slice v2.qk v2.nk v2.ck]) (.agg #[.int .i64 v2.kind,.string v2.attr,.slice v2.qi v2.ni v2.ci,.slice v2.qw v2.nw v2.cw,.int .i64 v2.lo,.int .i64 v2.hi,.bool false]) (.agg #[.int .i64 v4.kind,.string v4.attr,.slice v4.qi v4.ni v4.ci,.slice v4.qw v4.nw v4.cw,.int .i64 v4.lo,.int .i64 v4.hi,.int .i64 v4.op,.slice v4.qk v4.nk v4.ck]) (.agg #[.int .i64 v4.kind,.string v4.attr,.slice v4.qi v4.ni v4.ci,.slice v4.qw v4.nw v4.cw,.int .i64 v4.lo,.int .i64 v4.hi,.bool false]) (.slice (some ⟨M6,0,none⟩) 1 1) (.agg #[.int .i64 v7.kind,.string v7.attr,.slice v7.qi v7.ni v7.ci,.slice v7.qw v7.nw v7.cw,.int .i64 v7.lo,.int .i64 v7.hi,.int .i64 v7.op,.slice v7.qk v7.nk v7.ck]) (.agg #[.int .i64 v7.kind,.string v7.attr,.slice v7.qi v7.ni v7.ci,.slice v7.qw v7.nw v7.cw,.int .i64 v7.lo,.int .i64 v7.hi,.bool true]) (.slice (some ⟨M9,0,none⟩) 4 4) bd be bf) W):=d9 (by
  intro W M6 M9 v4 v7 R F4 F7 H6 H9
  refine Eq.mpr (hF _ _ _ _) ?_
  rw [hG]
  have hHeld:=KS W (uh R)
  refine wpAnyH_ready (rs:=[10,14]) (by kernel_rfl) (by simp) ?_
  refine AllReadyH.cons (o:=⟨some 28,.call { callee:=.value (.func 24),args:=#[.tmp 27],argTypes:=#[37] },_,_,_,none⟩) rfl (fun K hK=>?_) ?_
  ·go_simp
   refine (Xj v1 v2 v4 v7 M9 _ (uh H9) ((uh N1).keep (uh R)) ((uh N2).keep (uh R)) (uh F4) (uh F7)).mono ?_
   rintro e W1 ⟨⟨x,rfl,bn⟩,bb⟩
   refine hK.out _ _ (KS _ (d8 (uh R) bb)) (fun hHeld=>?_)
   clear hK K
   refine Eq.mp (hF _ _ _ _) ?_
   exact kn (uh st2 W1 M6 M9 v4 v7 x (d9 (d8 (uh R) bb)) (d9 ((uh F4).keep (bb))) (d9 ((uh F7).keep (bb))) (d9 (((bb).block _ (jc (uh H6))).trans (uh H6))) (d9 (((bb).block _ (jc (uh H9))).trans (uh H9))) (d9 ⟨_,bn⟩)) (by kernel_rfl) (hG ..)
  refine AllReadyH.cons (o:=⟨some 3,.alloc 39,_,_,_,none⟩) rfl (fun K hK=>?_) ?_
  ·go_simp
   refine hK.out _ _ (KS _ ((uh R).alloc (uh R).size _)) (fun hHeld=>?_)
   clear hK K
   refine Eq.mp (hF _ _ _ _) ?_
   exact kn (uh st4 (World.alloc W (.cells #[.bool false,.slice none 0 0,.slice none 0 0] 39)) W.heap.size M6 M9 v4 v7 (d9 ((uh R).alloc (uh R).size _)) (d9 ((uh F4).keep (((Below.refl W.heap.size W).alloc (Nat.le_refl _) (.cells #[.bool false,.slice none 0 0,.slice none 0 0] 39))))) (d9 ((uh F7).keep (((Below.refl W.heap.size W).alloc (Nat.le_refl _) (.cells #[.bool false,.slice none 0 0,.slice none 0 0] 39))))) (d9 (uh R).size) (d9 (jf _ _)) (d9 (((((Below.refl W.heap.size W).alloc (Nat.le_refl _) (.cells #[.bool false,.slice none 0 0,.slice none 0 0] 39))).block _ (jc (uh H6))).trans (uh H6))) (d9 (((((Below.refl W.heap.size W).alloc (Nat.le_refl _) (.cells #[.bool false,.slice none 0 0,.slice none 0 0] 39))).block _ (jc (uh H9))).trans (uh H9)))) (by kernel_rfl) (hG ..)
  exact AllReadyH.nil
  )
 have st6:Hid (∀ (W:World) (M14:Nat) (M6:Nat) (v4:Nv) (v7:Nv),Hid (Below U.heap.size U W)->Hid (NdIn W v4 T3)->Hid (NdIn W v7 T4)->Hid (U.heap.size<=M14)->Hid (W.heap[M14]? = some (.cells #[.bool false,.slice none 0 0,.slice none 0 0] 39 (0,0)))->Hid (W.heap[M6]? = some (.cells #[.int .i64 3] 3 (0,0)))->F 7 #[true,true,true,true,true,true,true,true,true,false,false,false,false,false,true,false,false] (G (.pointer (some ⟨M14,0,none⟩)) ap (.agg #[.int .i64 v1.kind,.string v1.attr,.slice v1.qi v1.ni v1.ci,.slice v1.qw v1.nw v1.cw,.int .i64 v1.lo,.int .i64 v1.hi,.int .i64 v1.op,.slice v1.qk v1.nk v1.ck]) (.agg #[.int .i64 v1.kind,.string v1.attr,.slice v1.qi v1.ni v1.ci,.slice v1.qw v1.nw v1.cw,.int .i64 v1.lo,.int .i64 v1.hi,.bool false]) (.agg #[.int .i64 v2.kind,.string v2.attr,.slice v2.qi v2.ni v2.ci,.slice v2.qw v2.nw v2.cw,.int .i64 v2.lo,.int .i64 v2.hi,.int .i64 v2.op,.slice v2.qk v2.nk v2.ck]) (.agg #[.int .i64 v2.kind,.string v2.attr,.slice v2.qi v2.ni v2.ci,.slice v2.qw v2.nw v2.cw,.int .i64 v2.lo,.int .i64 v2.hi,.bool false]) (.agg #[.int .i64 v4.kind,.string v4.attr,.slice v4.qi v4.ni v4.ci,.slice v4.qw v4.nw v4.cw,.int .i64 v4.lo,.int .i64 v4.hi,.int .i64 v4.op,.slice v4.qk v4.nk v4.ck]) (.agg #[.int .i64 v4.kind,.string v4.attr,.slice v4.qi v4.ni v4.ci,.slice v4.qw v4.nw v4.cw,.int .i64 v4.lo,.int .i64 v4.hi,.bool false]) (.slice (some ⟨M6,0,none⟩) 1 1) (.agg #[.int .i64 v7.kind,.string v7.attr,.slice v7.qi v7.ni v7.ci,.slice v7.qw v7.nw v7.cw,.int .i64 v7.lo,.int .i64 v7.hi,.int .i64 v7.op,.slice v7.qk v7.nk v7.ck]) (.agg #[.int .i64 v7.kind,.string v7.attr,.slice v7.qi v7.ni v7.ci,.slice v7.qw v7.nw v7.cw,.int .i64 v7.lo,.int .i64 v7.hi,.bool true]) bc bd be bf) W):=d9 (by
  intro W M14 M6 v4 v7 R F4 F7 G14 H14 H6
  refine Eq.mpr (hF _ _ _ _) ?_
  rw [hG]
  have hHeld:=KS W (uh R)
  refine wpAnyH_ready (rs:=[9]) (by kernel_rfl) (by simp) ?_
  refine AllReadyH.cons (o:=⟨some 27,.buildSlice 37 4 #[(0,.tmp 19),(1,.tmp 21),(2,.tmp 23),(3,.tmp 26)],_,_,_,none⟩) rfl (fun K hK=>?_) ?_
  ·go_simp
   refine hK.out _ _ (KS _ ((uh R).alloc (uh R).size _)) (fun hHeld=>?_)
   clear hK K
   refine Eq.mp (hF _ _ _ _) ?_
   exact kn (uh st4 (World.alloc W (.cells #[.int .i64 v1.kind,.string v1.attr,.slice v1.qi v1.ni v1.ci,.slice v1.qw v1.nw v1.cw,.int .i64 v1.lo,.int .i64 v1.hi,.bool false,.int .i64 v2.kind,.string v2.attr,.slice v2.qi v2.ni v2.ci,.slice v2.qw v2.nw v2.cw,.int .i64 v2.lo,.int .i64 v2.hi,.bool false,.int .i64 v4.kind,.string v4.attr,.slice v4.qi v4.ni v4.ci,.slice v4.qw v4.nw v4.cw,.int .i64 v4.lo,.int .i64 v4.hi,.bool false,.int .i64 v7.kind,.string v7.attr,.slice v7.qi v7.ni v7.ci,.slice v7.qw v7.nw v7.cw,.int .i64 v7.lo,.int .i64 v7.hi,.bool true] 64)) M14 M6 W.heap.size v4 v7 (d9 ((uh R).alloc (uh R).size _)) (d9 ((uh F4).keep (((Below.refl W.heap.size W).alloc (Nat.le_refl _) (.cells #[.int .i64 v1.kind,.string v1.attr,.slice v1.qi v1.ni v1.ci,.slice v1.qw v1.nw v1.cw,.int .i64 v1.lo,.int .i64 v1.hi,.bool false,.int .i64 v2.kind,.string v2.attr,.slice v2.qi v2.ni v2.ci,.slice v2.qw v2.nw v2.cw,.int .i64 v2.lo,.int .i64 v2.hi,.bool false,.int .i64 v4.kind,.string v4.attr,.slice v4.qi v4.ni v4.ci,.slice v4.qw v4.nw v4.cw,.int .i64 v4.lo,.int .i64 v4.hi,.bool false,.int .i64 v7.kind,.string v7.attr,.slice v7.qi v7.ni v7.ci,.slice v7.qw v7.nw v7.cw,.int .i64 v7.lo,.int .i64 v7.hi,.bool true] 64))))) (d9 ((uh F7).keep (((Below.refl W.heap.size W).alloc (Nat.le_refl _) (.cells #[.int .i64 v1.kind,.string v1.attr,.slice v1.qi v1.ni v1.ci,.slice v1.qw v1.nw v1.cw,.int .i64 v1.lo,.int .i64 v1.hi,.bool false,.int .i64 v2.kind,.string v2.attr,.slice v2.qi v2.ni v2.ci,.slice v2.qw v2.nw v2.cw,.int .i64 v2.lo,.int .i64 v2.hi,.bool false,.int .i64 v4.kind,.string v4.attr,.slice v4.qi v4.ni v4.ci,.slice v4.qw v4.nw v4.cw,.int .i64 v4.lo,.int .i64 v4.hi,.bool false,.int .i64 v7.kind,.string v7.attr,.slice v7.qi v7.ni v7.ci,.slice v7.qw v7.nw v7.cw,.int .i64 v7.lo,.int .i64 v7.hi,.bool true] 64))))) G14 (d9 (((((Below.refl W.heap.size W).alloc (Nat.le_refl _) (.cells #[.int .i64 v1.kind,.string v1.attr,.slice v1.qi v1.ni v1.ci,.slice v1.qw v1.nw v1.cw,.int .i64 v1.lo,.int .i64 v1.hi,.bool false,.int .i64 v2.kind,.string v2.attr,.slice v2.qi v2.ni v2.ci,.slice v2.qw v2.nw v2.cw,.int .i64 v2.lo,.int .i64 v2.hi,.bool false,.int .i64 v4.kind,.string v4.attr,.slice v4.qi v4.ni v4.ci,.slice v4.qw v4.nw v4.cw,.int .i64 v4.lo,.int .i64 v4.hi,.bool false,.int .i64 v7.kind,.string v7.attr,.slice v7.qi v7.ni v7.ci,.slice v7.qw v7.nw v7.cw,.int .i64 v7.lo,.int .i64 v7.hi,.bool true] 64))).block _ (jc (uh H14))).trans (uh H14))) (d9 (((((Below.refl W.heap.size W).alloc (Nat.le_refl _) (.cells #[.int .i64 v1.kind,.string v1.attr,.slice v1.qi v1.ni v1.ci,.slice v1.qw v1.nw v1.cw,.int .i64 v1.lo,.int .i64 v1.hi,.bool false,.int .i64 v2.kind,.string v2.attr,.slice v2.qi v2.ni v2.ci,.slice v2.qw v2.nw v2.cw,.int .i64 v2.lo,.int .i64 v2.hi,.bool false,.int .i64 v4.kind,.string v4.attr,.slice v4.qi v4.ni v4.ci,.slice v4.qw v4.nw v4.cw,.int .i64 v4.lo,.int .i64 v4.hi,.bool false,.int .i64 v7.kind,.string v7.attr,.slice v7.qi v7.ni v7.ci,.slice v7.qw v7.nw v7.cw,.int .i64 v7.lo,.int .i64 v7.hi,.bool true] 64))).block _ (jc (uh H6))).trans (uh H6))) (d9 (jf _ _))) (by kernel_rfl) (hG ..)
  exact AllReadyH.nil
  )
 have st7:Hid (∀ (W:World) (M6:Nat) (v4:Nv) (v7:Nv),Hid (Below U.heap.size U W)->Hid (NdIn W v4 T3)->Hid (NdIn W v7 T4)->Hid (W.heap[M6]? = some (.cells #[.int .i64 3] 3 (0,0)))->F 8 #[true,true,true,true,true,true,true,true,true,false,false,false,false,false,false,false,false] (G ab ap (.agg #[.int .i64 v1.kind,.string v1.attr,.slice v1.qi v1.ni v1.ci,.slice v1.qw v1.nw v1.cw,.int .i64 v1.lo,.int .i64 v1.hi,.int .i64 v1.op,.slice v1.qk v1.nk v1.ck]) (.agg #[.int .i64 v1.kind,.string v1.attr,.slice v1.qi v1.ni v1.ci,.slice v1.qw v1.nw v1.cw,.int .i64 v1.lo,.int .i64 v1.hi,.bool false]) (.agg #[.int .i64 v2.kind,.string v2.attr,.slice v2.qi v2.ni v2.ci,.slice v2.qw v2.nw v2.cw,.int .i64 v2.lo,.int .i64 v2.hi,.int .i64 v2.op,.slice v2.qk v2.nk v2.ck]) (.agg #[.int .i64 v2.kind,.string v2.attr,.slice v2.qi v2.ni v2.ci,.slice v2.qw v2.nw v2.cw,.int .i64 v2.lo,.int .i64 v2.hi,.bool false]) (.agg #[.int .i64 v4.kind,.string v4.attr,.slice v4.qi v4.ni v4.ci,.slice v4.qw v4.nw v4.cw,.int .i64 v4.lo,.int .i64 v4.hi,.int .i64 v4.op,.slice v4.qk v4.nk v4.ck]) (.agg #[.int .i64 v4.kind,.string v4.attr,.slice v4.qi v4.ni v4.ci,.slice v4.qw v4.nw v4.cw,.int .i64 v4.lo,.int .i64 v4.hi,.bool false]) (.slice (some ⟨M6,0,none⟩) 1 1) (.agg #[.int .i64 v7.kind,.string v7.attr,.slice v7.qi v7.ni v7.ci,.slice v7.qw v7.nw v7.cw,.int .i64 v7.lo,.int .i64 v7.hi,.int .i64 v7.op,.slice v7.qk v7.nk v7.ck]) (.agg #[.int .i64 v7.kind,.string v7.attr,.slice v7.qi v7.ni v7.ci,.slice v7.qw v7.nw v7.cw,.int .i64 v7.lo,.int .i64 v7.hi,.bool true]) bc bd be bf) W):=d9 (by
  intro W M6 v4 v7 R F4 F7 H6
  refine Eq.mpr (hF _ _ _ _) ?_
  rw [hG]
  have hHeld:=KS W (uh R)
  refine wpAnyH_ready (rs:=[9,14]) (by kernel_rfl) (by simp) ?_
  refine AllReadyH.cons (o:=⟨some 27,.buildSlice 37 4 #[(0,.tmp 19),(1,.tmp 21),(2,.tmp 23),(3,.tmp 26)],_,_,_,none⟩) rfl (fun K hK=>?_) ?_
  ·go_simp
   refine hK.out _ _ (KS _ ((uh R).alloc (uh R).size _)) (fun hHeld=>?_)
   clear hK K
   refine Eq.mp (hF _ _ _ _) ?_
   exact kn (uh st5 (World.alloc W (.cells #[.int .i64 v1.kind,.string v1.attr,.slice v1.qi v1.ni v1.ci,.slice v1.qw v1.nw v1.cw,.int .i64 v1.lo,.int .i64 v1.hi,.bool false,.int .i64 v2.kind,.string v2.attr,.slice v2.qi v2.ni v2.ci,.slice v2.qw v2.nw v2.cw,.int .i64 v2.lo,.int .i64 v2.hi,.bool false,.int .i64 v4.kind,.string v4.attr,.slice v4.qi v4.ni v4.ci,.slice v4.qw v4.nw v4.cw,.int .i64 v4.lo,.int .i64 v4.hi,.bool false,.int .i64 v7.kind,.string v7.attr,.slice v7.qi v7.ni v7.ci,.slice v7.qw v7.nw v7.cw,.int .i64 v7.lo,.int .i64 v7.hi,.bool true] 64)) M6 W.heap.size v4 v7 (d9 ((uh R).alloc (uh R).size _)) (d9 ((uh F4).keep (((Below.refl W.heap.size W).alloc (Nat.le_refl _) (.cells #[.int .i64 v1.kind,.string v1.attr,.slice v1.qi v1.ni v1.ci,.slice v1.qw v1.nw v1.cw,.int .i64 v1.lo,.int .i64 v1.hi,.bool false,.int .i64 v2.kind,.string v2.attr,.slice v2.qi v2.ni v2.ci,.slice v2.qw v2.nw v2.cw,.int .i64 v2.lo,.int .i64 v2.hi,.bool false,.int .i64 v4.kind,.string v4.attr,.slice v4.qi v4.ni v4.ci,.slice v4.qw v4.nw v4.cw,.int .i64 v4.lo,.int .i64 v4.hi,.bool false,.int .i64 v7.kind,.string v7.attr,.slice v7.qi v7.ni v7.ci,.slice v7.qw v7.nw v7.cw,.int .i64 v7.lo,.int .i64 v7.hi,.bool true] 64))))) (d9 ((uh F7).keep (((Below.refl W.heap.size W).alloc (Nat.le_refl _) (.cells #[.int .i64 v1.kind,.string v1.attr,.slice v1.qi v1.ni v1.ci,.slice v1.qw v1.nw v1.cw,.int .i64 v1.lo,.int .i64 v1.hi,.bool false,.int .i64 v2.kind,.string v2.attr,.slice v2.qi v2.ni v2.ci,.slice v2.qw v2.nw v2.cw,.int .i64 v2.lo,.int .i64 v2.hi,.bool false,.int .i64 v4.kind,.string v4.attr,.slice v4.qi v4.ni v4.ci,.slice v4.qw v4.nw v4.cw,.int .i64 v4.lo,.int .i64 v4.hi,.bool false,.int .i64 v7.kind,.string v7.attr,.slice v7.qi v7.ni v7.ci,.slice v7.qw v7.nw v7.cw,.int .i64 v7.lo,.int .i64 v7.hi,.bool true] 64))))) (d9 (((((Below.refl W.heap.size W).alloc (Nat.le_refl _) (.cells #[.int .i64 v1.kind,.string v1.attr,.slice v1.qi v1.ni v1.ci,.slice v1.qw v1.nw v1.cw,.int .i64 v1.lo,.int .i64 v1.hi,.bool false,.int .i64 v2.kind,.string v2.attr,.slice v2.qi v2.ni v2.ci,.slice v2.qw v2.nw v2.cw,.int .i64 v2.lo,.int .i64 v2.hi,.bool false,.int .i64 v4.kind,.string v4.attr,.slice v4.qi v4.ni v4.ci,.slice v4.qw v4.nw v4.cw,.int .i64 v4.lo,.int .i64 v4.hi,.bool false,.int .i64 v7.kind,.string v7.attr,.slice v7.qi v7.ni v7.ci,.slice v7.qw v7.nw v7.cw,.int .i64 v7.lo,.int .i64 v7.hi,.bool true] 64))).block _ (jc (uh H6))).trans (uh H6))) (d9 (jf _ _))) (by kernel_rfl) (hG ..)
  refine AllReadyH.cons (o:=⟨some 3,.alloc 39,_,_,_,none⟩) rfl (fun K hK=>?_) ?_
  ·go_simp
   refine hK.out _ _ (KS _ ((uh R).alloc (uh R).size _)) (fun hHeld=>?_)
   clear hK K
   refine Eq.mp (hF _ _ _ _) ?_
   exact kn (uh st6 (World.alloc W (.cells #[.bool false,.slice none 0 0,.slice none 0 0] 39)) W.heap.size M6 v4 v7 (d9 ((uh R).alloc (uh R).size _)) (d9 ((uh F4).keep (((Below.refl W.heap.size W).alloc (Nat.le_refl _) (.cells #[.bool false,.slice none 0 0,.slice none 0 0] 39))))) (d9 ((uh F7).keep (((Below.refl W.heap.size W).alloc (Nat.le_refl _) (.cells #[.bool false,.slice none 0 0,.slice none 0 0] 39))))) (d9 (uh R).size) (d9 (jf _ _)) (d9 (((((Below.refl W.heap.size W).alloc (Nat.le_refl _) (.cells #[.bool false,.slice none 0 0,.slice none 0 0] 39))).block _ (jc (uh H6))).trans (uh H6)))) (by kernel_rfl) (hG ..)
  exact AllReadyH.nil
  )
 have st8:Hid (∀ (W:World) (M14:Nat) (M6:Nat) (v4:Nv) (v7:Nv),Hid (Below U.heap.size U W)->Hid (NdIn W v4 T3)->Hid (NdIn W v7 T4)->Hid (U.heap.size<=M14)->Hid (W.heap[M14]? = some (.cells #[.bool false,.slice none 0 0,.slice none 0 0] 39 (0,0)))->Hid (W.heap[M6]? = some (.cells #[.int .i64 3] 3 (0,0)))->F 8 #[true,true,true,true,true,true,true,true,false,false,false,false,false,false,true,false,false] (G (.pointer (some ⟨M14,0,none⟩)) ap (.agg #[.int .i64 v1.kind,.string v1.attr,.slice v1.qi v1.ni v1.ci,.slice v1.qw v1.nw v1.cw,.int .i64 v1.lo,.int .i64 v1.hi,.int .i64 v1.op,.slice v1.qk v1.nk v1.ck]) (.agg #[.int .i64 v1.kind,.string v1.attr,.slice v1.qi v1.ni v1.ci,.slice v1.qw v1.nw v1.cw,.int .i64 v1.lo,.int .i64 v1.hi,.bool false]) (.agg #[.int .i64 v2.kind,.string v2.attr,.slice v2.qi v2.ni v2.ci,.slice v2.qw v2.nw v2.cw,.int .i64 v2.lo,.int .i64 v2.hi,.int .i64 v2.op,.slice v2.qk v2.nk v2.ck]) (.agg #[.int .i64 v2.kind,.string v2.attr,.slice v2.qi v2.ni v2.ci,.slice v2.qw v2.nw v2.cw,.int .i64 v2.lo,.int .i64 v2.hi,.bool false]) (.agg #[.int .i64 v4.kind,.string v4.attr,.slice v4.qi v4.ni v4.ci,.slice v4.qw v4.nw v4.cw,.int .i64 v4.lo,.int .i64 v4.hi,.int .i64 v4.op,.slice v4.qk v4.nk v4.ck]) (.agg #[.int .i64 v4.kind,.string v4.attr,.slice v4.qi v4.ni v4.ci,.slice v4.qw v4.nw v4.cw,.int .i64 v4.lo,.int .i64 v4.hi,.bool false]) (.slice (some ⟨M6,0,none⟩) 1 1) (.agg #[.int .i64 v7.kind,.string v7.attr,.slice v7.qi v7.ni v7.ci,.slice v7.qw v7.nw v7.cw,.int .i64 v7.lo,.int .i64 v7.hi,.int .i64 v7.op,.slice v7.qk v7.nk v7.ck]) ba bc bd be bf) W):=d9 (by
  intro W M14 M6 v4 v7 R F4 F7 G14 H14 H6
  refine Eq.mpr (hF _ _ _ _) ?_
  rw [hG]
  have hHeld:=KS W (uh R)
  refine wpAnyH_ready (rs:=[8]) (by kernel_rfl) (by simp) ?_
  refine AllReadyH.cons (o:=⟨some 26,.call { callee:=.value (.func 45),args:=#[.tmp 25,.const (.bool true)],argTypes:=#[56,4] },_,_,_,none⟩) rfl (fun K hK=>?_) ?_
  ·go_simp
   refine (Fs v7 true _).mono ?_
   rintro e W1 ⟨rfl,bb⟩
   refine hK.out _ _ (KS _ (d8 (uh R) bb)) (fun hHeld=>?_)
   clear hK K
   refine Eq.mp (hF _ _ _ _) ?_
   exact kn (uh st6 W1 M14 M6 v4 v7 (d9 (d8 (uh R) bb)) (d9 ((uh F4).keep (bb))) (d9 ((uh F7).keep (bb))) G14 (d9 (((bb).block _ (jc (uh H14))).trans (uh H14))) (d9 (((bb).block _ (jc (uh H6))).trans (uh H6)))) (by kernel_rfl) (hG ..)
  exact AllReadyH.nil
  )
 have st9:Hid (∀ (W:World) (M6:Nat) (v4:Nv) (v7:Nv),Hid (Below U.heap.size U W)->Hid (NdIn W v4 T3)->Hid (NdIn W v7 T4)->Hid (W.heap[M6]? = some (.cells #[.int .i64 3] 3 (0,0)))->F 9 #[true,true,true,true,true,true,true,true,false,false,false,false,false,false,false,false,false] (G ab ap (.agg #[.int .i64 v1.kind,.string v1.attr,.slice v1.qi v1.ni v1.ci,.slice v1.qw v1.nw v1.cw,.int .i64 v1.lo,.int .i64 v1.hi,.int .i64 v1.op,.slice v1.qk v1.nk v1.ck]) (.agg #[.int .i64 v1.kind,.string v1.attr,.slice v1.qi v1.ni v1.ci,.slice v1.qw v1.nw v1.cw,.int .i64 v1.lo,.int .i64 v1.hi,.bool false]) (.agg #[.int .i64 v2.kind,.string v2.attr,.slice v2.qi v2.ni v2.ci,.slice v2.qw v2.nw v2.cw,.int .i64 v2.lo,.int .i64 v2.hi,.int .i64 v2.op,.slice v2.qk v2.nk v2.ck]) (.agg #[.int .i64 v2.kind,.string v2.attr,.slice v2.qi v2.ni v2.ci,.slice v2.qw v2.nw v2.cw,.int .i64 v2.lo,.int .i64 v2.hi,.bool false]) (.agg #[.int .i64 v4.kind,.string v4.attr,.slice v4.qi v4.ni v4.ci,.slice v4.qw v4.nw v4.cw,.int .i64 v4.lo,.int .i64 v4.hi,.int .i64 v4.op,.slice v4.qk v4.nk v4.ck]) (.agg #[.int .i64 v4.kind,.string v4.attr,.slice v4.qi v4.ni v4.ci,.slice v4.qw v4.nw v4.cw,.int .i64 v4.lo,.int .i64 v4.hi,.bool false]) (.slice (some ⟨M6,0,none⟩) 1 1) (.agg #[.int .i64 v7.kind,.string v7.attr,.slice v7.qi v7.ni v7.ci,.slice v7.qw v7.nw v7.cw,.int .i64 v7.lo,.int .i64 v7.hi,.int .i64 v7.op,.slice v7.qk v7.nk v7.ck]) ba bc bd be bf) W):=d9 (by
  intro W M6 v4 v7 R F4 F7 H6
  refine Eq.mpr (hF _ _ _ _) ?_
  rw [hG]
  have hHeld:=KS W (uh R)
  refine wpAnyH_ready (rs:=[8,14]) (by kernel_rfl) (by simp) ?_
  refine AllReadyH.cons (o:=⟨some 26,.call { callee:=.value (.func 45),args:=#[.tmp 25,.const (.bool true)],argTypes:=#[56,4] },_,_,_,none⟩) rfl (fun K hK=>?_) ?_
  ·go_simp
   refine (Fs v7 true _).mono ?_
   rintro e W1 ⟨rfl,bb⟩
   refine hK.out _ _ (KS _ (d8 (uh R) bb)) (fun hHeld=>?_)
   clear hK K
   refine Eq.mp (hF _ _ _ _) ?_
   exact kn (uh st7 W1 M6 v4 v7 (d9 (d8 (uh R) bb)) (d9 ((uh F4).keep (bb))) (d9 ((uh F7).keep (bb))) (d9 (((bb).block _ (jc (uh H6))).trans (uh H6)))) (by kernel_rfl) (hG ..)
  refine AllReadyH.cons (o:=⟨some 3,.alloc 39,_,_,_,none⟩) rfl (fun K hK=>?_) ?_
  ·go_simp
   refine hK.out _ _ (KS _ ((uh R).alloc (uh R).size _)) (fun hHeld=>?_)
   clear hK K
   refine Eq.mp (hF _ _ _ _) ?_
   exact kn (uh st8 (World.alloc W (.cells #[.bool false,.slice none 0 0,.slice none 0 0] 39)) W.heap.size M6 v4 v7 (d9 ((uh R).alloc (uh R).size _)) (d9 ((uh F4).keep (((Below.refl W.heap.size W).alloc (Nat.le_refl _) (.cells #[.bool false,.slice none 0 0,.slice none 0 0] 39))))) (d9 ((uh F7).keep (((Below.refl W.heap.size W).alloc (Nat.le_refl _) (.cells #[.bool false,.slice none 0 0,.slice none 0 0] 39))))) (d9 (uh R).size) (d9 (jf _ _)) (d9 (((((Below.refl W.heap.size W).alloc (Nat.le_refl _) (.cells #[.bool false,.slice none 0 0,.slice none 0 0] 39))).block _ (jc (uh H6))).trans (uh H6)))) (by kernel_rfl) (hG ..)
  exact AllReadyH.nil
  )
 have st10:Hid (∀ (W:World) (M14:Nat) (M6:Nat) (v4:Nv),Hid (Below U.heap.size U W)->Hid (NdIn W v4 T3)->Hid (U.heap.size<=M14)->Hid (W.heap[M14]? = some (.cells #[.bool false,.slice none 0 0,.slice none 0 0] 39 (0,0)))->Hid (W.heap[M6]? = some (.cells #[.int .i64 3] 3 (0,0)))->F 9 #[true,true,true,true,true,true,true,false,false,false,false,false,false,false,true,false,false] (G (.pointer (some ⟨M14,0,none⟩)) ap (.agg #[.int .i64 v1.kind,.string v1.attr,.slice v1.qi v1.ni v1.ci,.slice v1.qw v1.nw v1.cw,.int .i64 v1.lo,.int .i64 v1.hi,.int .i64 v1.op,.slice v1.qk v1.nk v1.ck]) (.agg #[.int .i64 v1.kind,.string v1.attr,.slice v1.qi v1.ni v1.ci,.slice v1.qw v1.nw v1.cw,.int .i64 v1.lo,.int .i64 v1.hi,.bool false]) (.agg #[.int .i64 v2.kind,.string v2.attr,.slice v2.qi v2.ni v2.ci,.slice v2.qw v2.nw v2.cw,.int .i64 v2.lo,.int .i64 v2.hi,.int .i64 v2.op,.slice v2.qk v2.nk v2.ck]) (.agg #[.int .i64 v2.kind,.string v2.attr,.slice v2.qi v2.ni v2.ci,.slice v2.qw v2.nw v2.cw,.int .i64 v2.lo,.int .i64 v2.hi,.bool false]) (.agg #[.int .i64 v4.kind,.string v4.attr,.slice v4.qi v4.ni v4.ci,.slice v4.qw v4.nw v4.cw,.int .i64 v4.lo,.int .i64 v4.hi,.int .i64 v4.op,.slice v4.qk v4.nk v4.ck]) (.agg #[.int .i64 v4.kind,.string v4.attr,.slice v4.qi v4.ni v4.ci,.slice v4.qw v4.nw v4.cw,.int .i64 v4.lo,.int .i64 v4.hi,.bool false]) (.slice (some ⟨M6,0,none⟩) 1 1) az ba bc bd be bf) W):=d9 (by
  intro W M14 M6 v4 R F4 G14 H14 H6
  refine Eq.mpr (hF _ _ _ _) ?_
  rw [hG]
  have hHeld:=KS W (uh R)
  refine wpAnyH_ready (rs:=[7]) (by kernel_rfl) (by simp) ?_
  refine AllReadyH.cons (o:=⟨some 25,.call { callee:=.value (.func 43),args:=#[.const (.string { data:=#[97] }),.tmp 24],argTypes:=#[9,23] },_,_,_,none⟩) rfl (fun K hK=>?_) ?_
  ·go_simp
   refine (Vi [3] 1 M6 _ (uh H6) (by simp [flatK,List.range_succ,jq]) rfl (by omega)).mono ?_
   rintro e W1 ⟨⟨v7,rfl,bn⟩,bb⟩
   refine hK.out _ _ (KS _ (d8 (uh R) bb)) (fun hHeld=>?_)
   clear hK K
   refine Eq.mp (hF _ _ _ _) ?_
   exact kn (uh st8 W1 M14 M6 v4 v7 (d9 (d8 (uh R) bb)) (d9 ((uh F4).keep (bb))) (d9 bn) G14 (d9 (((bb).block _ (jc (uh H14))).trans (uh H14))) (d9 (((bb).block _ (jc (uh H6))).trans (uh H6)))) (by kernel_rfl) (hG ..)
  exact AllReadyH.nil
  )
 have st11:Hid (∀ (W:World) (M6:Nat) (v4:Nv),Hid (Below U.heap.size U W)->Hid (NdIn W v4 T3)->Hid (W.heap[M6]? = some (.cells #[.int .i64 3] 3 (0,0)))->F 10 #[true,true,true,true,true,true,true,false,false,false,false,false,false,false,false,false,false] (G ab ap (.agg #[.int .i64 v1.kind,.string v1.attr,.slice v1.qi v1.ni v1.ci,.slice v1.qw v1.nw v1.cw,.int .i64 v1.lo,.int .i64 v1.hi,.int .i64 v1.op,.slice v1.qk v1.nk v1.ck]) (.agg #[.int .i64 v1.kind,.string v1.attr,.slice v1.qi v1.ni v1.ci,.slice v1.qw v1.nw v1.cw,.int .i64 v1.lo,.int .i64 v1.hi,.bool false]) (.agg #[.int .i64 v2.kind,.string v2.attr,.slice v2.qi v2.ni v2.ci,.slice v2.qw v2.nw v2.cw,.int .i64 v2.lo,.int .i64 v2.hi,.int .i64 v2.op,.slice v2.qk v2.nk v2.ck]) (.agg #[.int .i64 v2.kind,.string v2.attr,.slice v2.qi v2.ni v2.ci,.slice v2.qw v2.nw v2.cw,.int .i64 v2.lo,.int .i64 v2.hi,.bool false]) (.agg #[.int .i64 v4.kind,.string v4.attr,.slice v4.qi v4.ni v4.ci,.slice v4.qw v4.nw v4.cw,.int .i64 v4.lo,.int .i64 v4.hi,.int .i64 v4.op,.slice v4.qk v4.nk v4.ck]) (.agg #[.int .i64 v4.kind,.string v4.attr,.slice v4.qi v4.ni v4.ci,.slice v4.qw v4.nw v4.cw,.int .i64 v4.lo,.int .i64 v4.hi,.bool false]) (.slice (some ⟨M6,0,none⟩) 1 1) az ba bc bd be bf) W):=d9 (by
  intro W M6 v4 R F4 H6
  refine Eq.mpr (hF _ _ _ _) ?_
  rw [hG]
  have hHeld:=KS W (uh R)
  refine wpAnyH_ready (rs:=[7,14]) (by kernel_rfl) (by simp) ?_
  refine AllReadyH.cons (o:=⟨some 25,.call { callee:=.value (.func 43),args:=#[.const (.string { data:=#[97] }),.tmp 24],argTypes:=#[9,23] },_,_,_,none⟩) rfl (fun K hK=>?_) ?_
  ·go_simp
   refine (Vi [3] 1 M6 _ (uh H6) (by simp [flatK,List.range_succ,jq]) rfl (by omega)).mono ?_
   rintro e W1 ⟨⟨v7,rfl,bn⟩,bb⟩
   refine hK.out _ _ (KS _ (d8 (uh R) bb)) (fun hHeld=>?_)
   clear hK K
   refine Eq.mp (hF _ _ _ _) ?_
   exact kn (uh st9 W1 M6 v4 v7 (d9 (d8 (uh R) bb)) (d9 ((uh F4).keep (bb))) (d9 bn) (d9 (((bb).block _ (jc (uh H6))).trans (uh H6)))) (by kernel_rfl) (hG ..)
  refine AllReadyH.cons (o:=⟨some 3,.alloc 39,_,_,_,none⟩) rfl (fun K hK=>?_) ?_
  ·go_simp
   refine hK.out _ _ (KS _ ((uh R).alloc (uh R).size _)) (fun hHeld=>?_)
   clear hK K
   refine Eq.mp (hF _ _ _ _) ?_
   exact kn (uh st10 (World.alloc W (.cells #[.bool false,.slice none 0 0,.slice none 0 0] 39)) W.heap.size M6 v4 (d9 ((uh R).alloc (uh R).size _)) (d9 ((uh F4).keep (((Below.refl W.heap.size W).alloc (Nat.le_refl _) (.cells #[.bool false,.slice none 0 0,.slice none 0 0] 39))))) (d9 (uh R).size) (d9 (jf _ _)) (d9 (((((Below.refl W.heap.size W).alloc (Nat.le_refl _) (.cells #[.bool false,.slice none 0 0,.slice none 0 0] 39))).block _ (jc (uh H6))).trans (uh H6)))) (by kernel_rfl) (hG ..)
  exact AllReadyH.nil
  )
 have st12:Hid (∀ (W:World) (M14:Nat) (v4:Nv),Hid (Below U.heap.size U W)->Hid (NdIn W v4 T3)->Hid (U.heap.size<=M14)->Hid (W.heap[M14]? = some (.cells #[.bool false,.slice none 0 0,.slice none 0 0] 39 (0,0)))->F 10 #[true,true,true,true,true,true,false,false,false,false,false,false,false,false,true,false,false] (G (.pointer (some ⟨M14,0,none⟩)) ap (.agg #[.int .i64 v1.kind,.string v1.attr,.slice v1.qi v1.ni v1.ci,.slice v1.qw v1.nw v1.cw,.int .i64 v1.lo,.int .i64 v1.hi,.int .i64 v1.op,.slice v1.qk v1.nk v1.ck]) (.agg #[.int .i64 v1.kind,.string v1.attr,.slice v1.qi v1.ni v1.ci,.slice v1.qw v1.nw v1.cw,.int .i64 v1.lo,.int .i64 v1.hi,.bool false]) (.agg #[.int .i64 v2.kind,.string v2.attr,.slice v2.qi v2.ni v2.ci,.slice v2.qw v2.nw v2.cw,.int .i64 v2.lo,.int .i64 v2.hi,.int .i64 v2.op,.slice v2.qk v2.nk v2.ck]) (.agg #[.int .i64 v2.kind,.string v2.attr,.slice v2.qi v2.ni v2.ci,.slice v2.qw v2.nw v2.cw,.int .i64 v2.lo,.int .i64 v2.hi,.bool false]) (.agg #[.int .i64 v4.kind,.string v4.attr,.slice v4.qi v4.ni v4.ci,.slice v4.qw v4.nw v4.cw,.int .i64 v4.lo,.int .i64 v4.hi,.int .i64 v4.op,.slice v4.qk v4.nk v4.ck]) (.agg #[.int .i64 v4.kind,.string v4.attr,.slice v4.qi v4.ni v4.ci,.slice v4.qw v4.nw v4.cw,.int .i64 v4.lo,.int .i64 v4.hi,.bool false]) ay az ba bc bd be bf) W):=d9 (by
  intro W M14 v4 R F4 G14 H14
  refine Eq.mpr (hF _ _ _ _) ?_
  rw [hG]
  have hHeld:=KS W (uh R)
  refine wpAnyH_ready (rs:=[6]) (by kernel_rfl) (by simp) ?_
  refine AllReadyH.cons (o:=⟨some 24,.buildSlice 23 1 #[(0,.const (.int .i64 3))],_,_,_,none⟩) rfl (fun K hK=>?_) ?_
  ·go_simp
   refine hK.out _ _ (KS _ ((uh R).alloc (uh R).size _)) (fun hHeld=>?_)
   clear hK K
   refine Eq.mp (hF _ _ _ _) ?_
   exact kn (uh st10 (World.alloc W (.cells #[.int .i64 3] 3)) M14 W.heap.size v4 (d9 ((uh R).alloc (uh R).size _)) (d9 ((uh F4).keep (((Below.refl W.heap.size W).alloc (Nat.le_refl _) (.cells #[.int .i64 3] 3))))) G14 (d9 (((((Below.refl W.heap.size W).alloc (Nat.le_refl _) (.cells #[.int .i64 3] 3))).block _ (jc (uh H14))).trans (uh H14))) (d9 (jf _ _))) (by kernel_rfl) (hG ..)
  exact AllReadyH.nil
  )
 have st13:Hid (∀ (W:World) (v4:Nv),Hid (Below U.heap.size U W)->Hid (NdIn W v4 T3)->F 11 #[true,true,true,true,true,true,false,false,false,false,false,false,false,false,false,false,false] (G ab ap (.agg #[.int .i64 v1.kind,.string v1.attr,.slice v1.qi v1.ni v1.ci,.slice v1.qw v1.nw v1.cw,.int .i64 v1.lo,.int .i64 v1.hi,.int .i64 v1.op,.slice v1.qk v1.nk v1.ck]) (.agg #[.int .i64 v1.kind,.string v1.attr,.slice v1.qi v1.ni v1.ci,.slice v1.qw v1.nw v1.cw,.int .i64 v1.lo,.int .i64 v1.hi,.bool false]) (.agg #[.int .i64 v2.kind,.string v2.attr,.slice v2.qi v2.ni v2.ci,.slice v2.qw v2.nw v2.cw,.int .i64 v2.lo,.int .i64 v2.hi,.int .i64 v2.op,.slice v2.qk v2.nk v2.ck]) (.agg #[.int .i64 v2.kind,.string v2.attr,.slice v2.qi v2.ni v2.ci,.slice v2.qw v2.nw v2.cw,.int .i64 v2.lo,.int .i64 v2.hi,.bool false]) (.agg #[.int .i64 v4.kind,.string v4.attr,.slice v4.qi v4.ni v4.ci,.slice v4.qw v4.nw v4.cw,.int .i64 v4.lo,.int .i64 v4.hi,.int .i64 v4.op,.slice v4.qk v4.nk v4.ck]) (.agg #[.int .i64 v4.kind,.string v4.attr,.slice v4.qi v4.ni v4.ci,.slice v4.qw v4.nw v4.cw,.int .i64 v4.lo,.int .i64 v4.hi,.bool false]) ay az ba bc bd be bf) W):=d9 (by
  intro W v4 R F4
  refine Eq.mpr (hF _ _ _ _) ?_
  rw [hG]
  have hHeld:=KS W (uh R)
  refine wpAnyH_ready (rs:=[6,14]) (by kernel_rfl) (by simp) ?_
  refine AllReadyH.cons (o:=⟨some 24,.buildSlice 23 1 #[(0,.const (.int .i64 3))],_,_,_,none⟩) rfl (fun K hK=>?_) ?_
  ·go_simp
   refine hK.out _ _ (KS _ ((uh R).alloc (uh R).size _)) (fun hHeld=>?_)
   clear hK K
   refine Eq.mp (hF _ _ _ _) ?_
   exact kn (uh st11 (World.alloc W (.cells #[.int .i64 3] 3)) W.heap.size v4 (d9 ((uh R).alloc (uh R).size _)) (d9 ((uh F4).keep (((Below.refl W.heap.size W).alloc (Nat.le_refl _) (.cells #[.int .i64 3] 3))))) (d9 (jf _ _))) (by kernel_rfl) (hG ..)
  refine AllReadyH.cons (o:=⟨some 3,.alloc 39,_,_,_,none⟩) rfl (fun K hK=>?_) ?_
  ·go_simp
   refine hK.out _ _ (KS _ ((uh R).alloc (uh R).size _)) (fun hHeld=>?_)
   clear hK K
   refine Eq.mp (hF _ _ _ _) ?_
   exact kn (uh st12 (World.alloc W (.cells #[.bool false,.slice none 0 0,.slice none 0 0] 39)) W.heap.size v4 (d9 ((uh R).alloc (uh R).size _)) (d9 ((uh F4).keep (((Below.refl W.heap.size W).alloc (Nat.le_refl _) (.cells #[.bool false,.slice none 0 0,.slice none 0 0] 39))))) (d9 (uh R).size) (d9 (jf _ _))) (by kernel_rfl) (hG ..)
  exact AllReadyH.nil
  )
 have st14:Hid (∀ (W:World) (M14:Nat) (M6:Nat) (v4:Nv),Hid (Below U.heap.size U W)->Hid (NdIn W v4 T3)->Hid (U.heap.size<=M14)->Hid (W.heap[M14]? = some (.cells #[.bool false,.slice none 0 0,.slice none 0 0] 39 (0,0)))->Hid (W.heap[M6]? = some (.cells #[.int .i64 3] 3 (0,0)))->F 10 #[true,true,true,true,true,false,true,false,false,false,false,false,false,false,true,false,false] (G (.pointer (some ⟨M14,0,none⟩)) ap (.agg #[.int .i64 v1.kind,.string v1.attr,.slice v1.qi v1.ni v1.ci,.slice v1.qw v1.nw v1.cw,.int .i64 v1.lo,.int .i64 v1.hi,.int .i64 v1.op,.slice v1.qk v1.nk v1.ck]) (.agg #[.int .i64 v1.kind,.string v1.attr,.slice v1.qi v1.ni v1.ci,.slice v1.qw v1.nw v1.cw,.int .i64 v1.lo,.int .i64 v1.hi,.bool false]) (.agg #[.int .i64 v2.kind,.string v2.attr,.slice v2.qi v2.ni v2.ci,.slice v2.qw v2.nw v2.cw,.int .i64 v2.lo,.int .i64 v2.hi,.int .i64 v2.op,.slice v2.qk v2.nk v2.ck]) (.agg #[.int .i64 v2.kind,.string v2.attr,.slice v2.qi v2.ni v2.ci,.slice v2.qw v2.nw v2.cw,.int .i64 v2.lo,.int .i64 v2.hi,.bool false]) (.agg #[.int .i64 v4.kind,.string v4.attr,.slice v4.qi v4.ni v4.ci,.slice v4.qw v4.nw v4.cw,.int .i64 v4.lo,.int .i64 v4.hi,.int .i64 v4.op,.slice v4.qk v4.nk v4.ck]) ax (.slice (some ⟨M6,0,none⟩) 1 1) az ba bc bd be bf) W):=d9 (by
  intro W M14 M6 v4 R F4 G14 H14 H6
  refine Eq.mpr (hF _ _ _ _) ?_
  rw [hG]
  have hHeld:=KS W (uh R)
  refine wpAnyH_ready (rs:=[5]) (by kernel_rfl) (by simp) ?_
  refine AllReadyH.cons (o:=⟨some 23,.call { callee:=.value (.func 45),args:=#[.tmp 22,.const (.bool false)],argTypes:=#[56,4] },_,_,_,none⟩) rfl (fun K hK=>?_) ?_
  ·go_simp
   refine (Fs v4 false _).mono ?_
   rintro e W1 ⟨rfl,bb⟩
   refine hK.out _ _ (KS _ (d8 (uh R) bb)) (fun hHeld=>?_)
   clear hK K
   refine Eq.mp (hF _ _ _ _) ?_
   exact kn (uh st10 W1 M14 M6 v4 (d9 (d8 (uh R) bb)) (d9 ((uh F4).keep (bb))) G14 (d9 (((bb).block _ (jc (uh H14))).trans (uh H14))) (d9 (((bb).block _ (jc (uh H6))).trans (uh H6)))) (by kernel_rfl) (hG ..)
  exact AllReadyH.nil
  )
 have st15:Hid (∀ (W:World) (M6:Nat) (v4:Nv),Hid (Below U.heap.size U W)->Hid (NdIn W v4 T3)->Hid (W.heap[M6]? = some (.cells #[.int .i64 3] 3 (0,0)))->F 11 #[true,true,true,true,true,false,true,false,false,false,false,false,false,false,false,false,false] (G ab ap (.agg #[.int .i64 v1.kind,.string v1.attr,.slice v1.qi v1.ni v1.ci,.slice v1.qw v1.nw v1.cw,.int .i64 v1.lo,.int .i64 v1.hi,.int .i64 v1.op,.slice v1.qk v1.nk v1.ck]) (.agg #[.int .i64 v1.kind,.string v1.attr,.slice v1.qi v1.ni v1.ci,.slice v1.qw v1.nw v1.cw,.int .i64 v1.lo,.int .i64 v1.hi,.bool false]) (.agg #[.int .i64 v2.kind,.string v2.attr,.slice v2.qi v2.ni v2.ci,.slice v2.qw v2.nw v2.cw,.int .i64 v2.lo,.int .i64 v2.hi,.int .i64 v2.op,.slice v2.qk v2.nk v2.ck]) (.agg #[.int .i64 v2.kind,.string v2.attr,.slice v2.qi v2.ni v2.ci,.slice v2.qw v2.nw v2.cw,.int .i64 v2.lo,.int .i64 v2.hi,.bool false]) (.agg #[.int .i64 v4.kind,.string v4.attr,.slice v4.qi v4.ni v4.ci,.slice v4.qw v4.nw v4.cw,.int .i64 v4.lo,.int .i64 v4.hi,.int .i64 v4.op,.slice v4.qk v4.nk v4.ck]) ax (.slice (some ⟨M6,0,none⟩) 1 1) az ba bc bd be bf) W):=d9 (by
  intro W M6 v4 R F4 H6
  refine Eq.mpr (hF _ _ _ _) ?_
  rw [hG]
  have hHeld:=KS W (uh R)
  refine wpAnyH_ready (rs:=[5,14]) (by kernel_rfl) (by simp) ?_
  refine AllReadyH.cons (o:=⟨some 23,.call { callee:=.value (.func 45),args:=#[.tmp 22,.const (.bool false)],argTypes:=#[56,4] },_,_,_,none⟩) rfl (fun K hK=>?_) ?_
  ·go_simp
   refine (Fs v4 false _).mono ?_
   rintro e W1 ⟨rfl,bb⟩
   refine hK.out _ _ (KS _ (d8 (uh R) bb)) (fun hHeld=>?_)
   clear hK K
   refine Eq.mp (hF _ _ _ _) ?_
   exact kn (uh st11 W1 M6 v4 (d9 (d8 (uh R) bb)) (d9 ((uh F4).keep (bb))) (d9 (((bb).block _ (jc (uh H6))).trans (uh H6)))) (by kernel_rfl) (hG ..)
  refine AllReadyH.cons (o:=⟨some 3,.alloc 39,_,_,_,none⟩) rfl (fun K hK=>?_) ?_
  ·go_simp
   refine hK.out _ _ (KS _ ((uh R).alloc (uh R).size _)) (fun hHeld=>?_)
   clear hK K
   refine Eq.mp (hF _ _ _ _) ?_
   exact kn (uh st14 (World.alloc W (.cells #[.bool false,.slice none 0 0,.slice none 0 0] 39)) W.heap.size M6 v4 (d9 ((uh R).alloc (uh R).size _)) (d9 ((uh F4).keep (((Below.refl W.heap.size W).alloc (Nat.le_refl _) (.cells #[.bool false,.slice none 0 0,.slice none 0 0] 39))))) (d9 (uh R).size) (d9 (jf _ _)) (d9 (((((Below.refl W.heap.size W).alloc (Nat.le_refl _) (.cells #[.bool false,.slice none 0 0,.slice none 0 0] 39))).block _ (jc (uh H6))).trans (uh H6)))) (by kernel_rfl) (hG ..)
  exact AllReadyH.nil
  )
 have st16:Hid (∀ (W:World) (M14:Nat) (v4:Nv),Hid (Below U.heap.size U W)->Hid (NdIn W v4 T3)->Hid (U.heap.size<=M14)->Hid (W.heap[M14]? = some (.cells #[.bool false,.slice none 0 0,.slice none 0 0] 39 (0,0)))->F 11 #[true,true,true,true,true,false,false,false,false,false,false,false,false,false,true,false,false] (G (.pointer (some ⟨M14,0,none⟩)) ap (.agg #[.int .i64 v1.kind,.string v1.attr,.slice v1.qi v1.ni v1.ci,.slice v1.qw v1.nw v1.cw,.int .i64 v1.lo,.int .i64 v1.hi,.int .i64 v1.op,.slice v1.qk v1.nk v1.ck]) (.agg #[.int .i64 v1.kind,.string v1.attr,.slice v1.qi v1.ni v1.ci,.slice v1.qw v1.nw v1.cw,.int .i64 v1.lo,.int .i64 v1.hi,.bool false]) (.agg #[.int .i64 v2.kind,.string v2.attr,.slice v2.qi v2.ni v2.ci,.slice v2.qw v2.nw v2.cw,.int .i64 v2.lo,.int .i64 v2.hi,.int .i64 v2.op,.slice v2.qk v2.nk v2.ck]) (.agg #[.int .i64 v2.kind,.string v2.attr,.slice v2.qi v2.ni v2.ci,.slice v2.qw v2.nw v2.cw,.int .i64 v2.lo,.int .i64 v2.hi,.bool false]) (.agg #[.int .i64 v4.kind,.string v4.attr,.slice v4.qi v4.ni v4.ci,.slice v4.qw v4.nw v4.cw,.int .i64 v4.lo,.int .i64 v4.hi,.int .i64 v4.op,.slice v4.qk v4.nk v4.ck]) ax ay az ba bc bd be bf) W):=d9 (by
  intro W M14 v4 R F4 G14 H14
  refine Eq.mpr (hF _ _ _ _) ?_
  rw [hG]
  have hHeld:=KS W (uh R)
  refine wpAnyH_ready (rs:=[5,6]) (by kernel_rfl) (by simp) ?_
  refine AllReadyH.cons (o:=⟨some 23,.call { callee:=.value (.func 45),args:=#[.tmp 22,.const (.bool false)],argTypes:=#[56,4] },_,_,_,none⟩) rfl (fun K hK=>?_) ?_
  ·go_simp
   refine (Fs v4 false _).mono ?_
   rintro e W1 ⟨rfl,bb⟩
   refine hK.out _ _ (KS _ (d8 (uh R) bb)) (fun hHeld=>?_)
   clear hK K
   refine Eq.mp (hF _ _ _ _) ?_
   exact kn (uh st12 W1 M14 v4 (d9 (d8 (uh R) bb)) (d9 ((uh F4).keep (bb))) G14 (d9 (((bb).block _ (jc (uh H14))).trans (uh H14)))) (by kernel_rfl) (hG ..)
  refine AllReadyH.cons (o:=⟨some 24,.buildSlice 23 1 #[(0,.const (.int .i64 3))],_,_,_,none⟩) rfl (fun K hK=>?_) ?_
  ·go_simp
   refine hK.out _ _ (KS _ ((uh R).alloc (uh R).size _)) (fun hHeld=>?_)
   clear hK K
   refine Eq.mp (hF _ _ _ _) ?_
   exact kn (uh st14 (World.alloc W (.cells #[.int .i64 3] 3)) M14 W.heap.size v4 (d9 ((uh R).alloc (uh R).size _)) (d9 ((uh F4).keep (((Below.refl W.heap.size W).alloc (Nat.le_refl _) (.cells #[.int .i64 3] 3))))) G14 (d9 (((((Below.refl W.heap.size W).alloc (Nat.le_refl _) (.cells #[.int .i64 3] 3))).block _ (jc (uh H14))).trans (uh H14))) (d9 (jf _ _))) (by kernel_rfl) (hG ..)
  exact AllReadyH.nil
  )
 have st17:Hid (∀ (W:World) (v4:Nv),Hid (Below U.heap.size U W)->Hid (NdIn W v4 T3)->F 12 #[true,true,true,true,true,false,false,false,false,false,false,false,false,false,false,false,false] (G ab ap (.agg #[.int .i64 v1.kind,.string v1.attr,.slice v1.qi v1.ni v1.ci,.slice v1.qw v1.nw v1.cw,.int .i64 v1.lo,.int .i64 v1.hi,.int .i64 v1.op,.slice v1.qk v1.nk v1.ck]) (.agg #[.int .i64 v1.kind,.string v1.attr,.slice v1.qi v1.ni v1.ci,.slice v1.qw v1.nw v1.cw,.int .i64 v1.lo,.int .i64 v1.hi,.bool false]) (.agg #[.int .i64 v2.kind,.string v2.attr,.slice v2.qi v2.ni v2.ci,.slice v2.qw v2.nw v2.cw,.int .i64 v2.lo,.int .i64 v2.hi,.int .i64 v2.op,.slice v2.qk v2.nk v2.ck]) (.agg #[.int .i64 v2.kind,.string v2.attr,.slice v2.qi v2.ni v2.ci,.slice v2.qw v2.nw v2.cw,.int .i64 v2.lo,.int .i64 v2.hi,.bool false]) (.agg #[.int .i64 v4.kind,.string v4.attr,.slice v4.qi v4.ni v4.ci,.slice v4.qw v4.nw v4.cw,.int .i64 v4.lo,.int .i64 v4.hi,.int .i64 v4.op,.slice v4.qk v4.nk v4.ck]) ax ay az ba bc bd be bf) W):=d9 (by
  intro W v4 R F4
  refine Eq.mpr (hF _ _ _ _) ?_
  rw [hG]
  have hHeld:=KS W (uh R)
  refine wpAnyH_ready (rs:=[5,6,14]) (by kernel_rfl) (by simp) ?_
  refine AllReadyH.cons (o:=⟨some 23,.call { callee:=.value (.func 45),args:=#[.tmp 22,.const (.bool false)],argTypes:=#[56,4] },_,_,_,none⟩) rfl (fun K hK=>?_) ?_
  ·go_simp
   refine (Fs v4 false _).mono ?_
   rintro e W1 ⟨rfl,bb⟩
   refine hK.out _ _ (KS _ (d8 (uh R) bb)) (fun hHeld=>?_)
   clear hK K
   refine Eq.mp (hF _ _ _ _) ?_
   exact kn (uh st13 W1 v4 (d9 (d8 (uh R) bb)) (d9 ((uh F4).keep (bb)))) (by kernel_rfl) (hG ..)
  refine AllReadyH.cons (o:=⟨some 24,.buildSlice 23 1 #[(0,.const (.int .i64 3))],_,_,_,none⟩) rfl (fun K hK=>?_) ?_
  ·go_simp
   refine hK.out _ _ (KS _ ((uh R).alloc (uh R).size _)) (fun hHeld=>?_)
   clear hK K
   refine Eq.mp (hF _ _ _ _) ?_
   exact kn (uh st15 (World.alloc W (.cells #[.int .i64 3] 3)) W.heap.size v4 (d9 ((uh R).alloc (uh R).size _)) (d9 ((uh F4).keep (((Below.refl W.heap.size W).alloc (Nat.le_refl _) (.cells #[.int .i64 3] 3))))) (d9 (jf _ _))) (by kernel_rfl) (hG ..)
  refine AllReadyH.cons (o:=⟨some 3,.alloc 39,_,_,_,none⟩) rfl (fun K hK=>?_) ?_
  ·go_simp
   refine hK.out _ _ (KS _ ((uh R).alloc (uh R).size _)) (fun hHeld=>?_)
   clear hK K
   refine Eq.mp (hF _ _ _ _) ?_
   exact kn (uh st16 (World.alloc W (.cells #[.bool false,.slice none 0 0,.slice none 0 0] 39)) W.heap.size v4 (d9 ((uh R).alloc (uh R).size _)) (d9 ((uh F4).keep (((Below.refl W.heap.size W).alloc (Nat.le_refl _) (.cells #[.bool false,.slice none 0 0,.slice none 0 0] 39))))) (d9 (uh R).size) (d9 (jf _ _))) (by kernel_rfl) (hG ..)
  exact AllReadyH.nil
  )
 have st18:Hid (∀ (W:World) (M14:Nat) (M6:Nat),Hid (Below U.heap.size U W)->Hid (U.heap.size<=M14)->Hid (W.heap[M14]? = some (.cells #[.bool false,.slice none 0 0,.slice none 0 0] 39 (0,0)))->Hid (W.heap[M6]? = some (.cells #[.int .i64 3] 3 (0,0)))->F 11 #[true,true,true,true,false,false,true,false,false,false,false,false,false,false,true,false,false] (G (.pointer (some ⟨M14,0,none⟩)) ap (.agg #[.int .i64 v1.kind,.string v1.attr,.slice v1.qi v1.ni v1.ci,.slice v1.qw v1.nw v1.cw,.int .i64 v1.lo,.int .i64 v1.hi,.int .i64 v1.op,.slice v1.qk v1.nk v1.ck]) (.agg #[.int .i64 v1.kind,.string v1.attr,.slice v1.qi v1.ni v1.ci,.slice v1.qw v1.nw v1.cw,.int .i64 v1.lo,.int .i64 v1.hi,.bool false]) (.agg #[.int .i64 v2.kind,.string v2.attr,.slice v2.qi v2.ni v2.ci,.slice v2.qw v2.nw v2.cw,.int .i64 v2.lo,.int .i64 v2.hi,.int .i64 v2.op,.slice v2.qk v2.nk v2.ck]) (.agg #[.int .i64 v2.kind,.string v2.attr,.slice v2.qi v2.ni v2.ci,.slice v2.qw v2.nw v2.cw,.int .i64 v2.lo,.int .i64 v2.hi,.bool false]) aw ax (.slice (some ⟨M6,0,none⟩) 1 1) az ba bc bd be bf) W):=d9 (by
  intro W M14 M6 R G14 H14 H6
  refine Eq.mpr (hF _ _ _ _) ?_
  rw [hG]
  have hHeld:=KS W (uh R)
  refine wpAnyH_ready (rs:=[4]) (by kernel_rfl) (by simp) ?_
  refine AllReadyH.cons (o:=⟨some 22,.call { callee:=.value (.func 46),args:=#[.const (.string { data:=#[99] }),.const (.string { data:=#[120] })],argTypes:=#[9,9] },_,_,_,none⟩) rfl (fun K hK=>?_) ?_
  ·go_simp
   refine (zbx _).mono ?_
   rintro e W1 ⟨⟨v4,rfl,bn⟩,bb⟩
   refine hK.out _ _ (KS _ (d8 (uh R) bb)) (fun hHeld=>?_)
   clear hK K
   refine Eq.mp (hF _ _ _ _) ?_
   exact kn (uh st14 W1 M14 M6 v4 (d9 (d8 (uh R) bb)) (d9 bn) G14 (d9 (((bb).block _ (jc (uh H14))).trans (uh H14))) (d9 (((bb).block _ (jc (uh H6))).trans (uh H6)))) (by kernel_rfl) (hG ..)
  exact AllReadyH.nil
  )
 have st19:Hid (∀ (W:World) (M6:Nat),Hid (Below U.heap.size U W)->Hid (W.heap[M6]? = some (.cells #[.int .i64 3] 3 (0,0)))->F 12 #[true,true,true,true,false,false,true,false,false,false,false,false,false,false,false,false,false] (G ab ap (.agg #[.int .i64 v1.kind,.string v1.attr,.slice v1.qi v1.ni v1.ci,.slice v1.qw v1.nw v1.cw,.int .i64 v1.lo,.int .i64 v1.hi,.int .i64 v1.op,.slice v1.qk v1.nk v1.ck]) (.agg #[.int .i64 v1.kind,.string v1.attr,.slice v1.qi v1.ni v1.ci,.slice v1.qw v1.nw v1.cw,.int .i64 v1.lo,.int .i64 v1.hi,.bool false]) (.agg #[.int .i64 v2.kind,.string v2.attr,.slice v2.qi v2.ni v2.ci,.slice v2.qw v2.nw v2.cw,.int .i64 v2.lo,.int .i64 v2.hi,.int .i64 v2.op,.slice v2.qk v2.nk v2.ck]) (.agg #[.int .i64 v2.kind,.string v2.attr,.slice v2.qi v2.ni v2.ci,.slice v2.qw v2.nw v2.cw,.int .i64 v2.lo,.int .i64 v2.hi,.bool false]) aw ax (.slice (some ⟨M6,0,none⟩) 1 1) az ba bc bd be bf) W):=d9 (by
  intro W M6 R H6
  refine Eq.mpr (hF _ _ _ _) ?_
  rw [hG]
  have hHeld:=KS W (uh R)
  refine wpAnyH_ready (rs:=[4,14]) (by kernel_rfl) (by simp) ?_
  refine AllReadyH.cons (o:=⟨some 22,.call { callee:=.value (.func 46),args:=#[.const (.string { data:=#[99] }),.const (.string { data:=#[120] })],argTypes:=#[9,9] },_,_,_,none⟩) rfl (fun K hK=>?_) ?_
  ·go_simp
   refine (zbx _).mono ?_
   rintro e W1 ⟨⟨v4,rfl,bn⟩,bb⟩
   refine hK.out _ _ (KS _ (d8 (uh R) bb)) (fun hHeld=>?_)
   clear hK K
   refine Eq.mp (hF _ _ _ _) ?_
   exact kn (uh st15 W1 M6 v4 (d9 (d8 (uh R) bb)) (d9 bn) (d9 (((bb).block _ (jc (uh H6))).trans (uh H6)))) (by kernel_rfl) (hG ..)
  refine AllReadyH.cons (o:=⟨some 3,.alloc 39,_,_,_,none⟩) rfl (fun K hK=>?_) ?_
  ·go_simp
   refine hK.out _ _ (KS _ ((uh R).alloc (uh R).size _)) (fun hHeld=>?_)
   clear hK K
   refine Eq.mp (hF _ _ _ _) ?_
   exact kn (uh st18 (World.alloc W (.cells #[.bool false,.slice none 0 0,.slice none 0 0] 39)) W.heap.size M6 (d9 ((uh R).alloc (uh R).size _)) (d9 (uh R).size) (d9 (jf _ _)) (d9 (((((Below.refl W.heap.size W).alloc (Nat.le_refl _) (.cells #[.bool false,.slice none 0 0,.slice none 0 0] 39))).block _ (jc (uh H6))).trans (uh H6)))) (by kernel_rfl) (hG ..)
  exact AllReadyH.nil
  )
 have st20:Hid (∀ (W:World) (M14:Nat),Hid (Below U.heap.size U W)->Hid (U.heap.size<=M14)->Hid (W.heap[M14]? = some (.cells #[.bool false,.slice none 0 0,.slice none 0 0] 39 (0,0)))->F 12 #[true,true,true,true,false,false,false,false,false,false,false,false,false,false,true,false,false] (G (.pointer (some ⟨M14,0,none⟩)) ap (.agg #[.int .i64 v1.kind,.string v1.attr,.slice v1.qi v1.ni v1.ci,.slice v1.qw v1.nw v1.cw,.int .i64 v1.lo,.int .i64 v1.hi,.int .i64 v1.op,.slice v1.qk v1.nk v1.ck]) (.agg #[.int .i64 v1.kind,.string v1.attr,.slice v1.qi v1.ni v1.ci,.slice v1.qw v1.nw v1.cw,.int .i64 v1.lo,.int .i64 v1.hi,.bool false]) (.agg #[.int .i64 v2.kind,.string v2.attr,.slice v2.qi v2.ni v2.ci,.slice v2.qw v2.nw v2.cw,.int .i64 v2.lo,.int .i64 v2.hi,.int .i64 v2.op,.slice v2.qk v2.nk v2.ck]) (.agg #[.int .i64 v2.kind,.string v2.attr,.slice v2.qi v2.ni v2.ci,.slice v2.qw v2.nw v2.cw,.int .i64 v2.lo,.int .i64 v2.hi,.bool false]) aw ax ay az ba bc bd be bf) W):=d9 (by
  intro W M14 R G14 H14
  refine Eq.mpr (hF _ _ _ _) ?_
  rw [hG]
  have hHeld:=KS W (uh R)
  refine wpAnyH_ready (rs:=[4,6]) (by kernel_rfl) (by simp) ?_
  refine AllReadyH.cons (o:=⟨some 22,.call { callee:=.value (.func 46),args:=#[.const (.string { data:=#[99] }),.const (.string { data:=#[120] })],argTypes:=#[9,9] },_,_,_,none⟩) rfl (fun K hK=>?_) ?_
  ·go_simp
   refine (zbx _).mono ?_
   rintro e W1 ⟨⟨v4,rfl,bn⟩,bb⟩
   refine hK.out _ _ (KS _ (d8 (uh R) bb)) (fun hHeld=>?_)
   clear hK K
   refine Eq.mp (hF _ _ _ _) ?_
   exact kn (uh st16 W1 M14 v4 (d9 (d8 (uh R) bb)) (d9 bn) G14 (d9 (((bb).block _ (jc (uh H14))).trans (uh H14)))) (by kernel_rfl) (hG ..)
  refine AllReadyH.cons (o:=⟨some 24,.buildSlice 23 1 #[(0,.const (.int .i64 3))],_,_,_,none⟩) rfl (fun K hK=>?_) ?_
  ·go_simp
   refine hK.out _ _ (KS _ ((uh R).alloc (uh R).size _)) (fun hHeld=>?_)
   clear hK K
   refine Eq.mp (hF _ _ _ _) ?_
   exact kn (uh st18 (World.alloc W (.cells #[.int .i64 3] 3)) M14 W.heap.size (d9 ((uh R).alloc (uh R).size _)) G14 (d9 (((((Below.refl W.heap.size W).alloc (Nat.le_refl _) (.cells #[.int .i64 3] 3))).block _ (jc (uh H14))).trans (uh H14))) (d9 (jf _ _))) (by kernel_rfl) (hG ..)
  exact AllReadyH.nil
  )
 have st21:Hid (∀ (W:World),Hid (Below U.heap.size U W)->F 13 #[true,true,true,true,false,false,false,false,false,false,false,false,false,false,false,false,false] (G ab ap (.agg #[.int .i64 v1.kind,.string v1.attr,.slice v1.qi v1.ni v1.ci,.slice v1.qw v1.nw v1.cw,.int .i64 v1.lo,.int .i64 v1.hi,.int .i64 v1.op,.slice v1.qk v1.nk v1.ck]) (.agg #[.int .i64 v1.kind,.string v1.attr,.slice v1.qi v1.ni v1.ci,.slice v1.qw v1.nw v1.cw,.int .i64 v1.lo,.int .i64 v1.hi,.bool false]) (.agg #[.int .i64 v2.kind,.string v2.attr,.slice v2.qi v2.ni v2.ci,.slice v2.qw v2.nw v2.cw,.int .i64 v2.lo,.int .i64 v2.hi,.int .i64 v2.op,.slice v2.qk v2.nk v2.ck]) (.agg #[.int .i64 v2.kind,.string v2.attr,.slice v2.qi v2.ni v2.ci,.slice v2.qw v2.nw v2.cw,.int .i64 v2.lo,.int .i64 v2.hi,.bool false]) aw ax ay az ba bc bd be bf) W):=d9 (by
  intro W R
  refine Eq.mpr (hF _ _ _ _) ?_
  rw [hG]
  have hHeld:=KS W (uh R)
  refine wpAnyH_ready (rs:=[4,6,14]) (by kernel_rfl) (by simp) ?_
  refine AllReadyH.cons (o:=⟨some 22,.call { callee:=.value (.func 46),args:=#[.const (.string { data:=#[99] }),.const (.string { data:=#[120] })],argTypes:=#[9,9] },_,_,_,none⟩) rfl (fun K hK=>?_) ?_
  ·go_simp
   refine (zbx _).mono ?_
   rintro e W1 ⟨⟨v4,rfl,bn⟩,bb⟩
   refine hK.out _ _ (KS _ (d8 (uh R) bb)) (fun hHeld=>?_)
   clear hK K
   refine Eq.mp (hF _ _ _ _) ?_
   exact kn (uh st17 W1 v4 (d9 (d8 (uh R) bb)) (d9 bn)) (by kernel_rfl) (hG ..)
  refine AllReadyH.cons (o:=⟨some 24,.buildSlice 23 1 #[(0,.const (.int .i64 3))],_,_,_,none⟩) rfl (fun K hK=>?_) ?_
  ·go_simp
   refine hK.out _ _ (KS _ ((uh R).alloc (uh R).size _)) (fun hHeld=>?_)
   clear hK K
   refine Eq.mp (hF _ _ _ _) ?_
   exact kn (uh st19 (World.alloc W (.cells #[.int .i64 3] 3)) W.heap.size (d9 ((uh R).alloc (uh R).size _)) (d9 (jf _ _))) (by kernel_rfl) (hG ..)
  refine AllReadyH.cons (o:=⟨some 3,.alloc 39,_,_,_,none⟩) rfl (fun K hK=>?_) ?_
  ·go_simp
   refine hK.out _ _ (KS _ ((uh R).alloc (uh R).size _)) (fun hHeld=>?_)
   clear hK K
   refine Eq.mp (hF _ _ _ _) ?_
   exact kn (uh st20 (World.alloc W (.cells #[.bool false,.slice none 0 0,.slice none 0 0] 39)) W.heap.size (d9 ((uh R).alloc (uh R).size _)) (d9 (uh R).size) (d9 (jf _ _))) (by kernel_rfl) (hG ..)
  exact AllReadyH.nil
  )
 have st22:Hid (∀ (W:World) (M14:Nat) (M6:Nat),Hid (Below U.heap.size U W)->Hid (U.heap.size<=M14)->Hid (W.heap[M14]? = some (.cells #[.bool false,.slice none 0 0,.slice none 0 0] 39 (0,0)))->Hid (W.heap[M6]? = some (.cells #[.int .i64 3] 3 (0,0)))->F 12 #[true,true,true,false,false,false,true,false,false,false,false,false,false,false,true,false,false] (G (.pointer (some ⟨M14,0,none⟩)) ap (.agg #[.int .i64 v1.kind,.string v1.attr,.slice v1.qi v1.ni v1.ci,.slice v1.qw v1.nw v1.cw,.int .i64 v1.lo,.int .i64 v1.hi,.int .i64 v1.op,.slice v1.qk v1.nk v1.ck]) (.agg #[.int .i64 v1.kind,.string v1.attr,.slice v1.qi v1.ni v1.ci,.slice v1.qw v1.nw v1.cw,.int .i64 v1.lo,.int .i64 v1.hi,.bool false]) (.agg #[.int .i64 v2.kind,.string v2.attr,.slice v2.qi v2.ni v2.ci,.slice v2.qw v2.nw v2.cw,.int .i64 v2.lo,.int .i64 v2.hi,.int .i64 v2.op,.slice v2.qk v2.nk v2.ck]) av aw ax (.slice (some ⟨M6,0,none⟩) 1 1) az ba bc bd be bf) W):=d9 (by
  intro W M14 M6 R G14 H14 H6
  refine Eq.mpr (hF _ _ _ _) ?_
  rw [hG]
  have hHeld:=KS W (uh R)
  refine wpAnyH_ready (rs:=[3]) (by kernel_rfl) (by simp) ?_
  refine AllReadyH.cons (o:=⟨some 21,.call { callee:=.value (.func 45),args:=#[.tmp 20,.const (.bool false)],argTypes:=#[56,4] },_,_,_,none⟩) rfl (fun K hK=>?_) ?_
  ·go_simp
   refine (Fs v2 false _).mono ?_
   rintro e W1 ⟨rfl,bb⟩
   refine hK.out _ _ (KS _ (d8 (uh R) bb)) (fun hHeld=>?_)
   clear hK K
   refine Eq.mp (hF _ _ _ _) ?_
   exact kn (uh st18 W1 M14 M6 (d9 (d8 (uh R) bb)) G14 (d9 (((bb).block _ (jc (uh H14))).trans (uh H14))) (d9 (((bb).block _ (jc (uh H6))).trans (uh H6)))) (by kernel_rfl) (hG ..)
  exact AllReadyH.nil
  )
 have st23:Hid (∀ (W:World) (M6:Nat),Hid (Below U.heap.size U W)->Hid (W.heap[M6]? = some (.cells #[.int .i64 3] 3 (0,0)))->F 13 #[true,true,true,false,false,false,true,false,false,false,false,false,false,false,false,false,false] (G ab ap (.agg #[.int .i64 v1.kind,.string v1.attr,.slice v1.qi v1.ni v1.ci,.slice v1.qw v1.nw v1.cw,.int .i64 v1.lo,.int .i64 v1.hi,.int .i64 v1.op,.slice v1.qk v1.nk v1.ck]) (.agg #[.int .i64 v1.kind,.string v1.attr,.slice v1.qi v1.ni v1.ci,.slice v1.qw v1.nw v1.cw,.int .i64 v1.lo,.int .i64 v1.hi,.bool false]) (.agg #[.int .i64 v2.kind,.string v2.attr,.slice v2.qi v2.ni v2.ci,.slice v2.qw v2.nw v2.cw,.int .i64 v2.lo,.int .i64 v2.hi,.int .i64 v2.op,.slice v2.qk v2.nk v2.ck]) av aw ax (.slice (some ⟨M6,0,none⟩) 1 1) az ba bc bd be bf) W):=d9 (by
  intro W M6 R H6
  refine Eq.mpr (hF _ _ _ _) ?_
  rw [hG]
  have hHeld:=KS W (uh R)
  refine wpAnyH_ready (rs:=[3,14]) (by kernel_rfl) (by simp) ?_
  refine AllReadyH.cons (o:=⟨some 21,.call { callee:=.value (.func 45),args:=#[.tmp 20,.const (.bool false)],argTypes:=#[56,4] },_,_,_,none⟩) rfl (fun K hK=>?_) ?_
  ·go_simp
   refine (Fs v2 false _).mono ?_
   rintro e W1 ⟨rfl,bb⟩
   refine hK.out _ _ (KS _ (d8 (uh R) bb)) (fun hHeld=>?_)
   clear hK K
   refine Eq.mp (hF _ _ _ _) ?_
   exact kn (uh st19 W1 M6 (d9 (d8 (uh R) bb)) (d9 (((bb).block _ (jc (uh H6))).trans (uh H6)))) (by kernel_rfl) (hG ..)
  refine AllReadyH.cons (o:=⟨some 3,.alloc 39,_,_,_,none⟩) rfl (fun K hK=>?_) ?_
  ·go_simp
   refine hK.out _ _ (KS _ ((uh R).alloc (uh R).size _)) (fun hHeld=>?_)
   clear hK K
   refine Eq.mp (hF _ _ _ _) ?_
   exact kn (uh st22 (World.alloc W (.cells #[.bool false,.slice none 0 0,.slice none 0 0] 39)) W.heap.size M6 (d9 ((uh R).alloc (uh R).size _)) (d9 (uh R).size) (d9 (jf _ _)) (d9 (((((Below.refl W.heap.size W).alloc (Nat.le_refl _) (.cells #[.bool false,.slice none 0 0,.slice none 0 0] 39))).block _ (jc (uh H6))).trans (uh H6)))) (by kernel_rfl) (hG ..)
  exact AllReadyH.nil
  )
 have st24:Hid (∀ (W:World) (M14:Nat),Hid (Below U.heap.size U W)->Hid (U.heap.size<=M14)->Hid (W.heap[M14]? = some (.cells #[.bool false,.slice none 0 0,.slice none 0 0] 39 (0,0)))->F 13 #[true,true,true,false,false,false,false,false,false,false,false,false,false,false,true,false,false] (G (.pointer (some ⟨M14,0,none⟩)) ap (.agg #[.int .i64 v1.kind,.string v1.attr,.slice v1.qi v1.ni v1.ci,.slice v1.qw v1.nw v1.cw,.int .i64 v1.lo,.int .i64 v1.hi,.int .i64 v1.op,.slice v1.qk v1.nk v1.ck]) (.agg #[.int .i64 v1.kind,.string v1.attr,.slice v1.qi v1.ni v1.ci,.slice v1.qw v1.nw v1.cw,.int .i64 v1.lo,.int .i64 v1.hi,.bool false]) (.agg #[.int .i64 v2.kind,.string v2.attr,.slice v2.qi v2.ni v2.ci,.slice v2.qw v2.nw v2.cw,.int .i64 v2.lo,.int .i64 v2.hi,.int .i64 v2.op,.slice v2.qk v2.nk v2.ck]) av aw ax ay az ba bc bd be bf) W):=d9 (by
  intro W M14 R G14 H14
  refine Eq.mpr (hF _ _ _ _) ?_
  rw [hG]
  have hHeld:=KS W (uh R)
  refine wpAnyH_ready (rs:=[3,6]) (by kernel_rfl) (by simp) ?_
  refine AllReadyH.cons (o:=⟨some 21,.call { callee:=.value (.func 45),args:=#[.tmp 20,.const (.bool false)],argTypes:=#[56,4] },_,_,_,none⟩) rfl (fun K hK=>?_) ?_
  ·go_simp
   refine (Fs v2 false _).mono ?_
   rintro e W1 ⟨rfl,bb⟩
   refine hK.out _ _ (KS _ (d8 (uh R) bb)) (fun hHeld=>?_)
   clear hK K
   refine Eq.mp (hF _ _ _ _) ?_
   exact kn (uh st20 W1 M14 (d9 (d8 (uh R) bb)) G14 (d9 (((bb).block _ (jc (uh H14))).trans (uh H14)))) (by kernel_rfl) (hG ..)
  refine AllReadyH.cons (o:=⟨some 24,.buildSlice 23 1 #[(0,.const (.int .i64 3))],_,_,_,none⟩) rfl (fun K hK=>?_) ?_
  ·go_simp
   refine hK.out _ _ (KS _ ((uh R).alloc (uh R).size _)) (fun hHeld=>?_)
   clear hK K
   refine Eq.mp (hF _ _ _ _) ?_
   exact kn (uh st22 (World.alloc W (.cells #[.int .i64 3] 3)) M14 W.heap.size (d9 ((uh R).alloc (uh R).size _)) G14 (d9 (((((Below.refl W.heap.size W).alloc (Nat.le_refl _) (.cells #[.int .i64 3] 3))).block _ (jc (uh H14))).trans (uh H14))) (d9 (jf _ _))) (by kernel_rfl) (hG ..)
  exact AllReadyH.nil
  )
 have st25:Hid (∀ (W:World),Hid (Below U.heap.size U W)->F 14 #[true,true,true,false,false,false,false,false,false,false,false,false,false,false,false,false,false] (G ab ap (.agg #[.int .i64 v1.kind,.string v1.attr,.slice v1.qi v1.ni v1.ci,.slice v1.qw v1.nw v1.cw,.int .i64 v1.lo,.int .i64 v1.hi,.int .i64 v1.op,.slice v1.qk v1.nk v1.ck]) (.agg #[.int .i64 v1.kind,.string v1.attr,.slice v1.qi v1.ni v1.ci,.slice v1.qw v1.nw v1.cw,.int .i64 v1.lo,.int .i64 v1.hi,.bool false]) (.agg #[.int .i64 v2.kind,.string v2.attr,.slice v2.qi v2.ni v2.ci,.slice v2.qw v2.nw v2.cw,.int .i64 v2.lo,.int .i64 v2.hi,.int .i64 v2.op,.slice v2.qk v2.nk v2.ck]) av aw ax ay az ba bc bd be bf) W):=d9 (by
  intro W R
  refine Eq.mpr (hF _ _ _ _) ?_
  rw [hG]
  have hHeld:=KS W (uh R)
  refine wpAnyH_ready (rs:=[3,6,14]) (by kernel_rfl) (by simp) ?_
  refine AllReadyH.cons (o:=⟨some 21,.call { callee:=.value (.func 45),args:=#[.tmp 20,.const (.bool false)],argTypes:=#[56,4] },_,_,_,none⟩) rfl (fun K hK=>?_) ?_
  ·go_simp
   refine (Fs v2 false _).mono ?_
   rintro e W1 ⟨rfl,bb⟩
   refine hK.out _ _ (KS _ (d8 (uh R) bb)) (fun hHeld=>?_)
   clear hK K
   refine Eq.mp (hF _ _ _ _) ?_
   exact kn (uh st21 W1 (d9 (d8 (uh R) bb))) (by kernel_rfl) (hG ..)
  refine AllReadyH.cons (o:=⟨some 24,.buildSlice 23 1 #[(0,.const (.int .i64 3))],_,_,_,none⟩) rfl (fun K hK=>?_) ?_
  ·go_simp
   refine hK.out _ _ (KS _ ((uh R).alloc (uh R).size _)) (fun hHeld=>?_)
   clear hK K
   refine Eq.mp (hF _ _ _ _) ?_
   exact kn (uh st23 (World.alloc W (.cells #[.int .i64 3] 3)) W.heap.size (d9 ((uh R).alloc (uh R).size _)) (d9 (jf _ _))) (by kernel_rfl) (hG ..)
  refine AllReadyH.cons (o:=⟨some 3,.alloc 39,_,_,_,none⟩) rfl (fun K hK=>?_) ?_
  ·go_simp
   refine hK.out _ _ (KS _ ((uh R).alloc (uh R).size _)) (fun hHeld=>?_)
   clear hK K
   refine Eq.mp (hF _ _ _ _) ?_
   exact kn (uh st24 (World.alloc W (.cells #[.bool false,.slice none 0 0,.slice none 0 0] 39)) W.heap.size (d9 ((uh R).alloc (uh R).size _)) (d9 (uh R).size) (d9 (jf _ _))) (by kernel_rfl) (hG ..)
  exact AllReadyH.nil
  )
 have st26:Hid (∀ (W:World) (M14:Nat) (M6:Nat),Hid (Below U.heap.size U W)->Hid (U.heap.size<=M14)->Hid (W.heap[M14]? = some (.cells #[.bool false,.slice none 0 0,.slice none 0 0] 39 (0,0)))->Hid (W.heap[M6]? = some (.cells #[.int .i64 3] 3 (0,0)))->F 13 #[true,false,true,false,false,false,true,false,false,false,false,false,false,false,true,false,false] (G (.pointer (some ⟨M14,0,none⟩)) ap (.agg #[.int .i64 v1.kind,.string v1.attr,.slice v1.qi v1.ni v1.ci,.slice v1.qw v1.nw v1.cw,.int .i64 v1.lo,.int .i64 v1.hi,.int .i64 v1.op,.slice v1.qk v1.nk v1.ck]) ar (.agg #[.int .i64 v2.kind,.string v2.attr,.slice v2.qi v2.ni v2.ci,.slice v2.qw v2.nw v2.cw,.int .i64 v2.lo,.int .i64 v2.hi,.int .i64 v2.op,.slice v2.qk v2.nk v2.ck]) av aw ax (.slice (some ⟨M6,0,none⟩) 1 1) az ba bc bd be bf) W):=d9 (by
  intro W M14 M6 R G14 H14 H6
  refine Eq.mpr (hF _ _ _ _) ?_
  rw [hG]
  have hHeld:=KS W (uh R)
  refine wpAnyH_ready (rs:=[1]) (by kernel_rfl) (by simp) ?_
  refine AllReadyH.cons (o:=⟨some 19,.call { callee:=.value (.func 45),args:=#[.tmp 18,.const (.bool false)],argTypes:=#[56,4] },_,_,_,none⟩) rfl (fun K hK=>?_) ?_
  ·go_simp
   refine (Fs v1 false _).mono ?_
   rintro e W1 ⟨rfl,bb⟩
   refine hK.out _ _ (KS _ (d8 (uh R) bb)) (fun hHeld=>?_)
   clear hK K
   refine Eq.mp (hF _ _ _ _) ?_
   exact kn (uh st22 W1 M14 M6 (d9 (d8 (uh R) bb)) G14 (d9 (((bb).block _ (jc (uh H14))).trans (uh H14))) (d9 (((bb).block _ (jc (uh H6))).trans (uh H6)))) (by kernel_rfl) (hG ..)
  exact AllReadyH.nil
  )
 have st27:Hid (∀ (W:World) (M6:Nat),Hid (Below U.heap.size U W)->Hid (W.heap[M6]? = some (.cells #[.int .i64 3] 3 (0,0)))->F 14 #[true,false,true,false,false,false,true,false,false,false,false,false,false,false,false,false,false] (G ab ap (.agg #[.int .i64 v1.kind,.string v1.attr,.slice v1.qi v1.ni v1.ci,.slice v1.qw v1.nw v1.cw,.int .i64 v1.lo,.int .i64 v1.hi,.int .i64 v1.op,.slice v1.qk v1.nk v1.ck]) ar (.agg #[.int .i64 v2.kind,.string v2.attr,.slice v2.qi v2.ni v2.ci,.slice v2.qw v2.nw v2.cw,.int .i64 v2.lo,.int .i64 v2.hi,.int .i64 v2.op,.slice v2.qk v2.nk v2.ck]) av aw ax (.slice (some ⟨M6,0,none⟩) 1 1) az ba bc bd be bf) W):=d9 (by
  intro W M6 R H6
  refine Eq.mpr (hF _ _ _ _) ?_
  rw [hG]
  have hHeld:=KS W (uh R)
  refine wpAnyH_ready (rs:=[1,14]) (by kernel_rfl) (by simp) ?_
  refine AllReadyH.cons (o:=⟨some 19,.call { callee:=.value (.func 45),args:=#[.tmp 18,.const (.bool false)],argTypes:=#[56,4] },_,_,_,none⟩) rfl (fun K hK=>?_) ?_
  ·go_simp
   refine (Fs v1 false _).mono ?_
   rintro e W1 ⟨rfl,bb⟩
   refine hK.out _ _ (KS _ (d8 (uh R) bb)) (fun hHeld=>?_)
   clear hK K
   refine Eq.mp (hF _ _ _ _) ?_
   exact kn (uh st23 W1 M6 (d9 (d8 (uh R) bb)) (d9 (((bb).block _ (jc (uh H6))).trans (uh H6)))) (by kernel_rfl) (hG ..)
  refine AllReadyH.cons (o:=⟨some 3,.alloc 39,_,_,_,none⟩) rfl (fun K hK=>?_) ?_
  ·go_simp
   refine hK.out _ _ (KS _ ((uh R).alloc (uh R).size _)) (fun hHeld=>?_)
   clear hK K
   refine Eq.mp (hF _ _ _ _) ?_
   exact kn (uh st26 (World.alloc W (.cells #[.bool false,.slice none 0 0,.slice none 0 0] 39)) W.heap.size M6 (d9 ((uh R).alloc (uh R).size _)) (d9 (uh R).size) (d9 (jf _ _)) (d9 (((((Below.refl W.heap.size W).alloc (Nat.le_refl _) (.cells #[.bool false,.slice none 0 0,.slice none 0 0] 39))).block _ (jc (uh H6))).trans (uh H6)))) (by kernel_rfl) (hG ..)
  exact AllReadyH.nil
  )
 have st28:Hid (∀ (W:World) (M14:Nat),Hid (Below U.heap.size U W)->Hid (U.heap.size<=M14)->Hid (W.heap[M14]? = some (.cells #[.bool false,.slice none 0 0,.slice none 0 0] 39 (0,0)))->F 14 #[true,false,true,false,false,false,false,false,false,false,false,false,false,false,true,false,false] (G (.pointer (some ⟨M14,0,none⟩)) ap (.agg #[.int .i64 v1.kind,.string v1.attr,.slice v1.qi v1.ni v1.ci,.slice v1.qw v1.nw v1.cw,.int .i64 v1.lo,.int .i64 v1.hi,.int .i64 v1.op,.slice v1.qk v1.nk v1.ck]) ar (.agg #[.int .i64 v2.kind,.string v2.attr,.slice v2.qi v2.ni v2.ci,.slice v2.qw v2.nw v2.cw,.int .i64 v2.lo,.int .i64 v2.hi,.int .i64 v2.op,.slice v2.qk v2.nk v2.ck]) av aw ax ay az ba bc bd be bf) W):=d9 (by
  intro W M14 R G14 H14
  refine Eq.mpr (hF _ _ _ _) ?_
  rw [hG]
  have hHeld:=KS W (uh R)
  refine wpAnyH_ready (rs:=[1,6]) (by kernel_rfl) (by simp) ?_
  refine AllReadyH.cons (o:=⟨some 19,.call { callee:=.value (.func 45),args:=#[.tmp 18,.const (.bool false)],argTypes:=#[56,4] },_,_,_,none⟩) rfl (fun K hK=>?_) ?_
  ·go_simp
   refine (Fs v1 false _).mono ?_
   rintro e W1 ⟨rfl,bb⟩
   refine hK.out _ _ (KS _ (d8 (uh R) bb)) (fun hHeld=>?_)
   clear hK K
   refine Eq.mp (hF _ _ _ _) ?_
   exact kn (uh st24 W1 M14 (d9 (d8 (uh R) bb)) G14 (d9 (((bb).block _ (jc (uh H14))).trans (uh H14)))) (by kernel_rfl) (hG ..)
  refine AllReadyH.cons (o:=⟨some 24,.buildSlice 23 1 #[(0,.const (.int .i64 3))],_,_,_,none⟩) rfl (fun K hK=>?_) ?_
  ·go_simp
   refine hK.out _ _ (KS _ ((uh R).alloc (uh R).size _)) (fun hHeld=>?_)
   clear hK K
   refine Eq.mp (hF _ _ _ _) ?_
   exact kn (uh st26 (World.alloc W (.cells #[.int .i64 3] 3)) M14 W.heap.size (d9 ((uh R).alloc (uh R).size _)) G14 (d9 (((((Below.refl W.heap.size W).alloc (Nat.le_refl _) (.cells #[.int .i64 3] 3))).block _ (jc (uh H14))).trans (uh H14))) (d9 (jf _ _))) (by kernel_rfl) (hG ..)
  exact AllReadyH.nil
  )
 have st29:Hid (∀ (W:World),Hid (Below U.heap.size U W)->F 17 #[false,false,false,false,false,false,false,false,false,false,false,false,false,false,false,false,false] (G ab ap aq ar au av aw ax ay az ba bc bd be bf) W):=d9 (by
  intro W R
  refine Eq.mpr (hF _ _ _ _) ?_
  rw [hG]
  have hHeld:=KS W (uh R)
  refine wpAnyH_take (i:=0) (oi:=⟨some 18,.load 56 (.tmp 1),_,_,_,none⟩) (v:=?_) rfl (by kernel_rfl) (by kernel_rfl) (by kernel_rfl) (fun c a w=>(uh HP) c a _ _ w) (Or.inl ⟨by rfl, ?_⟩) (by assumption) ?_
  rotate_left
  ·intro wq hSw
   go_simp
   with_reducible rfl
  simp only [Act.put,List.setIfInBounds_toArray,List.set_cons_zero,List.set_cons_succ]
  refine wpAnyH_take (i:=2) (oi:=⟨some 20,.load 56 (.tmp 2),_,_,_,none⟩) (v:=?_) rfl (by kernel_rfl) (by kernel_rfl) (by kernel_rfl) (fun c a w=>(uh HP) c a _ _ w) (Or.inl ⟨by rfl, ?_⟩) (by assumption) ?_
  rotate_left
  ·intro wq hSw
   go_simp
   with_reducible rfl
  simp only [Act.put,List.setIfInBounds_toArray,List.set_cons_zero,List.set_cons_succ]
  refine wpAnyH_ready (rs:=[1,6,14]) (by kernel_rfl) (by simp) ?_
  refine AllReadyH.cons (o:=⟨some 19,.call { callee:=.value (.func 45),args:=#[.tmp 18,.const (.bool false)],argTypes:=#[56,4] },_,_,_,none⟩) rfl (fun K hK=>?_) ?_
  ·go_simp
   refine (Fs v1 false _).mono ?_
   rintro e W1 ⟨rfl,bb⟩
   refine hK.out _ _ (KS _ (d8 (uh R) bb)) (fun hHeld=>?_)
   clear hK K
   refine Eq.mp (hF _ _ _ _) ?_
   exact kn (uh st25 W1 (d9 (d8 (uh R) bb))) (by kernel_rfl) (hG ..)
  refine AllReadyH.cons (o:=⟨some 24,.buildSlice 23 1 #[(0,.const (.int .i64 3))],_,_,_,none⟩) rfl (fun K hK=>?_) ?_
  ·go_simp
   refine hK.out _ _ (KS _ ((uh R).alloc (uh R).size _)) (fun hHeld=>?_)
   clear hK K
   refine Eq.mp (hF _ _ _ _) ?_
   exact kn (uh st27 (World.alloc W (.cells #[.int .i64 3] 3)) W.heap.size (d9 ((uh R).alloc (uh R).size _)) (d9 (jf _ _))) (by kernel_rfl) (hG ..)
  refine AllReadyH.cons (o:=⟨some 3,.alloc 39,_,_,_,none⟩) rfl (fun K hK=>?_) ?_
  ·go_simp
   refine hK.out _ _ (KS _ ((uh R).alloc (uh R).size _)) (fun hHeld=>?_)
   clear hK K
   refine Eq.mp (hF _ _ _ _) ?_
   exact kn (uh st28 (World.alloc W (.cells #[.bool false,.slice none 0 0,.slice none 0 0] 39)) W.heap.size (d9 ((uh R).alloc (uh R).size _)) (d9 (uh R).size) (d9 (jf _ _))) (by kernel_rfl) (hG ..)
  exact AllReadyH.nil
  )
 exact kn (uh st29 _ (d9 (Below.refl _ _).drew)) (by kernel_rfl) (hG ..)
end Go.Proofs.YtimklglliffpcaaGreat

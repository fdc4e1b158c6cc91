/- Two copies of trees, made in any order. -/
import Derived.Test.YtikhopiegaoacaaDoorTTwB
import Derived.Deep.RegionHeld3
namespace Go.Proofs.YtikhopiegaoacaaDoor
open Go.RowKit Go.Sort

/-- The walk of a drawn region, seen as a predicate of what has come up. -/
theorem dp_start {P:Program} {md:Region.Mode} {ops:Array Oper} {Q:Exit→Act→World→Prop} {S:World→Prop} {fuel:Nat} {listed:Array Bool} {a:Act} {w:World} (h:∀ F:Nat→Array Bool→Act→World→Prop,(∀ n l a w,F n l a w=wpAnyH P md ops Q S n l a w)→F fuel listed a w):wpAnyH P md ops Q S fuel listed a w :=
 h (fun n l a w=>wpAnyH P md ops Q S n l a w) (fun _ _ _ _=>rfl)
theorem dp_to {F:Nat→Array Bool→Act→World→Prop} {n:Nat} {l l':Array Bool} {a a':Act} {w:World} (h:F n l' a' w) (hl:l'=l) (ha:a'=a):F n l a w:=by subst hl ha;exact h
/-- A copy whose rows lie in the blocks from lo to hi. -/
def SpR (lo hi:Nat) (W:World) (v:Nv) (t:Nd):Prop:=hi≤W.heap.size∧∀ W':World,hi≤W'.heap.size→(∀ b,lo≤b→b < hi→W'.heap[b]? = W.heap[b]?)→SpIn W' lo v t
theorem SpIn.toR {w:World} {B:Nat} {v:Nv} {t:Nd} (h:SpIn w B v t):SpR B w.heap.size w v t:=⟨Nat.le_refl _,fun _ hs hb=>h.up ⟨hs,hb⟩⟩
theorem SpR.sp {lo hi:Nat} {w:World} {v:Nv} {t:Nd} (h:SpR lo hi w v t):SpIn w lo v t:=h.2 w h.1 fun _ _ _=>rfl
theorem SpR.below {lo hi:Nat} {w w':World} {v:Nv} {t:Nd} (h:SpR lo hi w v t) (hb:Below w.heap.size w w'):SpR lo hi w' v t:=⟨Nat.le_trans h.1 hb.size,fun W hs hq=>h.2 W hs fun b h1 h2=>(hq b h1 h2).trans (hb.block b (Nat.lt_of_lt_of_le h2 h.1))⟩
theorem SpR.set {lo hi:Nat} {w:World} {v:Nv} {t:Nd} {M:Nat} (h:SpR lo hi w v t) (hM:M < lo ∨ hi≤M) (o:Nat) (u:Value):SpR lo hi (w.setCell ⟨M,o,none⟩ u) v t :=
 ⟨by simpa using h.1,fun W hs hq=>h.2 W hs fun b h1 h2=>(hq b h1 h2).trans (Below.heap_setCell _ _ _ _ (by show b ≠ M;omega))⟩
theorem SpR.set8 {lo hi:Nat} {w:World} {v:Nv} {t:Nd} {M:Nat} (h:SpR lo hi w v t) (hM:M < lo ∨ hi≤M) (v0 v1 v2 v3 v4 v5 v6 v7:Value):SpR lo hi ((((((((w.setCell ⟨M,0,none⟩ v0).setCell ⟨M,1,none⟩ v1).setCell ⟨M,2,none⟩ v2).setCell ⟨M,3,none⟩ v3).setCell ⟨M,4,none⟩ v4).setCell ⟨M,5,none⟩ v5).setCell ⟨M,6,none⟩ v6).setCell ⟨M,7,none⟩ v7) v t :=
 (((((((h.set hM 0 v0).set hM 1 v1).set hM 2 v2).set hM 3 v3).set hM 4 v4).set hM 5 v5).set hM 6 v6).set hM 7 v7
theorem box_set8 {V:World} {b:Nat} {c0 c1 c2 c3 c4 c5 c6 c7:Value} (h:V.heap[b]? = some (.cells #[c0,c1,c2,c3,c4,c5,c6,c7] 29 (0,0))) (v0 v1 v2 v3 v4 v5 v6 v7:Value) :
  ((((((((V.setCell ⟨b,0,none⟩ v0).setCell ⟨b,1,none⟩ v1).setCell ⟨b,2,none⟩ v2).setCell ⟨b,3,none⟩ v3).setCell ⟨b,4,none⟩ v4).setCell ⟨b,5,none⟩ v5).setCell ⟨b,6,none⟩ v6).setCell ⟨b,7,none⟩ v7).heap[b]? = some (.cells #[v0,v1,v2,v3,v4,v5,v6,v7] 29 (0,0)):=by
 simp [World.setCell,Array.getElem?_modify,h]
theorem heap_eight {w:World} {M b:Nat} (hne:b ≠ M) (v0 v1 v2 v3 v4 v5 v6 v7:Value):((((((((w.setCell ⟨M,0,none⟩ v0).setCell ⟨M,1,none⟩ v1).setCell ⟨M,2,none⟩ v2).setCell ⟨M,3,none⟩ v3).setCell ⟨M,4,none⟩ v4).setCell ⟨M,5,none⟩ v5).setCell ⟨M,6,none⟩ v6).setCell ⟨M,7,none⟩ v7).heap[b]? = w.heap[b]?:=by
 simp [World.setCell,Array.getElem?_modify,Ne.symm hne]
theorem heap_ltO {w:World} {b:Nat} {o:Obj} (h:w.heap[b]? = some o):b < w.heap.size:=(Array.getElem?_eq_some_iff.1 h).1
/-- Behind the two copies: their boxes, and their rows. -/
structure Two (U W:World) (M N:Nat) (x y:Nv) (a b:Nd):Prop where
 below:Below U.heap.size U W
 hx:W.heap[M]? = some (.cells #[.int .i64 x.kind,.string x.attr,.slice x.qi x.ni x.ci,.slice x.qw x.nw x.cw,.int .i64 x.lo,.int .i64 x.hi,.int .i64 x.op,.slice x.qk x.nk x.ck] 29 (0,0))
 hy:W.heap[N]? = some (.cells #[.int .i64 y.kind,.string y.attr,.slice y.qi y.ni y.ci,.slice y.qw y.nw y.cw,.int .i64 y.lo,.int .i64 y.hi,.int .i64 y.op,.slice y.qk y.nk y.ck] 29 (0,0))
 gx:U.heap.size≤M
 gy:U.heap.size≤N
 sx:SpIn W U.heap.size x a
 sy:SpIn W U.heap.size y b
set_option maxRecDepth 100000 in
set_option maxHeartbeats 40000000 in
theorem reg16 (U:World) (bb bd:Nat) (vb vd:Nv) (tb td:Nd) (iB:NdIn U vb tb) (iD:NdIn U vd td) (kB:wtN tb≤1000000000) (kD:wtN td≤1000000000)
  (xB:U.heap[bb]? = some (.cells #[.int .i64 vb.kind,.string vb.attr,.slice vb.qi vb.ni vb.ci,.slice vb.qw vb.nw vb.cw,.int .i64 vb.lo,.int .i64 vb.hi,.int .i64 vb.op,.slice vb.qk vb.nk vb.ck] 29 (0,0))) (xD:U.heap[bd]? = some (.cells #[.int .i64 vd.kind,.string vd.attr,.slice vd.qi vd.ni vd.ci,.slice vd.qw vd.nw vd.cw,.int .i64 vd.lo,.int .i64 vd.hi,.int .i64 vd.op,.slice vd.qk vd.nk vd.ck] 29 (0,0)))
  (aa ab ac ad ae af ag ah ai aj ak al am an ao ap aq ar au av aw ax ay az ba bc be bf bg bh bi bj bk bl bm bn bo bp bq br bs bt bu bv bw bx bz ca cb cc cd ce cf cg ch cj cl cm cn co cp cq cr cs ct cu cv cx cy cz da db dc dd de df dg dh di dj dk dl dm dn dp dq dr ds dt du dv dw dx dy dz ea eb ec ed ee ef eg eh ei ej ek el em en eo ep er es et eu:Value) (d:List Deferred) (Q:Exit→Act→World→Prop) (hP:∀ c (a:Act) o v w,Q (.panic c) (a.put o v) w→Q (.panic c) a w)
  (hQ:∀ (W:World) (x y:Nv) (M N:Nat) (t57 t58 t59 t60:Value),Two U W M N x y tb td→Q .normal (Act.mk #[aa,ab,ac,ad,ae,af,ag,.pointer (some ⟨bb,0,none⟩),ah,.pointer (some ⟨bd,0,none⟩),ai,aj,ak,al,.pointer (some ⟨M,0,none⟩),.pointer (some ⟨N,0,none⟩),ao,ap,aq,ar,au,av,aw,ax,ay,az,ba,bc,be,bf,bg,bh,bi,bj,bk,bl,bm,bn,bo,bp,bq,br,bs,bt,bu,bv,bw,bx,bz,ca,cb,cc,cd,ce,cf,cg,ch,t57,t58,t59,t60,co,cp,cq,cr,cs,ct,cu,cv,cx,cy,cz,da,db,dc,dd,de,df,dg,dh,di,dj,dk,dl,dm,dn,dp,dq,dr,ds,dt,du,dv,dw,dx,dy,dz,ea,eb,ec,ed,ee,ef,eg,eh,ei,ej,ek,el,em,en,eo,ep,er,es,et,eu] d) W) :
  (Code.region 16 #[{ dst:=some 57,op:=Op.load 29 (Operand.tmp 7),type:=29,pos:="law.go:129",after:=#[],guard:=none },{ dst:=some 58,op:=Op.call { callee:=Callee.value (Operand.func 5),args:=#[Operand.tmp 57],argTypes:=#[29] },type:=29,pos:="law.go:129",after:=#[{ on:=0,ground:=Ground.data }],guard:=none },{ dst:=some 59,op:=Op.load 29 (Operand.tmp 9),type:=29,pos:="law.go:129",after:=#[],guard:=none },{ dst:=some 60,op:=Op.call { callee:=Callee.value (Operand.func 5),args:=#[Operand.tmp 59],argTypes:=#[29] },type:=29,pos:="law.go:129",after:=#[{ on:=2,ground:=Ground.data },{ on:=1,ground:=Ground.chain }],guard:=none },{ dst:=some 14,op:=Op.alloc 29,type:=0,pos:="law.go:129",after:=#[],guard:=none },{ dst:=some 15,op:=Op.alloc 29,type:=0,pos:="law.go:129",after:=#[],guard:=none },{ dst:=none,op:=Op.store 29 (Operand.tmp 14) (Operand.tmp 58),type:=0,pos:="law.go:129",after:=#[{ on:=4,ground:=Ground.data },{ on:=1,ground:=Ground.data },{ on:=3,ground:=Ground.chain },{ on:=0,ground:=Ground.phase },{ on:=1,ground:=Ground.phase },{ on:=2,ground:=Ground.textOnly Departure.lateStores },{ on:=3,ground:=Ground.textOnly Departure.lateStoresUnsure },{ on:=4,ground:=Ground.phase },{ on:=5,ground:=Ground.phase }],guard:=none },{ dst:=none,op:=Op.store 29 (Operand.tmp 15) (Operand.tmp 60),type:=0,pos:="law.go:129",after:=#[{ on:=5,ground:=Ground.data },{ on:=3,ground:=Ground.data },{ on:=6,ground:=Ground.chain },{ on:=0,ground:=Ground.phase },{ on:=1,ground:=Ground.phase },{ on:=2,ground:=Ground.phase },{ on:=3,ground:=Ground.phase },{ on:=4,ground:=Ground.phase },{ on:=5,ground:=Ground.phase },{ on:=6,ground:=Ground.phase }],guard:=none }] true).wp Tryd.prog Q (Act.mk #[aa,ab,ac,ad,ae,af,ag,.pointer (some ⟨bb,0,none⟩),ah,.pointer (some ⟨bd,0,none⟩),ai,aj,ak,al,am,an,ao,ap,aq,ar,au,av,aw,ax,ay,az,ba,bc,be,bf,bg,bh,bi,bj,bk,bl,bm,bn,bo,bp,bq,br,bs,bt,bu,bv,bw,bx,bz,ca,cb,cc,cd,ce,cf,cg,ch,cj,cl,cm,cn,co,cp,cq,cr,cs,ct,cu,cv,cx,cy,cz,da,db,dc,dd,de,df,dg,dh,di,dj,dk,dl,dm,dn,dp,dq,dr,ds,dt,du,dv,dw,dx,dy,dz,ea,eb,ec,ed,ee,ef,eg,eh,ei,ej,ek,el,em,en,eo,ep,er,es,et,eu] d) U:=by
 have KS:∀ W,Below U.heap.size U W→(fun w'=>w'.cell? ⟨bb,0,none⟩=some (.int .i64 vb.kind)∧w'.cell? ⟨bb,1,none⟩=some (.string vb.attr)∧w'.cell? ⟨bb,2,none⟩=some (.slice vb.qi vb.ni vb.ci)∧w'.cell? ⟨bb,3,none⟩=some (.slice vb.qw vb.nw vb.cw)∧w'.cell? ⟨bb,4,none⟩=some (.int .i64 vb.lo)∧w'.cell? ⟨bb,5,none⟩=some (.int .i64 vb.hi)∧w'.cell? ⟨bb,6,none⟩=some (.int .i64 vb.op)∧w'.cell? ⟨bb,7,none⟩=some (.slice vb.qk vb.nk vb.ck)∧w'.cell? ⟨bd,0,none⟩=some (.int .i64 vd.kind)∧w'.cell? ⟨bd,1,none⟩=some (.string vd.attr)∧w'.cell? ⟨bd,2,none⟩=some (.slice vd.qi vd.ni vd.ci)∧w'.cell? ⟨bd,3,none⟩=some (.slice vd.qw vd.nw vd.cw)∧w'.cell? ⟨bd,4,none⟩=some (.int .i64 vd.lo)∧w'.cell? ⟨bd,5,none⟩=some (.int .i64 vd.hi)∧w'.cell? ⟨bd,6,none⟩=some (.int .i64 vd.op)∧w'.cell? ⟨bd,7,none⟩=some (.slice vd.qk vd.nk vd.ck)) W:=fun W hb=>by
  have h1:=of8' ((hb.block _ (heap_ltO xB)).trans xB)
  have h2:=of8' ((hb.block _ (heap_ltO xD)).trans xD)
  exact ⟨h1.1,h1.2.1,h1.2.2.1,h1.2.2.2.1,h1.2.2.2.2.1,h1.2.2.2.2.2.1,h1.2.2.2.2.2.2.1,h1.2.2.2.2.2.2.2,h2⟩
 have cB:∀ W,Below U.heap.size U W→Calls Tryd.prog 5 #[.agg #[.int .i64 vb.kind,.string vb.attr,.slice vb.qi vb.ni vb.ci,.slice vb.qw vb.nw vb.cw,.int .i64 vb.lo,.int .i64 vb.hi,.int .i64 vb.op,.slice vb.qk vb.nk vb.ck]] W fun e w'=>(∃ v':Nv,e=.returned (.agg #[.int .i64 v'.kind,.string v'.attr,.slice v'.qi v'.ni v'.ci,.slice v'.qw v'.nw v'.cw,.int .i64 v'.lo,.int .i64 v'.hi,.int .i64 v'.op,.slice v'.qk v'.nk v'.ck])∧SpIn w' W.heap.size v' tb)∧Below W.heap.size W w':=fun W hb=>node_any tb vb W (iB.keep hb) kB
 have cD:∀ W,Below U.heap.size U W→Calls Tryd.prog 5 #[.agg #[.int .i64 vd.kind,.string vd.attr,.slice vd.qi vd.ni vd.ci,.slice vd.qw vd.nw vd.cw,.int .i64 vd.lo,.int .i64 vd.hi,.int .i64 vd.op,.slice vd.qk vd.nk vd.ck]] W fun e w'=>(∃ v':Nv,e=.returned (.agg #[.int .i64 v'.kind,.string v'.attr,.slice v'.qi v'.ni v'.ci,.slice v'.qw v'.nw v'.cw,.int .i64 v'.lo,.int .i64 v'.hi,.int .i64 v'.op,.slice v'.qk v'.nk v'.ck])∧SpIn w' W.heap.size v' td)∧Below W.heap.size W w':=fun W hb=>node_any td vd W (iD.keep hb) kD
 have HQ:=hide hQ
 have HP:=hide hP
 clear hP hQ iB iD kB kD xB xD
 refine wp_region_held_drew (S:=fun w'=>w'.cell? ⟨bb,0,none⟩=some (.int .i64 vb.kind)∧w'.cell? ⟨bb,1,none⟩=some (.string vb.attr)∧w'.cell? ⟨bb,2,none⟩=some (.slice vb.qi vb.ni vb.ci)∧w'.cell? ⟨bb,3,none⟩=some (.slice vb.qw vb.nw vb.cw)∧w'.cell? ⟨bb,4,none⟩=some (.int .i64 vb.lo)∧w'.cell? ⟨bb,5,none⟩=some (.int .i64 vb.hi)∧w'.cell? ⟨bb,6,none⟩=some (.int .i64 vb.op)∧w'.cell? ⟨bb,7,none⟩=some (.slice vb.qk vb.nk vb.ck)∧w'.cell? ⟨bd,0,none⟩=some (.int .i64 vd.kind)∧w'.cell? ⟨bd,1,none⟩=some (.string vd.attr)∧w'.cell? ⟨bd,2,none⟩=some (.slice vd.qi vd.ni vd.ci)∧w'.cell? ⟨bd,3,none⟩=some (.slice vd.qw vd.nw vd.cw)∧w'.cell? ⟨bd,4,none⟩=some (.int .i64 vd.lo)∧w'.cell? ⟨bd,5,none⟩=some (.int .i64 vd.hi)∧w'.cell? ⟨bd,6,none⟩=some (.int .i64 vd.op)∧w'.cell? ⟨bd,7,none⟩=some (.slice vd.qk vd.nk vd.ck)) (by kernel_rfl) (KS _ (Below.refl _ _).drew) (fun hHeld=>?_)
 clear hHeld
 refine dp_start ?_
 intro F hF
 have st0:Hid (∀ (W:World) (M4:Nat) (M5:Nat) (hi1:Nat) (hi3:Nat) (lo1:Nat) (lo3:Nat) (x:Nv) (y:Nv),Hid (Below U.heap.size U W)→Hid (M4 ≠ M5)→Hid (SpR lo1 hi1 W x tb)→Hid (SpR lo3 hi3 W y td)→Hid (U.heap.size≤M4)→Hid (U.heap.size≤M5)→Hid (W.heap[M4]? = some (.cells #[.int .i64 x.kind,.string x.attr,.slice x.qi x.ni x.ci,.slice x.qw x.nw x.cw,.int .i64 x.lo,.int .i64 x.hi,.int .i64 x.op,.slice x.qk x.nk x.ck] 29 (0,0)))→Hid (W.heap[M5]? = some (.cells #[.int .i64 y.kind,.string y.attr,.slice y.qi y.ni y.ci,.slice y.qw y.nw y.cw,.int .i64 y.lo,.int .i64 y.hi,.int .i64 y.op,.slice y.qk y.nk y.ck] 29 (0,0)))→Hid (U.heap.size≤lo1)→Hid (U.heap.size≤lo3)→Hid (M4 < lo1 ∨ hi1≤M4)→Hid (M4 < lo3 ∨ hi3≤M4)→Hid (M5 < lo1 ∨ hi1≤M5)→Hid (M5 < lo3 ∨ hi3≤M5)→F 0 #[true,true,true,true,true,true,true,true] (Act.mk #[aa,ab,ac,ad,ae,af,ag,.pointer (some ⟨bb,0,none⟩),ah,.pointer (some ⟨bd,0,none⟩),ai,aj,ak,al,.pointer (some ⟨M4,0,none⟩),.pointer (some ⟨M5,0,none⟩),ao,ap,aq,ar,au,av,aw,ax,ay,az,ba,bc,be,bf,bg,bh,bi,bj,bk,bl,bm,bn,bo,bp,bq,br,bs,bt,bu,bv,bw,bx,bz,ca,cb,cc,cd,ce,cf,cg,ch,.agg #[.int .i64 vb.kind,.string vb.attr,.slice vb.qi vb.ni vb.ci,.slice vb.qw vb.nw vb.cw,.int .i64 vb.lo,.int .i64 vb.hi,.int .i64 vb.op,.slice vb.qk vb.nk vb.ck],.agg #[.int .i64 x.kind,.string x.attr,.slice x.qi x.ni x.ci,.slice x.qw x.nw x.cw,.int .i64 x.lo,.int .i64 x.hi,.int .i64 x.op,.slice x.qk x.nk x.ck],.agg #[.int .i64 vd.kind,.string vd.attr,.slice vd.qi vd.ni vd.ci,.slice vd.qw vd.nw vd.cw,.int .i64 vd.lo,.int .i64 vd.hi,.int .i64 vd.op,.slice vd.qk vd.nk vd.ck],.agg #[.int .i64 y.kind,.string y.attr,.slice y.qi y.ni y.ci,.slice y.qw y.nw y.cw,.int .i64 y.lo,.int .i64 y.hi,.int .i64 y.op,.slice y.qk y.nk y.ck],co,cp,cq,cr,cs,ct,cu,cv,cx,cy,cz,da,db,dc,dd,de,df,dg,dh,di,dj,dk,dl,dm,dn,dp,dq,dr,ds,dt,du,dv,dw,dx,dy,dz,ea,eb,ec,ed,ee,ef,eg,eh,ei,ej,ek,el,em,en,eo,ep,er,es,et,eu] d) W):=hide (by
  intro W M4 M5 hi1 hi3 lo1 lo3 x y R E45 F1 F3 G4 G5 H4 H5 L1 L3 N41 N43 N51 N53
  refine Eq.mpr (hF _ _ _ _) ?_
  have hHeld:=KS W (uh R)
  refine wpAnyH_done (by kernel_rfl) ?_ _
  exact (uh HQ) W x y M4 M5 _ _ _ _ ⟨uh R,uh H4,uh H5,uh G4,uh G5,(uh F1).sp.mono (uh L1),(uh F3).sp.mono (uh L3)⟩
  )
 have st1:Hid (∀ (W:World) (M4:Nat) (M5:Nat) (hi1:Nat) (hi3:Nat) (lo1:Nat) (lo3:Nat) (x:Nv) (y:Nv),Hid (Below U.heap.size U W)→Hid (M4 ≠ M5)→Hid (SpR lo1 hi1 W x tb)→Hid (SpR lo3 hi3 W y td)→Hid (U.heap.size≤M4)→Hid (U.heap.size≤M5)→Hid (W.heap[M4]? = some (.cells #[.int .i64 x.kind,.string x.attr,.slice x.qi x.ni x.ci,.slice x.qw x.nw x.cw,.int .i64 x.lo,.int .i64 x.hi,.int .i64 x.op,.slice x.qk x.nk x.ck] 29 (0,0)))→Hid (W.heap[M5]? = some (.cells #[.int .i64 0,.string ⟨#[]⟩,.slice none 0 0,.slice none 0 0,.int .i64 0,.int .i64 0,.int .i64 0,.slice none 0 0] 29 (0,0)))→Hid (U.heap.size≤lo1)→Hid (U.heap.size≤lo3)→Hid (M4 < lo1 ∨ hi1≤M4)→Hid (M4 < lo3 ∨ hi3≤M4)→Hid (M5 < lo1 ∨ hi1≤M5)→Hid (M5 < lo3 ∨ hi3≤M5)→F 1 #[true,true,true,true,true,true,true,false] (Act.mk #[aa,ab,ac,ad,ae,af,ag,.pointer (some ⟨bb,0,none⟩),ah,.pointer (some ⟨bd,0,none⟩),ai,aj,ak,al,.pointer (some ⟨M4,0,none⟩),.pointer (some ⟨M5,0,none⟩),ao,ap,aq,ar,au,av,aw,ax,ay,az,ba,bc,be,bf,bg,bh,bi,bj,bk,bl,bm,bn,bo,bp,bq,br,bs,bt,bu,bv,bw,bx,bz,ca,cb,cc,cd,ce,cf,cg,ch,.agg #[.int .i64 vb.kind,.string vb.attr,.slice vb.qi vb.ni vb.ci,.slice vb.qw vb.nw vb.cw,.int .i64 vb.lo,.int .i64 vb.hi,.int .i64 vb.op,.slice vb.qk vb.nk vb.ck],.agg #[.int .i64 x.kind,.string x.attr,.slice x.qi x.ni x.ci,.slice x.qw x.nw x.cw,.int .i64 x.lo,.int .i64 x.hi,.int .i64 x.op,.slice x.qk x.nk x.ck],.agg #[.int .i64 vd.kind,.string vd.attr,.slice vd.qi vd.ni vd.ci,.slice vd.qw vd.nw vd.cw,.int .i64 vd.lo,.int .i64 vd.hi,.int .i64 vd.op,.slice vd.qk vd.nk vd.ck],.agg #[.int .i64 y.kind,.string y.attr,.slice y.qi y.ni y.ci,.slice y.qw y.nw y.cw,.int .i64 y.lo,.int .i64 y.hi,.int .i64 y.op,.slice y.qk y.nk y.ck],co,cp,cq,cr,cs,ct,cu,cv,cx,cy,cz,da,db,dc,dd,de,df,dg,dh,di,dj,dk,dl,dm,dn,dp,dq,dr,ds,dt,du,dv,dw,dx,dy,dz,ea,eb,ec,ed,ee,ef,eg,eh,ei,ej,ek,el,em,en,eo,ep,er,es,et,eu] d) W):=hide (by
  intro W M4 M5 hi1 hi3 lo1 lo3 x y R E45 F1 F3 G4 G5 H4 H5 L1 L3 N41 N43 N51 N53
  refine Eq.mpr (hF _ _ _ _) ?_
  have hHeld:=KS W (uh R)
  refine wpAnyH_ready (rs:=[7]) (by kernel_rfl) (by simp) ?_
  refine AllReadyH.cons (o:=⟨none,.store 29 (.tmp 15) (.tmp 60),_,_,_,none⟩) rfl (fun K hK=>?_) ?_
  ·obtain ⟨y0,y1,y2,y3,y4,y5,y6,y7⟩:=of8' (uh H5)
   have yf:=fun o=>frozen_free (o:=o) (uh H5)
   go_simp
   refine hK.out _ _ (KS _ (((((((((uh R).setCell (p:=⟨M5,0,none⟩) (uh G5) (.int .i64 y.kind)).setCell (p:=⟨M5,1,none⟩) (uh G5) (.string y.attr)).setCell (p:=⟨M5,2,none⟩) (uh G5) (.slice y.qi y.ni y.ci)).setCell (p:=⟨M5,3,none⟩) (uh G5) (.slice y.qw y.nw y.cw)).setCell (p:=⟨M5,4,none⟩) (uh G5) (.int .i64 y.lo)).setCell (p:=⟨M5,5,none⟩) (uh G5) (.int .i64 y.hi)).setCell (p:=⟨M5,6,none⟩) (uh G5) (.int .i64 y.op)).setCell (p:=⟨M5,7,none⟩) (uh G5) (.slice y.qk y.nk y.ck))) (fun hHeld=>?_)
   clear hK K
   refine Eq.mp (hF _ _ _ _) ?_
   exact dp_to (uh st0 (World.setCell (World.setCell (World.setCell (World.setCell (World.setCell (World.setCell (World.setCell (World.setCell W ⟨M5,0,none⟩ (.int .i64 y.kind)) ⟨M5,1,none⟩ (.string y.attr)) ⟨M5,2,none⟩ (.slice y.qi y.ni y.ci)) ⟨M5,3,none⟩ (.slice y.qw y.nw y.cw)) ⟨M5,4,none⟩ (.int .i64 y.lo)) ⟨M5,5,none⟩ (.int .i64 y.hi)) ⟨M5,6,none⟩ (.int .i64 y.op)) ⟨M5,7,none⟩ (.slice y.qk y.nk y.ck)) M4 M5 hi1 hi3 lo1 lo3 x y (hide (((((((((uh R).setCell (p:=⟨M5,0,none⟩) (uh G5) (.int .i64 y.kind)).setCell (p:=⟨M5,1,none⟩) (uh G5) (.string y.attr)).setCell (p:=⟨M5,2,none⟩) (uh G5) (.slice y.qi y.ni y.ci)).setCell (p:=⟨M5,3,none⟩) (uh G5) (.slice y.qw y.nw y.cw)).setCell (p:=⟨M5,4,none⟩) (uh G5) (.int .i64 y.lo)).setCell (p:=⟨M5,5,none⟩) (uh G5) (.int .i64 y.hi)).setCell (p:=⟨M5,6,none⟩) (uh G5) (.int .i64 y.op)).setCell (p:=⟨M5,7,none⟩) (uh G5) (.slice y.qk y.nk y.ck))) (hide (uh E45)) (hide ((uh F1).set8 (uh N51) _ _ _ _ _ _ _ _)) (hide ((uh F3).set8 (uh N53) _ _ _ _ _ _ _ _)) (hide (uh G4)) (hide (uh G5)) (hide ((heap_eight (uh E45) _ _ _ _ _ _ _ _).trans (uh H4))) (hide (box_set8 (uh H5) _ _ _ _ _ _ _ _)) (hide (uh L1)) (hide (uh L3)) (hide (uh N41)) (hide (uh N43)) (hide (uh N51)) (hide (uh N53))) (by kernel_rfl) rfl
  exact AllReadyH.nil
  )
 have st2:Hid (∀ (W:World) (M4:Nat) (M5:Nat) (hi1:Nat) (hi3:Nat) (lo1:Nat) (lo3:Nat) (x:Nv) (y:Nv),Hid (Below U.heap.size U W)→Hid (M4 ≠ M5)→Hid (SpR lo1 hi1 W x tb)→Hid (SpR lo3 hi3 W y td)→Hid (U.heap.size≤M4)→Hid (U.heap.size≤M5)→Hid (W.heap[M4]? = some (.cells #[.int .i64 0,.string ⟨#[]⟩,.slice none 0 0,.slice none 0 0,.int .i64 0,.int .i64 0,.int .i64 0,.slice none 0 0] 29 (0,0)))→Hid (W.heap[M5]? = some (.cells #[.int .i64 0,.string ⟨#[]⟩,.slice none 0 0,.slice none 0 0,.int .i64 0,.int .i64 0,.int .i64 0,.slice none 0 0] 29 (0,0)))→Hid (U.heap.size≤lo1)→Hid (U.heap.size≤lo3)→Hid (M4 < lo1 ∨ hi1≤M4)→Hid (M4 < lo3 ∨ hi3≤M4)→Hid (M5 < lo1 ∨ hi1≤M5)→Hid (M5 < lo3 ∨ hi3≤M5)→F 2 #[true,true,true,true,true,true,false,false] (Act.mk #[aa,ab,ac,ad,ae,af,ag,.pointer (some ⟨bb,0,none⟩),ah,.pointer (some ⟨bd,0,none⟩),ai,aj,ak,al,.pointer (some ⟨M4,0,none⟩),.pointer (some ⟨M5,0,none⟩),ao,ap,aq,ar,au,av,aw,ax,ay,az,ba,bc,be,bf,bg,bh,bi,bj,bk,bl,bm,bn,bo,bp,bq,br,bs,bt,bu,bv,bw,bx,bz,ca,cb,cc,cd,ce,cf,cg,ch,.agg #[.int .i64 vb.kind,.string vb.attr,.slice vb.qi vb.ni vb.ci,.slice vb.qw vb.nw vb.cw,.int .i64 vb.lo,.int .i64 vb.hi,.int .i64 vb.op,.slice vb.qk vb.nk vb.ck],.agg #[.int .i64 x.kind,.string x.attr,.slice x.qi x.ni x.ci,.slice x.qw x.nw x.cw,.int .i64 x.lo,.int .i64 x.hi,.int .i64 x.op,.slice x.qk x.nk x.ck],.agg #[.int .i64 vd.kind,.string vd.attr,.slice vd.qi vd.ni vd.ci,.slice vd.qw vd.nw vd.cw,.int .i64 vd.lo,.int .i64 vd.hi,.int .i64 vd.op,.slice vd.qk vd.nk vd.ck],.agg #[.int .i64 y.kind,.string y.attr,.slice y.qi y.ni y.ci,.slice y.qw y.nw y.cw,.int .i64 y.lo,.int .i64 y.hi,.int .i64 y.op,.slice y.qk y.nk y.ck],co,cp,cq,cr,cs,ct,cu,cv,cx,cy,cz,da,db,dc,dd,de,df,dg,dh,di,dj,dk,dl,dm,dn,dp,dq,dr,ds,dt,du,dv,dw,dx,dy,dz,ea,eb,ec,ed,ee,ef,eg,eh,ei,ej,ek,el,em,en,eo,ep,er,es,et,eu] d) W):=hide (by
  intro W M4 M5 hi1 hi3 lo1 lo3 x y R E45 F1 F3 G4 G5 H4 H5 L1 L3 N41 N43 N51 N53
  refine Eq.mpr (hF _ _ _ _) ?_
  have hHeld:=KS W (uh R)
  refine wpAnyH_ready (rs:=[6]) (by kernel_rfl) (by simp) ?_
  refine AllReadyH.cons (o:=⟨none,.store 29 (.tmp 14) (.tmp 58),_,_,_,none⟩) rfl (fun K hK=>?_) ?_
  ·obtain ⟨y0,y1,y2,y3,y4,y5,y6,y7⟩:=of8' (uh H4)
   have yf:=fun o=>frozen_free (o:=o) (uh H4)
   go_simp
   refine hK.out _ _ (KS _ (((((((((uh R).setCell (p:=⟨M4,0,none⟩) (uh G4) (.int .i64 x.kind)).setCell (p:=⟨M4,1,none⟩) (uh G4) (.string x.attr)).setCell (p:=⟨M4,2,none⟩) (uh G4) (.slice x.qi x.ni x.ci)).setCell (p:=⟨M4,3,none⟩) (uh G4) (.slice x.qw x.nw x.cw)).setCell (p:=⟨M4,4,none⟩) (uh G4) (.int .i64 x.lo)).setCell (p:=⟨M4,5,none⟩) (uh G4) (.int .i64 x.hi)).setCell (p:=⟨M4,6,none⟩) (uh G4) (.int .i64 x.op)).setCell (p:=⟨M4,7,none⟩) (uh G4) (.slice x.qk x.nk x.ck))) (fun hHeld=>?_)
   clear hK K
   refine Eq.mp (hF _ _ _ _) ?_
   exact dp_to (uh st1 (World.setCell (World.setCell (World.setCell (World.setCell (World.setCell (World.setCell (World.setCell (World.setCell W ⟨M4,0,none⟩ (.int .i64 x.kind)) ⟨M4,1,none⟩ (.string x.attr)) ⟨M4,2,none⟩ (.slice x.qi x.ni x.ci)) ⟨M4,3,none⟩ (.slice x.qw x.nw x.cw)) ⟨M4,4,none⟩ (.int .i64 x.lo)) ⟨M4,5,none⟩ (.int .i64 x.hi)) ⟨M4,6,none⟩ (.int .i64 x.op)) ⟨M4,7,none⟩ (.slice x.qk x.nk x.ck)) M4 M5 hi1 hi3 lo1 lo3 x y (hide (((((((((uh R).setCell (p:=⟨M4,0,none⟩) (uh G4) (.int .i64 x.kind)).setCell (p:=⟨M4,1,none⟩) (uh G4) (.string x.attr)).setCell (p:=⟨M4,2,none⟩) (uh G4) (.slice x.qi x.ni x.ci)).setCell (p:=⟨M4,3,none⟩) (uh G4) (.slice x.qw x.nw x.cw)).setCell (p:=⟨M4,4,none⟩) (uh G4) (.int .i64 x.lo)).setCell (p:=⟨M4,5,none⟩) (uh G4) (.int .i64 x.hi)).setCell (p:=⟨M4,6,none⟩) (uh G4) (.int .i64 x.op)).setCell (p:=⟨M4,7,none⟩) (uh G4) (.slice x.qk x.nk x.ck))) (hide (uh E45)) (hide ((uh F1).set8 (uh N41) _ _ _ _ _ _ _ _)) (hide ((uh F3).set8 (uh N43) _ _ _ _ _ _ _ _)) (hide (uh G4)) (hide (uh G5)) (hide (box_set8 (uh H4) _ _ _ _ _ _ _ _)) (hide ((heap_eight (uh E45).symm _ _ _ _ _ _ _ _).trans (uh H5))) (hide (uh L1)) (hide (uh L3)) (hide (uh N41)) (hide (uh N43)) (hide (uh N51)) (hide (uh N53))) (by kernel_rfl) rfl
  exact AllReadyH.nil
  )
 have st3:Hid (∀ (W:World) (M4:Nat) (hi1:Nat) (hi3:Nat) (lo1:Nat) (lo3:Nat) (x:Nv) (y:Nv),Hid (Below U.heap.size U W)→Hid (SpR lo1 hi1 W x tb)→Hid (SpR lo3 hi3 W y td)→Hid (U.heap.size≤M4)→Hid (W.heap[M4]? = some (.cells #[.int .i64 0,.string ⟨#[]⟩,.slice none 0 0,.slice none 0 0,.int .i64 0,.int .i64 0,.int .i64 0,.slice none 0 0] 29 (0,0)))→Hid (U.heap.size≤lo1)→Hid (U.heap.size≤lo3)→Hid (M4 < lo1 ∨ hi1≤M4)→Hid (M4 < lo3 ∨ hi3≤M4)→F 3 #[true,true,true,true,true,false,false,false] (Act.mk #[aa,ab,ac,ad,ae,af,ag,.pointer (some ⟨bb,0,none⟩),ah,.pointer (some ⟨bd,0,none⟩),ai,aj,ak,al,.pointer (some ⟨M4,0,none⟩),an,ao,ap,aq,ar,au,av,aw,ax,ay,az,ba,bc,be,bf,bg,bh,bi,bj,bk,bl,bm,bn,bo,bp,bq,br,bs,bt,bu,bv,bw,bx,bz,ca,cb,cc,cd,ce,cf,cg,ch,.agg #[.int .i64 vb.kind,.string vb.attr,.slice vb.qi vb.ni vb.ci,.slice vb.qw vb.nw vb.cw,.int .i64 vb.lo,.int .i64 vb.hi,.int .i64 vb.op,.slice vb.qk vb.nk vb.ck],.agg #[.int .i64 x.kind,.string x.attr,.slice x.qi x.ni x.ci,.slice x.qw x.nw x.cw,.int .i64 x.lo,.int .i64 x.hi,.int .i64 x.op,.slice x.qk x.nk x.ck],.agg #[.int .i64 vd.kind,.string vd.attr,.slice vd.qi vd.ni vd.ci,.slice vd.qw vd.nw vd.cw,.int .i64 vd.lo,.int .i64 vd.hi,.int .i64 vd.op,.slice vd.qk vd.nk vd.ck],.agg #[.int .i64 y.kind,.string y.attr,.slice y.qi y.ni y.ci,.slice y.qw y.nw y.cw,.int .i64 y.lo,.int .i64 y.hi,.int .i64 y.op,.slice y.qk y.nk y.ck],co,cp,cq,cr,cs,ct,cu,cv,cx,cy,cz,da,db,dc,dd,de,df,dg,dh,di,dj,dk,dl,dm,dn,dp,dq,dr,ds,dt,du,dv,dw,dx,dy,dz,ea,eb,ec,ed,ee,ef,eg,eh,ei,ej,ek,el,em,en,eo,ep,er,es,et,eu] d) W):=hide (by
  intro W M4 hi1 hi3 lo1 lo3 x y R F1 F3 G4 H4 L1 L3 N41 N43
  refine Eq.mpr (hF _ _ _ _) ?_
  have hHeld:=KS W (uh R)
  refine wpAnyH_ready (rs:=[5]) (by kernel_rfl) (by simp) ?_
  refine AllReadyH.cons (o:=⟨some 15,.alloc 29,_,_,_,none⟩) rfl (fun K hK=>?_) ?_
  ·go_simp
   refine hK.out _ _ (KS _ ((uh R).alloc (uh R).size (.cells #[.int .i64 0,.string ⟨#[]⟩,.slice none 0 0,.slice none 0 0,.int .i64 0,.int .i64 0,.int .i64 0,.slice none 0 0] 29))) (fun hHeld=>?_)
   clear hK K
   refine Eq.mp (hF _ _ _ _) ?_
   exact dp_to (uh st2 (World.alloc W (.cells #[.int .i64 0,.string ⟨#[]⟩,.slice none 0 0,.slice none 0 0,.int .i64 0,.int .i64 0,.int .i64 0,.slice none 0 0] 29)) M4 W.heap.size hi1 hi3 lo1 lo3 x y (hide ((uh R).alloc (uh R).size _)) (hide (Nat.ne_of_lt (heap_ltO (uh H4)))) (hide ((uh F1).below (((Below.refl W.heap.size W).alloc (Nat.le_refl _) (.cells #[.int .i64 0,.string ⟨#[]⟩,.slice none 0 0,.slice none 0 0,.int .i64 0,.int .i64 0,.int .i64 0,.slice none 0 0] 29))))) (hide ((uh F3).below (((Below.refl W.heap.size W).alloc (Nat.le_refl _) (.cells #[.int .i64 0,.string ⟨#[]⟩,.slice none 0 0,.slice none 0 0,.int .i64 0,.int .i64 0,.int .i64 0,.slice none 0 0] 29))))) G4 (hide (uh R).size) (hide (((((Below.refl W.heap.size W).alloc (Nat.le_refl _) (.cells #[.int .i64 0,.string ⟨#[]⟩,.slice none 0 0,.slice none 0 0,.int .i64 0,.int .i64 0,.int .i64 0,.slice none 0 0] 29))).block _ (heap_ltO (uh H4))).trans (uh H4))) (hide (box_nw _ _)) L1 L3 N41 N43 (hide (Or.inr (uh F1).1)) (hide (Or.inr (uh F3).1))) (by kernel_rfl) rfl
  exact AllReadyH.nil
  )
 have st4:Hid (∀ (W:World) (M5:Nat) (hi1:Nat) (hi3:Nat) (lo1:Nat) (lo3:Nat) (x:Nv) (y:Nv),Hid (Below U.heap.size U W)→Hid (SpR lo1 hi1 W x tb)→Hid (SpR lo3 hi3 W y td)→Hid (U.heap.size≤M5)→Hid (W.heap[M5]? = some (.cells #[.int .i64 0,.string ⟨#[]⟩,.slice none 0 0,.slice none 0 0,.int .i64 0,.int .i64 0,.int .i64 0,.slice none 0 0] 29 (0,0)))→Hid (U.heap.size≤lo1)→Hid (U.heap.size≤lo3)→Hid (M5 < lo1 ∨ hi1≤M5)→Hid (M5 < lo3 ∨ hi3≤M5)→F 3 #[true,true,true,true,false,true,false,false] (Act.mk #[aa,ab,ac,ad,ae,af,ag,.pointer (some ⟨bb,0,none⟩),ah,.pointer (some ⟨bd,0,none⟩),ai,aj,ak,al,am,.pointer (some ⟨M5,0,none⟩),ao,ap,aq,ar,au,av,aw,ax,ay,az,ba,bc,be,bf,bg,bh,bi,bj,bk,bl,bm,bn,bo,bp,bq,br,bs,bt,bu,bv,bw,bx,bz,ca,cb,cc,cd,ce,cf,cg,ch,.agg #[.int .i64 vb.kind,.string vb.attr,.slice vb.qi vb.ni vb.ci,.slice vb.qw vb.nw vb.cw,.int .i64 vb.lo,.int .i64 vb.hi,.int .i64 vb.op,.slice vb.qk vb.nk vb.ck],.agg #[.int .i64 x.kind,.string x.attr,.slice x.qi x.ni x.ci,.slice x.qw x.nw x.cw,.int .i64 x.lo,.int .i64 x.hi,.int .i64 x.op,.slice x.qk x.nk x.ck],.agg #[.int .i64 vd.kind,.string vd.attr,.slice vd.qi vd.ni vd.ci,.slice vd.qw vd.nw vd.cw,.int .i64 vd.lo,.int .i64 vd.hi,.int .i64 vd.op,.slice vd.qk vd.nk vd.ck],.agg #[.int .i64 y.kind,.string y.attr,.slice y.qi y.ni y.ci,.slice y.qw y.nw y.cw,.int .i64 y.lo,.int .i64 y.hi,.int .i64 y.op,.slice y.qk y.nk y.ck],co,cp,cq,cr,cs,ct,cu,cv,cx,cy,cz,da,db,dc,dd,de,df,dg,dh,di,dj,dk,dl,dm,dn,dp,dq,dr,ds,dt,du,dv,dw,dx,dy,dz,ea,eb,ec,ed,ee,ef,eg,eh,ei,ej,ek,el,em,en,eo,ep,er,es,et,eu] d) W):=hide (by
  intro W M5 hi1 hi3 lo1 lo3 x y R F1 F3 G5 H5 L1 L3 N51 N53
  refine Eq.mpr (hF _ _ _ _) ?_
  have hHeld:=KS W (uh R)
  refine wpAnyH_ready (rs:=[4]) (by kernel_rfl) (by simp) ?_
  refine AllReadyH.cons (o:=⟨some 14,.alloc 29,_,_,_,none⟩) rfl (fun K hK=>?_) ?_
  ·go_simp
   refine hK.out _ _ (KS _ ((uh R).alloc (uh R).size (.cells #[.int .i64 0,.string ⟨#[]⟩,.slice none 0 0,.slice none 0 0,.int .i64 0,.int .i64 0,.int .i64 0,.slice none 0 0] 29))) (fun hHeld=>?_)
   clear hK K
   refine Eq.mp (hF _ _ _ _) ?_
   exact dp_to (uh st2 (World.alloc W (.cells #[.int .i64 0,.string ⟨#[]⟩,.slice none 0 0,.slice none 0 0,.int .i64 0,.int .i64 0,.int .i64 0,.slice none 0 0] 29)) W.heap.size M5 hi1 hi3 lo1 lo3 x y (hide ((uh R).alloc (uh R).size _)) (hide (Nat.ne_of_gt (heap_ltO (uh H5)))) (hide ((uh F1).below (((Below.refl W.heap.size W).alloc (Nat.le_refl _) (.cells #[.int .i64 0,.string ⟨#[]⟩,.slice none 0 0,.slice none 0 0,.int .i64 0,.int .i64 0,.int .i64 0,.slice none 0 0] 29))))) (hide ((uh F3).below (((Below.refl W.heap.size W).alloc (Nat.le_refl _) (.cells #[.int .i64 0,.string ⟨#[]⟩,.slice none 0 0,.slice none 0 0,.int .i64 0,.int .i64 0,.int .i64 0,.slice none 0 0] 29))))) (hide (uh R).size) G5 (hide (box_nw _ _)) (hide (((((Below.refl W.heap.size W).alloc (Nat.le_refl _) (.cells #[.int .i64 0,.string ⟨#[]⟩,.slice none 0 0,.slice none 0 0,.int .i64 0,.int .i64 0,.int .i64 0,.slice none 0 0] 29))).block _ (heap_ltO (uh H5))).trans (uh H5))) L1 L3 (hide (Or.inr (uh F1).1)) (hide (Or.inr (uh F3).1)) N51 N53) (by kernel_rfl) rfl
  exact AllReadyH.nil
  )
 have st5:Hid (∀ (W:World) (hi1:Nat) (hi3:Nat) (lo1:Nat) (lo3:Nat) (x:Nv) (y:Nv),Hid (Below U.heap.size U W)→Hid (SpR lo1 hi1 W x tb)→Hid (SpR lo3 hi3 W y td)→Hid (U.heap.size≤lo1)→Hid (U.heap.size≤lo3)→F 4 #[true,true,true,true,false,false,false,false] (Act.mk #[aa,ab,ac,ad,ae,af,ag,.pointer (some ⟨bb,0,none⟩),ah,.pointer (some ⟨bd,0,none⟩),ai,aj,ak,al,am,an,ao,ap,aq,ar,au,av,aw,ax,ay,az,ba,bc,be,bf,bg,bh,bi,bj,bk,bl,bm,bn,bo,bp,bq,br,bs,bt,bu,bv,bw,bx,bz,ca,cb,cc,cd,ce,cf,cg,ch,.agg #[.int .i64 vb.kind,.string vb.attr,.slice vb.qi vb.ni vb.ci,.slice vb.qw vb.nw vb.cw,.int .i64 vb.lo,.int .i64 vb.hi,.int .i64 vb.op,.slice vb.qk vb.nk vb.ck],.agg #[.int .i64 x.kind,.string x.attr,.slice x.qi x.ni x.ci,.slice x.qw x.nw x.cw,.int .i64 x.lo,.int .i64 x.hi,.int .i64 x.op,.slice x.qk x.nk x.ck],.agg #[.int .i64 vd.kind,.string vd.attr,.slice vd.qi vd.ni vd.ci,.slice vd.qw vd.nw vd.cw,.int .i64 vd.lo,.int .i64 vd.hi,.int .i64 vd.op,.slice vd.qk vd.nk vd.ck],.agg #[.int .i64 y.kind,.string y.attr,.slice y.qi y.ni y.ci,.slice y.qw y.nw y.cw,.int .i64 y.lo,.int .i64 y.hi,.int .i64 y.op,.slice y.qk y.nk y.ck],co,cp,cq,cr,cs,ct,cu,cv,cx,cy,cz,da,db,dc,dd,de,df,dg,dh,di,dj,dk,dl,dm,dn,dp,dq,dr,ds,dt,du,dv,dw,dx,dy,dz,ea,eb,ec,ed,ee,ef,eg,eh,ei,ej,ek,el,em,en,eo,ep,er,es,et,eu] d) W):=hide (by
  intro W hi1 hi3 lo1 lo3 x y R F1 F3 L1 L3
  refine Eq.mpr (hF _ _ _ _) ?_
  have hHeld:=KS W (uh R)
  refine wpAnyH_ready (rs:=[4,5]) (by kernel_rfl) (by simp) ?_
  refine AllReadyH.cons (o:=⟨some 14,.alloc 29,_,_,_,none⟩) rfl (fun K hK=>?_) ?_
  ·go_simp
   refine hK.out _ _ (KS _ ((uh R).alloc (uh R).size (.cells #[.int .i64 0,.string ⟨#[]⟩,.slice none 0 0,.slice none 0 0,.int .i64 0,.int .i64 0,.int .i64 0,.slice none 0 0] 29))) (fun hHeld=>?_)
   clear hK K
   refine Eq.mp (hF _ _ _ _) ?_
   exact dp_to (uh st3 (World.alloc W (.cells #[.int .i64 0,.string ⟨#[]⟩,.slice none 0 0,.slice none 0 0,.int .i64 0,.int .i64 0,.int .i64 0,.slice none 0 0] 29)) W.heap.size hi1 hi3 lo1 lo3 x y (hide ((uh R).alloc (uh R).size _)) (hide ((uh F1).below (((Below.refl W.heap.size W).alloc (Nat.le_refl _) (.cells #[.int .i64 0,.string ⟨#[]⟩,.slice none 0 0,.slice none 0 0,.int .i64 0,.int .i64 0,.int .i64 0,.slice none 0 0] 29))))) (hide ((uh F3).below (((Below.refl W.heap.size W).alloc (Nat.le_refl _) (.cells #[.int .i64 0,.string ⟨#[]⟩,.slice none 0 0,.slice none 0 0,.int .i64 0,.int .i64 0,.int .i64 0,.slice none 0 0] 29))))) (hide (uh R).size) (hide (box_nw _ _)) L1 L3 (hide (Or.inr (uh F1).1)) (hide (Or.inr (uh F3).1))) (by kernel_rfl) rfl
  refine AllReadyH.cons (o:=⟨some 15,.alloc 29,_,_,_,none⟩) rfl (fun K hK=>?_) ?_
  ·go_simp
   refine hK.out _ _ (KS _ ((uh R).alloc (uh R).size (.cells #[.int .i64 0,.string ⟨#[]⟩,.slice none 0 0,.slice none 0 0,.int .i64 0,.int .i64 0,.int .i64 0,.slice none 0 0] 29))) (fun hHeld=>?_)
   clear hK K
   refine Eq.mp (hF _ _ _ _) ?_
   exact dp_to (uh st4 (World.alloc W (.cells #[.int .i64 0,.string ⟨#[]⟩,.slice none 0 0,.slice none 0 0,.int .i64 0,.int .i64 0,.int .i64 0,.slice none 0 0] 29)) W.heap.size hi1 hi3 lo1 lo3 x y (hide ((uh R).alloc (uh R).size _)) (hide ((uh F1).below (((Below.refl W.heap.size W).alloc (Nat.le_refl _) (.cells #[.int .i64 0,.string ⟨#[]⟩,.slice none 0 0,.slice none 0 0,.int .i64 0,.int .i64 0,.int .i64 0,.slice none 0 0] 29))))) (hide ((uh F3).below (((Below.refl W.heap.size W).alloc (Nat.le_refl _) (.cells #[.int .i64 0,.string ⟨#[]⟩,.slice none 0 0,.slice none 0 0,.int .i64 0,.int .i64 0,.int .i64 0,.slice none 0 0] 29))))) (hide (uh R).size) (hide (box_nw _ _)) L1 L3 (hide (Or.inr (uh F1).1)) (hide (Or.inr (uh F3).1))) (by kernel_rfl) rfl
  exact AllReadyH.nil
  )
 have st6:Hid (∀ (W:World) (M4:Nat) (M5:Nat) (hi1:Nat) (lo1:Nat) (x:Nv),Hid (Below U.heap.size U W)→Hid (M4 ≠ M5)→Hid (SpR lo1 hi1 W x tb)→Hid (U.heap.size≤M4)→Hid (U.heap.size≤M5)→Hid (W.heap[M4]? = some (.cells #[.int .i64 0,.string ⟨#[]⟩,.slice none 0 0,.slice none 0 0,.int .i64 0,.int .i64 0,.int .i64 0,.slice none 0 0] 29 (0,0)))→Hid (W.heap[M5]? = some (.cells #[.int .i64 0,.string ⟨#[]⟩,.slice none 0 0,.slice none 0 0,.int .i64 0,.int .i64 0,.int .i64 0,.slice none 0 0] 29 (0,0)))→Hid (U.heap.size≤lo1)→Hid (M4 < lo1 ∨ hi1≤M4)→Hid (M5 < lo1 ∨ hi1≤M5)→F 3 #[true,true,true,false,true,true,false,false] (Act.mk #[aa,ab,ac,ad,ae,af,ag,.pointer (some ⟨bb,0,none⟩),ah,.pointer (some ⟨bd,0,none⟩),ai,aj,ak,al,.pointer (some ⟨M4,0,none⟩),.pointer (some ⟨M5,0,none⟩),ao,ap,aq,ar,au,av,aw,ax,ay,az,ba,bc,be,bf,bg,bh,bi,bj,bk,bl,bm,bn,bo,bp,bq,br,bs,bt,bu,bv,bw,bx,bz,ca,cb,cc,cd,ce,cf,cg,ch,.agg #[.int .i64 vb.kind,.string vb.attr,.slice vb.qi vb.ni vb.ci,.slice vb.qw vb.nw vb.cw,.int .i64 vb.lo,.int .i64 vb.hi,.int .i64 vb.op,.slice vb.qk vb.nk vb.ck],.agg #[.int .i64 x.kind,.string x.attr,.slice x.qi x.ni x.ci,.slice x.qw x.nw x.cw,.int .i64 x.lo,.int .i64 x.hi,.int .i64 x.op,.slice x.qk x.nk x.ck],.agg #[.int .i64 vd.kind,.string vd.attr,.slice vd.qi vd.ni vd.ci,.slice vd.qw vd.nw vd.cw,.int .i64 vd.lo,.int .i64 vd.hi,.int .i64 vd.op,.slice vd.qk vd.nk vd.ck],cn,co,cp,cq,cr,cs,ct,cu,cv,cx,cy,cz,da,db,dc,dd,de,df,dg,dh,di,dj,dk,dl,dm,dn,dp,dq,dr,ds,dt,du,dv,dw,dx,dy,dz,ea,eb,ec,ed,ee,ef,eg,eh,ei,ej,ek,el,em,en,eo,ep,er,es,et,eu] d) W):=hide (by
  intro W M4 M5 hi1 lo1 x R E45 F1 G4 G5 H4 H5 L1 N41 N51
  refine Eq.mpr (hF _ _ _ _) ?_
  have hHeld:=KS W (uh R)
  refine wpAnyH_ready (rs:=[3]) (by kernel_rfl) (by simp) ?_
  refine AllReadyH.cons (o:=⟨some 60,.call { callee:=.value (.func 5),args:=#[.tmp 59],argTypes:=#[29] },_,_,_,none⟩) rfl (fun K hK=>?_) ?_
  ·go_simp
   refine (cD _ (uh R)).mono ?_
   rintro e W1 ⟨⟨y,rfl,sp⟩,bb9⟩
   have bb:=bb9
   refine hK.out _ _ (KS _ (below_sub (uh R) bb)) (fun hHeld=>?_)
   clear hK K
   refine Eq.mp (hF _ _ _ _) ?_
   exact dp_to (uh st2 W1 M4 M5 hi1 W1.heap.size lo1 W.heap.size x y (hide (below_sub (uh R) bb)) E45 (hide ((uh F1).below (bb))) (hide sp.toR) G4 G5 (hide (((bb).block _ (heap_ltO (uh H4))).trans (uh H4))) (hide (((bb).block _ (heap_ltO (uh H5))).trans (uh H5))) L1 (hide (uh R).size) N41 (hide (Or.inl (heap_ltO (uh H4)))) N51 (hide (Or.inl (heap_ltO (uh H5))))) (by kernel_rfl) rfl
  exact AllReadyH.nil
  )
 have st7:Hid (∀ (W:World) (M4:Nat) (hi1:Nat) (lo1:Nat) (x:Nv),Hid (Below U.heap.size U W)→Hid (SpR lo1 hi1 W x tb)→Hid (U.heap.size≤M4)→Hid (W.heap[M4]? = some (.cells #[.int .i64 0,.string ⟨#[]⟩,.slice none 0 0,.slice none 0 0,.int .i64 0,.int .i64 0,.int .i64 0,.slice none 0 0] 29 (0,0)))→Hid (U.heap.size≤lo1)→Hid (M4 < lo1 ∨ hi1≤M4)→F 4 #[true,true,true,false,true,false,false,false] (Act.mk #[aa,ab,ac,ad,ae,af,ag,.pointer (some ⟨bb,0,none⟩),ah,.pointer (some ⟨bd,0,none⟩),ai,aj,ak,al,.pointer (some ⟨M4,0,none⟩),an,ao,ap,aq,ar,au,av,aw,ax,ay,az,ba,bc,be,bf,bg,bh,bi,bj,bk,bl,bm,bn,bo,bp,bq,br,bs,bt,bu,bv,bw,bx,bz,ca,cb,cc,cd,ce,cf,cg,ch,.agg #[.int .i64 vb.kind,.string vb.attr,.slice vb.qi vb.ni vb.ci,.slice vb.qw vb.nw vb.cw,.int .i64 vb.lo,.int .i64 vb.hi,.int .i64 vb.op,.slice vb.qk vb.nk vb.ck],.agg #[.int .i64 x.kind,.string x.attr,.slice x.qi x.ni x.ci,.slice x.qw x.nw x.cw,.int .i64 x.lo,.int .i64 x.hi,.int .i64 x.op,.slice x.qk x.nk x.ck],.agg #[.int .i64 vd.kind,.string vd.attr,.slice vd.qi vd.ni vd.ci,.slice vd.qw vd.nw vd.cw,.int .i64 vd.lo,.int .i64 vd.hi,.int .i64 vd.op,.slice vd.qk vd.nk vd.ck],cn,co,cp,cq,cr,cs,ct,cu,cv,cx,cy,cz,da,db,dc,dd,de,df,dg,dh,di,dj,dk,dl,dm,dn,dp,dq,dr,ds,dt,du,dv,dw,dx,dy,dz,ea,eb,ec,ed,ee,ef,eg,eh,ei,ej,ek,el,em,en,eo,ep,er,es,et,eu] d) W):=hide (by
  intro W M4 hi1 lo1 x R F1 G4 H4 L1 N41
  refine Eq.mpr (hF _ _ _ _) ?_
  have hHeld:=KS W (uh R)
  refine wpAnyH_ready (rs:=[3,5]) (by kernel_rfl) (by simp) ?_
  refine AllReadyH.cons (o:=⟨some 60,.call { callee:=.value (.func 5),args:=#[.tmp 59],argTypes:=#[29] },_,_,_,none⟩) rfl (fun K hK=>?_) ?_
  ·go_simp
   refine (cD _ (uh R)).mono ?_
   rintro e W1 ⟨⟨y,rfl,sp⟩,bb9⟩
   have bb:=bb9
   refine hK.out _ _ (KS _ (below_sub (uh R) bb)) (fun hHeld=>?_)
   clear hK K
   refine Eq.mp (hF _ _ _ _) ?_
   exact dp_to (uh st3 W1 M4 hi1 W1.heap.size lo1 W.heap.size x y (hide (below_sub (uh R) bb)) (hide ((uh F1).below (bb))) (hide sp.toR) G4 (hide (((bb).block _ (heap_ltO (uh H4))).trans (uh H4))) L1 (hide (uh R).size) N41 (hide (Or.inl (heap_ltO (uh H4))))) (by kernel_rfl) rfl
  refine AllReadyH.cons (o:=⟨some 15,.alloc 29,_,_,_,none⟩) rfl (fun K hK=>?_) ?_
  ·go_simp
   refine hK.out _ _ (KS _ ((uh R).alloc (uh R).size (.cells #[.int .i64 0,.string ⟨#[]⟩,.slice none 0 0,.slice none 0 0,.int .i64 0,.int .i64 0,.int .i64 0,.slice none 0 0] 29))) (fun hHeld=>?_)
   clear hK K
   refine Eq.mp (hF _ _ _ _) ?_
   exact dp_to (uh st6 (World.alloc W (.cells #[.int .i64 0,.string ⟨#[]⟩,.slice none 0 0,.slice none 0 0,.int .i64 0,.int .i64 0,.int .i64 0,.slice none 0 0] 29)) M4 W.heap.size hi1 lo1 x (hide ((uh R).alloc (uh R).size _)) (hide (Nat.ne_of_lt (heap_ltO (uh H4)))) (hide ((uh F1).below (((Below.refl W.heap.size W).alloc (Nat.le_refl _) (.cells #[.int .i64 0,.string ⟨#[]⟩,.slice none 0 0,.slice none 0 0,.int .i64 0,.int .i64 0,.int .i64 0,.slice none 0 0] 29))))) G4 (hide (uh R).size) (hide (((((Below.refl W.heap.size W).alloc (Nat.le_refl _) (.cells #[.int .i64 0,.string ⟨#[]⟩,.slice none 0 0,.slice none 0 0,.int .i64 0,.int .i64 0,.int .i64 0,.slice none 0 0] 29))).block _ (heap_ltO (uh H4))).trans (uh H4))) (hide (box_nw _ _)) L1 N41 (hide (Or.inr (uh F1).1))) (by kernel_rfl) rfl
  exact AllReadyH.nil
  )
 have st8:Hid (∀ (W:World) (M5:Nat) (hi1:Nat) (lo1:Nat) (x:Nv),Hid (Below U.heap.size U W)→Hid (SpR lo1 hi1 W x tb)→Hid (U.heap.size≤M5)→Hid (W.heap[M5]? = some (.cells #[.int .i64 0,.string ⟨#[]⟩,.slice none 0 0,.slice none 0 0,.int .i64 0,.int .i64 0,.int .i64 0,.slice none 0 0] 29 (0,0)))→Hid (U.heap.size≤lo1)→Hid (M5 < lo1 ∨ hi1≤M5)→F 4 #[true,true,true,false,false,true,false,false] (Act.mk #[aa,ab,ac,ad,ae,af,ag,.pointer (some ⟨bb,0,none⟩),ah,.pointer (some ⟨bd,0,none⟩),ai,aj,ak,al,am,.pointer (some ⟨M5,0,none⟩),ao,ap,aq,ar,au,av,aw,ax,ay,az,ba,bc,be,bf,bg,bh,bi,bj,bk,bl,bm,bn,bo,bp,bq,br,bs,bt,bu,bv,bw,bx,bz,ca,cb,cc,cd,ce,cf,cg,ch,.agg #[.int .i64 vb.kind,.string vb.attr,.slice vb.qi vb.ni vb.ci,.slice vb.qw vb.nw vb.cw,.int .i64 vb.lo,.int .i64 vb.hi,.int .i64 vb.op,.slice vb.qk vb.nk vb.ck],.agg #[.int .i64 x.kind,.string x.attr,.slice x.qi x.ni x.ci,.slice x.qw x.nw x.cw,.int .i64 x.lo,.int .i64 x.hi,.int .i64 x.op,.slice x.qk x.nk x.ck],.agg #[.int .i64 vd.kind,.string vd.attr,.slice vd.qi vd.ni vd.ci,.slice vd.qw vd.nw vd.cw,.int .i64 vd.lo,.int .i64 vd.hi,.int .i64 vd.op,.slice vd.qk vd.nk vd.ck],cn,co,cp,cq,cr,cs,ct,cu,cv,cx,cy,cz,da,db,dc,dd,de,df,dg,dh,di,dj,dk,dl,dm,dn,dp,dq,dr,ds,dt,du,dv,dw,dx,dy,dz,ea,eb,ec,ed,ee,ef,eg,eh,ei,ej,ek,el,em,en,eo,ep,er,es,et,eu] d) W):=hide (by
  intro W M5 hi1 lo1 x R F1 G5 H5 L1 N51
  refine Eq.mpr (hF _ _ _ _) ?_
  have hHeld:=KS W (uh R)
  refine wpAnyH_ready (rs:=[3,4]) (by kernel_rfl) (by simp) ?_
  refine AllReadyH.cons (o:=⟨some 60,.call { callee:=.value (.func 5),args:=#[.tmp 59],argTypes:=#[29] },_,_,_,none⟩) rfl (fun K hK=>?_) ?_
  ·go_simp
   refine (cD _ (uh R)).mono ?_
   rintro e W1 ⟨⟨y,rfl,sp⟩,bb9⟩
   have bb:=bb9
   refine hK.out _ _ (KS _ (below_sub (uh R) bb)) (fun hHeld=>?_)
   clear hK K
   refine Eq.mp (hF _ _ _ _) ?_
   exact dp_to (uh st4 W1 M5 hi1 W1.heap.size lo1 W.heap.size x y (hide (below_sub (uh R) bb)) (hide ((uh F1).below (bb))) (hide sp.toR) G5 (hide (((bb).block _ (heap_ltO (uh H5))).trans (uh H5))) L1 (hide (uh R).size) N51 (hide (Or.inl (heap_ltO (uh H5))))) (by kernel_rfl) rfl
  refine AllReadyH.cons (o:=⟨some 14,.alloc 29,_,_,_,none⟩) rfl (fun K hK=>?_) ?_
  ·go_simp
   refine hK.out _ _ (KS _ ((uh R).alloc (uh R).size (.cells #[.int .i64 0,.string ⟨#[]⟩,.slice none 0 0,.slice none 0 0,.int .i64 0,.int .i64 0,.int .i64 0,.slice none 0 0] 29))) (fun hHeld=>?_)
   clear hK K
   refine Eq.mp (hF _ _ _ _) ?_
   exact dp_to (uh st6 (World.alloc W (.cells #[.int .i64 0,.string ⟨#[]⟩,.slice none 0 0,.slice none 0 0,.int .i64 0,.int .i64 0,.int .i64 0,.slice none 0 0] 29)) W.heap.size M5 hi1 lo1 x (hide ((uh R).alloc (uh R).size _)) (hide (Nat.ne_of_gt (heap_ltO (uh H5)))) (hide ((uh F1).below (((Below.refl W.heap.size W).alloc (Nat.le_refl _) (.cells #[.int .i64 0,.string ⟨#[]⟩,.slice none 0 0,.slice none 0 0,.int .i64 0,.int .i64 0,.int .i64 0,.slice none 0 0] 29))))) (hide (uh R).size) G5 (hide (box_nw _ _)) (hide (((((Below.refl W.heap.size W).alloc (Nat.le_refl _) (.cells #[.int .i64 0,.string ⟨#[]⟩,.slice none 0 0,.slice none 0 0,.int .i64 0,.int .i64 0,.int .i64 0,.slice none 0 0] 29))).block _ (heap_ltO (uh H5))).trans (uh H5))) L1 (hide (Or.inr (uh F1).1)) N51) (by kernel_rfl) rfl
  exact AllReadyH.nil
  )
 have st9:Hid (∀ (W:World) (hi1:Nat) (lo1:Nat) (x:Nv),Hid (Below U.heap.size U W)→Hid (SpR lo1 hi1 W x tb)→Hid (U.heap.size≤lo1)→F 5 #[true,true,true,false,false,false,false,false] (Act.mk #[aa,ab,ac,ad,ae,af,ag,.pointer (some ⟨bb,0,none⟩),ah,.pointer (some ⟨bd,0,none⟩),ai,aj,ak,al,am,an,ao,ap,aq,ar,au,av,aw,ax,ay,az,ba,bc,be,bf,bg,bh,bi,bj,bk,bl,bm,bn,bo,bp,bq,br,bs,bt,bu,bv,bw,bx,bz,ca,cb,cc,cd,ce,cf,cg,ch,.agg #[.int .i64 vb.kind,.string vb.attr,.slice vb.qi vb.ni vb.ci,.slice vb.qw vb.nw vb.cw,.int .i64 vb.lo,.int .i64 vb.hi,.int .i64 vb.op,.slice vb.qk vb.nk vb.ck],.agg #[.int .i64 x.kind,.string x.attr,.slice x.qi x.ni x.ci,.slice x.qw x.nw x.cw,.int .i64 x.lo,.int .i64 x.hi,.int .i64 x.op,.slice x.qk x.nk x.ck],.agg #[.int .i64 vd.kind,.string vd.attr,.slice vd.qi vd.ni vd.ci,.slice vd.qw vd.nw vd.cw,.int .i64 vd.lo,.int .i64 vd.hi,.int .i64 vd.op,.slice vd.qk vd.nk vd.ck],cn,co,cp,cq,cr,cs,ct,cu,cv,cx,cy,cz,da,db,dc,dd,de,df,dg,dh,di,dj,dk,dl,dm,dn,dp,dq,dr,ds,dt,du,dv,dw,dx,dy,dz,ea,eb,ec,ed,ee,ef,eg,eh,ei,ej,ek,el,em,en,eo,ep,er,es,et,eu] d) W):=hide (by
  intro W hi1 lo1 x R F1 L1
  refine Eq.mpr (hF _ _ _ _) ?_
  have hHeld:=KS W (uh R)
  refine wpAnyH_ready (rs:=[3,4,5]) (by kernel_rfl) (by simp) ?_
  refine AllReadyH.cons (o:=⟨some 60,.call { callee:=.value (.func 5),args:=#[.tmp 59],argTypes:=#[29] },_,_,_,none⟩) rfl (fun K hK=>?_) ?_
  ·go_simp
   refine (cD _ (uh R)).mono ?_
   rintro e W1 ⟨⟨y,rfl,sp⟩,bb9⟩
   have bb:=bb9
   refine hK.out _ _ (KS _ (below_sub (uh R) bb)) (fun hHeld=>?_)
   clear hK K
   refine Eq.mp (hF _ _ _ _) ?_
   exact dp_to (uh st5 W1 hi1 W1.heap.size lo1 W.heap.size x y (hide (below_sub (uh R) bb)) (hide ((uh F1).below (bb))) (hide sp.toR) L1 (hide (uh R).size)) (by kernel_rfl) rfl
  refine AllReadyH.cons (o:=⟨some 14,.alloc 29,_,_,_,none⟩) rfl (fun K hK=>?_) ?_
  ·go_simp
   refine hK.out _ _ (KS _ ((uh R).alloc (uh R).size (.cells #[.int .i64 0,.string ⟨#[]⟩,.slice none 0 0,.slice none 0 0,.int .i64 0,.int .i64 0,.int .i64 0,.slice none 0 0] 29))) (fun hHeld=>?_)
   clear hK K
   refine Eq.mp (hF _ _ _ _) ?_
   exact dp_to (uh st7 (World.alloc W (.cells #[.int .i64 0,.string ⟨#[]⟩,.slice none 0 0,.slice none 0 0,.int .i64 0,.int .i64 0,.int .i64 0,.slice none 0 0] 29)) W.heap.size hi1 lo1 x (hide ((uh R).alloc (uh R).size _)) (hide ((uh F1).below (((Below.refl W.heap.size W).alloc (Nat.le_refl _) (.cells #[.int .i64 0,.string ⟨#[]⟩,.slice none 0 0,.slice none 0 0,.int .i64 0,.int .i64 0,.int .i64 0,.slice none 0 0] 29))))) (hide (uh R).size) (hide (box_nw _ _)) L1 (hide (Or.inr (uh F1).1))) (by kernel_rfl) rfl
  refine AllReadyH.cons (o:=⟨some 15,.alloc 29,_,_,_,none⟩) rfl (fun K hK=>?_) ?_
  ·go_simp
   refine hK.out _ _ (KS _ ((uh R).alloc (uh R).size (.cells #[.int .i64 0,.string ⟨#[]⟩,.slice none 0 0,.slice none 0 0,.int .i64 0,.int .i64 0,.int .i64 0,.slice none 0 0] 29))) (fun hHeld=>?_)
   clear hK K
   refine Eq.mp (hF _ _ _ _) ?_
   exact dp_to (uh st8 (World.alloc W (.cells #[.int .i64 0,.string ⟨#[]⟩,.slice none 0 0,.slice none 0 0,.int .i64 0,.int .i64 0,.int .i64 0,.slice none 0 0] 29)) W.heap.size hi1 lo1 x (hide ((uh R).alloc (uh R).size _)) (hide ((uh F1).below (((Below.refl W.heap.size W).alloc (Nat.le_refl _) (.cells #[.int .i64 0,.string ⟨#[]⟩,.slice none 0 0,.slice none 0 0,.int .i64 0,.int .i64 0,.int .i64 0,.slice none 0 0] 29))))) (hide (uh R).size) (hide (box_nw _ _)) L1 (hide (Or.inr (uh F1).1))) (by kernel_rfl) rfl
  exact AllReadyH.nil
  )
 have st10:Hid (∀ (W:World) (M4:Nat) (M5:Nat),Hid (Below U.heap.size U W)→Hid (M4 ≠ M5)→Hid (U.heap.size≤M4)→Hid (U.heap.size≤M5)→Hid (W.heap[M4]? = some (.cells #[.int .i64 0,.string ⟨#[]⟩,.slice none 0 0,.slice none 0 0,.int .i64 0,.int .i64 0,.int .i64 0,.slice none 0 0] 29 (0,0)))→Hid (W.heap[M5]? = some (.cells #[.int .i64 0,.string ⟨#[]⟩,.slice none 0 0,.slice none 0 0,.int .i64 0,.int .i64 0,.int .i64 0,.slice none 0 0] 29 (0,0)))→F 4 #[true,false,true,false,true,true,false,false] (Act.mk #[aa,ab,ac,ad,ae,af,ag,.pointer (some ⟨bb,0,none⟩),ah,.pointer (some ⟨bd,0,none⟩),ai,aj,ak,al,.pointer (some ⟨M4,0,none⟩),.pointer (some ⟨M5,0,none⟩),ao,ap,aq,ar,au,av,aw,ax,ay,az,ba,bc,be,bf,bg,bh,bi,bj,bk,bl,bm,bn,bo,bp,bq,br,bs,bt,bu,bv,bw,bx,bz,ca,cb,cc,cd,ce,cf,cg,ch,.agg #[.int .i64 vb.kind,.string vb.attr,.slice vb.qi vb.ni vb.ci,.slice vb.qw vb.nw vb.cw,.int .i64 vb.lo,.int .i64 vb.hi,.int .i64 vb.op,.slice vb.qk vb.nk vb.ck],cl,.agg #[.int .i64 vd.kind,.string vd.attr,.slice vd.qi vd.ni vd.ci,.slice vd.qw vd.nw vd.cw,.int .i64 vd.lo,.int .i64 vd.hi,.int .i64 vd.op,.slice vd.qk vd.nk vd.ck],cn,co,cp,cq,cr,cs,ct,cu,cv,cx,cy,cz,da,db,dc,dd,de,df,dg,dh,di,dj,dk,dl,dm,dn,dp,dq,dr,ds,dt,du,dv,dw,dx,dy,dz,ea,eb,ec,ed,ee,ef,eg,eh,ei,ej,ek,el,em,en,eo,ep,er,es,et,eu] d) W):=hide (by
  intro W M4 M5 R E45 G4 G5 H4 H5
  refine Eq.mpr (hF _ _ _ _) ?_
  have hHeld:=KS W (uh R)
  refine wpAnyH_ready (rs:=[1]) (by kernel_rfl) (by simp) ?_
  refine AllReadyH.cons (o:=⟨some 58,.call { callee:=.value (.func 5),args:=#[.tmp 57],argTypes:=#[29] },_,_,_,none⟩) rfl (fun K hK=>?_) ?_
  ·go_simp
   refine (cB _ (uh R)).mono ?_
   rintro e W1 ⟨⟨x,rfl,sp⟩,bb9⟩
   have bb:=bb9
   refine hK.out _ _ (KS _ (below_sub (uh R) bb)) (fun hHeld=>?_)
   clear hK K
   refine Eq.mp (hF _ _ _ _) ?_
   exact dp_to (uh st6 W1 M4 M5 W1.heap.size W.heap.size x (hide (below_sub (uh R) bb)) E45 (hide sp.toR) G4 G5 (hide (((bb).block _ (heap_ltO (uh H4))).trans (uh H4))) (hide (((bb).block _ (heap_ltO (uh H5))).trans (uh H5))) (hide (uh R).size) (hide (Or.inl (heap_ltO (uh H4)))) (hide (Or.inl (heap_ltO (uh H5))))) (by kernel_rfl) rfl
  exact AllReadyH.nil
  )
 have st11:Hid (∀ (W:World) (M4:Nat),Hid (Below U.heap.size U W)→Hid (U.heap.size≤M4)→Hid (W.heap[M4]? = some (.cells #[.int .i64 0,.string ⟨#[]⟩,.slice none 0 0,.slice none 0 0,.int .i64 0,.int .i64 0,.int .i64 0,.slice none 0 0] 29 (0,0)))→F 5 #[true,false,true,false,true,false,false,false] (Act.mk #[aa,ab,ac,ad,ae,af,ag,.pointer (some ⟨bb,0,none⟩),ah,.pointer (some ⟨bd,0,none⟩),ai,aj,ak,al,.pointer (some ⟨M4,0,none⟩),an,ao,ap,aq,ar,au,av,aw,ax,ay,az,ba,bc,be,bf,bg,bh,bi,bj,bk,bl,bm,bn,bo,bp,bq,br,bs,bt,bu,bv,bw,bx,bz,ca,cb,cc,cd,ce,cf,cg,ch,.agg #[.int .i64 vb.kind,.string vb.attr,.slice vb.qi vb.ni vb.ci,.slice vb.qw vb.nw vb.cw,.int .i64 vb.lo,.int .i64 vb.hi,.int .i64 vb.op,.slice vb.qk vb.nk vb.ck],cl,.agg #[.int .i64 vd.kind,.string vd.attr,.slice vd.qi vd.ni vd.ci,.slice vd.qw vd.nw vd.cw,.int .i64 vd.lo,.int .i64 vd.hi,.int .i64 vd.op,.slice vd.qk vd.nk vd.ck],cn,co,cp,cq,cr,cs,ct,cu,cv,cx,cy,cz,da,db,dc,dd,de,df,dg,dh,di,dj,dk,dl,dm,dn,dp,dq,dr,ds,dt,du,dv,dw,dx,dy,dz,ea,eb,ec,ed,ee,ef,eg,eh,ei,ej,ek,el,em,en,eo,ep,er,es,et,eu] d) W):=hide (by
  intro W M4 R G4 H4
  refine Eq.mpr (hF _ _ _ _) ?_
  have hHeld:=KS W (uh R)
  refine wpAnyH_ready (rs:=[1,5]) (by kernel_rfl) (by simp) ?_
  refine AllReadyH.cons (o:=⟨some 58,.call { callee:=.value (.func 5),args:=#[.tmp 57],argTypes:=#[29] },_,_,_,none⟩) rfl (fun K hK=>?_) ?_
  ·go_simp
   refine (cB _ (uh R)).mono ?_
   rintro e W1 ⟨⟨x,rfl,sp⟩,bb9⟩
   have bb:=bb9
   refine hK.out _ _ (KS _ (below_sub (uh R) bb)) (fun hHeld=>?_)
   clear hK K
   refine Eq.mp (hF _ _ _ _) ?_
   exact dp_to (uh st7 W1 M4 W1.heap.size W.heap.size x (hide (below_sub (uh R) bb)) (hide sp.toR) G4 (hide (((bb).block _ (heap_ltO (uh H4))).trans (uh H4))) (hide (uh R).size) (hide (Or.inl (heap_ltO (uh H4))))) (by kernel_rfl) rfl
  refine AllReadyH.cons (o:=⟨some 15,.alloc 29,_,_,_,none⟩) rfl (fun K hK=>?_) ?_
  ·go_simp
   refine hK.out _ _ (KS _ ((uh R).alloc (uh R).size (.cells #[.int .i64 0,.string ⟨#[]⟩,.slice none 0 0,.slice none 0 0,.int .i64 0,.int .i64 0,.int .i64 0,.slice none 0 0] 29))) (fun hHeld=>?_)
   clear hK K
   refine Eq.mp (hF _ _ _ _) ?_
   exact dp_to (uh st10 (World.alloc W (.cells #[.int .i64 0,.string ⟨#[]⟩,.slice none 0 0,.slice none 0 0,.int .i64 0,.int .i64 0,.int .i64 0,.slice none 0 0] 29)) M4 W.heap.size (hide ((uh R).alloc (uh R).size _)) (hide (Nat.ne_of_lt (heap_ltO (uh H4)))) G4 (hide (uh R).size) (hide (((((Below.refl W.heap.size W).alloc (Nat.le_refl _) (.cells #[.int .i64 0,.string ⟨#[]⟩,.slice none 0 0,.slice none 0 0,.int .i64 0,.int .i64 0,.int .i64 0,.slice none 0 0] 29))).block _ (heap_ltO (uh H4))).trans (uh H4))) (hide (box_nw _ _))) (by kernel_rfl) rfl
  exact AllReadyH.nil
  )
 have st12:Hid (∀ (W:World) (M5:Nat),Hid (Below U.heap.size U W)→Hid (U.heap.size≤M5)→Hid (W.heap[M5]? = some (.cells #[.int .i64 0,.string ⟨#[]⟩,.slice none 0 0,.slice none 0 0,.int .i64 0,.int .i64 0,.int .i64 0,.slice none 0 0] 29 (0,0)))→F 5 #[true,false,true,false,false,true,false,false] (Act.mk #[aa,ab,ac,ad,ae,af,ag,.pointer (some ⟨bb,0,none⟩),ah,.pointer (some ⟨bd,0,none⟩),ai,aj,ak,al,am,.pointer (some ⟨M5,0,none⟩),ao,ap,aq,ar,au,av,aw,ax,ay,az,ba,bc,be,bf,bg,bh,bi,bj,bk,bl,bm,bn,bo,bp,bq,br,bs,bt,bu,bv,bw,bx,bz,ca,cb,cc,cd,ce,cf,cg,ch,.agg #[.int .i64 vb.kind,.string vb.attr,.slice vb.qi vb.ni vb.ci,.slice vb.qw vb.nw vb.cw,.int .i64 vb.lo,.int .i64 vb.hi,.int .i64 vb.op,.slice vb.qk vb.nk vb.ck],cl,.agg #[.int .i64 vd.kind,.string vd.attr,.slice vd.qi vd.ni vd.ci,.slice vd.qw vd.nw vd.cw,.int .i64 vd.lo,.int .i64 vd.hi,.int .i64 vd.op,.slice vd.qk vd.nk vd.ck],cn,co,cp,cq,cr,cs,ct,cu,cv,cx,cy,cz,da,db,dc,dd,de,df,dg,dh,di,dj,dk,dl,dm,dn,dp,dq,dr,ds,dt,du,dv,dw,dx,dy,dz,ea,eb,ec,ed,ee,ef,eg,eh,ei,ej,ek,el,em,en,eo,ep,er,es,et,eu] d) W):=hide (by
  intro W M5 R G5 H5
  refine Eq.mpr (hF _ _ _ _) ?_
  have hHeld:=KS W (uh R)
  refine wpAnyH_ready (rs:=[1,4]) (by kernel_rfl) (by simp) ?_
  refine AllReadyH.cons (o:=⟨some 58,.call { callee:=.value (.func 5),args:=#[.tmp 57],argTypes:=#[29] },_,_,_,none⟩) rfl (fun K hK=>?_) ?_
  ·go_simp
   refine (cB _ (uh R)).mono ?_
   rintro e W1 ⟨⟨x,rfl,sp⟩,bb9⟩
   have bb:=bb9
   refine hK.out _ _ (KS _ (below_sub (uh R) bb)) (fun hHeld=>?_)
   clear hK K
   refine Eq.mp (hF _ _ _ _) ?_
   exact dp_to (uh st8 W1 M5 W1.heap.size W.heap.size x (hide (below_sub (uh R) bb)) (hide sp.toR) G5 (hide (((bb).block _ (heap_ltO (uh H5))).trans (uh H5))) (hide (uh R).size) (hide (Or.inl (heap_ltO (uh H5))))) (by kernel_rfl) rfl
  refine AllReadyH.cons (o:=⟨some 14,.alloc 29,_,_,_,none⟩) rfl (fun K hK=>?_) ?_
  ·go_simp
   refine hK.out _ _ (KS _ ((uh R).alloc (uh R).size (.cells #[.int .i64 0,.string ⟨#[]⟩,.slice none 0 0,.slice none 0 0,.int .i64 0,.int .i64 0,.int .i64 0,.slice none 0 0] 29))) (fun hHeld=>?_)
   clear hK K
   refine Eq.mp (hF _ _ _ _) ?_
   exact dp_to (uh st10 (World.alloc W (.cells #[.int .i64 0,.string ⟨#[]⟩,.slice none 0 0,.slice none 0 0,.int .i64 0,.int .i64 0,.int .i64 0,.slice none 0 0] 29)) W.heap.size M5 (hide ((uh R).alloc (uh R).size _)) (hide (Nat.ne_of_gt (heap_ltO (uh H5)))) (hide (uh R).size) G5 (hide (box_nw _ _)) (hide (((((Below.refl W.heap.size W).alloc (Nat.le_refl _) (.cells #[.int .i64 0,.string ⟨#[]⟩,.slice none 0 0,.slice none 0 0,.int .i64 0,.int .i64 0,.int .i64 0,.slice none 0 0] 29))).block _ (heap_ltO (uh H5))).trans (uh H5)))) (by kernel_rfl) rfl
  exact AllReadyH.nil
  )
 have st13:Hid (∀ (W:World),Hid (Below U.heap.size U W)→F 8 #[false,false,false,false,false,false,false,false] (Act.mk #[aa,ab,ac,ad,ae,af,ag,.pointer (some ⟨bb,0,none⟩),ah,.pointer (some ⟨bd,0,none⟩),ai,aj,ak,al,am,an,ao,ap,aq,ar,au,av,aw,ax,ay,az,ba,bc,be,bf,bg,bh,bi,bj,bk,bl,bm,bn,bo,bp,bq,br,bs,bt,bu,bv,bw,bx,bz,ca,cb,cc,cd,ce,cf,cg,ch,cj,cl,cm,cn,co,cp,cq,cr,cs,ct,cu,cv,cx,cy,cz,da,db,dc,dd,de,df,dg,dh,di,dj,dk,dl,dm,dn,dp,dq,dr,ds,dt,du,dv,dw,dx,dy,dz,ea,eb,ec,ed,ee,ef,eg,eh,ei,ej,ek,el,em,en,eo,ep,er,es,et,eu] d) W):=hide (by
  intro W R
  refine Eq.mpr (hF _ _ _ _) ?_
  have hHeld:=KS W (uh R)
  refine wpAnyH_take (i:=0) (oi:=⟨some 57,.load 29 (.tmp 7),_,_,_,none⟩) (v:=?_) rfl (by kernel_rfl) (by kernel_rfl) (by kernel_rfl) (fun c a w=>(uh HP) c a _ _ w) (Or.inl ⟨by rfl, ?_⟩) (by assumption) ?_
  rotate_left
  ·intro wq hSw
   go_simp
   with_reducible rfl
  simp only [Act.put,List.setIfInBounds_toArray,List.set_cons_zero,List.set_cons_succ]
  refine wpAnyH_take (i:=2) (oi:=⟨some 59,.load 29 (.tmp 9),_,_,_,none⟩) (v:=?_) rfl (by kernel_rfl) (by kernel_rfl) (by kernel_rfl) (fun c a w=>(uh HP) c a _ _ w) (Or.inl ⟨by rfl, ?_⟩) (by assumption) ?_
  rotate_left
  ·intro wq hSw
   go_simp
   with_reducible rfl
  simp only [Act.put,List.setIfInBounds_toArray,List.set_cons_zero,List.set_cons_succ]
  refine wpAnyH_ready (rs:=[1,4,5]) (by kernel_rfl) (by simp) ?_
  refine AllReadyH.cons (o:=⟨some 58,.call { callee:=.value (.func 5),args:=#[.tmp 57],argTypes:=#[29] },_,_,_,none⟩) rfl (fun K hK=>?_) ?_
  ·go_simp
   refine (cB _ (uh R)).mono ?_
   rintro e W1 ⟨⟨x,rfl,sp⟩,bb9⟩
   have bb:=bb9
   refine hK.out _ _ (KS _ (below_sub (uh R) bb)) (fun hHeld=>?_)
   clear hK K
   refine Eq.mp (hF _ _ _ _) ?_
   exact dp_to (uh st9 W1 W1.heap.size W.heap.size x (hide (below_sub (uh R) bb)) (hide sp.toR) (hide (uh R).size)) (by kernel_rfl) rfl
  refine AllReadyH.cons (o:=⟨some 14,.alloc 29,_,_,_,none⟩) rfl (fun K hK=>?_) ?_
  ·go_simp
   refine hK.out _ _ (KS _ ((uh R).alloc (uh R).size (.cells #[.int .i64 0,.string ⟨#[]⟩,.slice none 0 0,.slice none 0 0,.int .i64 0,.int .i64 0,.int .i64 0,.slice none 0 0] 29))) (fun hHeld=>?_)
   clear hK K
   refine Eq.mp (hF _ _ _ _) ?_
   exact dp_to (uh st11 (World.alloc W (.cells #[.int .i64 0,.string ⟨#[]⟩,.slice none 0 0,.slice none 0 0,.int .i64 0,.int .i64 0,.int .i64 0,.slice none 0 0] 29)) W.heap.size (hide ((uh R).alloc (uh R).size _)) (hide (uh R).size) (hide (box_nw _ _))) (by kernel_rfl) rfl
  refine AllReadyH.cons (o:=⟨some 15,.alloc 29,_,_,_,none⟩) rfl (fun K hK=>?_) ?_
  ·go_simp
   refine hK.out _ _ (KS _ ((uh R).alloc (uh R).size (.cells #[.int .i64 0,.string ⟨#[]⟩,.slice none 0 0,.slice none 0 0,.int .i64 0,.int .i64 0,.int .i64 0,.slice none 0 0] 29))) (fun hHeld=>?_)
   clear hK K
   refine Eq.mp (hF _ _ _ _) ?_
   exact dp_to (uh st12 (World.alloc W (.cells #[.int .i64 0,.string ⟨#[]⟩,.slice none 0 0,.slice none 0 0,.int .i64 0,.int .i64 0,.int .i64 0,.slice none 0 0] 29)) W.heap.size (hide ((uh R).alloc (uh R).size _)) (hide (uh R).size) (hide (box_nw _ _))) (by kernel_rfl) rfl
  exact AllReadyH.nil
  )
 exact dp_to (uh st13 _ (hide (Below.refl _ _).drew)) (by kernel_rfl) rfl
end Go.Proofs.YtikhopiegaoacaaDoor

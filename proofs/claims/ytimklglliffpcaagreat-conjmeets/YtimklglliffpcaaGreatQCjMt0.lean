/- The law ConjMeets: the region that meets the predicates turned round, of no predicates. -/
import Derived.Test.YtimklglliffpcaaGreatQCjMt16
namespace Go.Proofs.YtimklglliffpcaaGreat
open Go.RowKit Go.Sort Go.Shelf

section
variable {α : Type} [Inhabited α] {enc : α → List Value} {t e : TypeId} {k bytes : Nat}
/-- append of what may be no list at all. -/
theorem step_appO (R:RowOf enc t e k bytes) {ops:Array Oper} {o:Oper} {a:Act} {w:World} {K:Act→World→Prop} {Q:Exit→Act→World→Prop} {E:Prop} (hgd:o.guard=none) (s x:Operand)
  (ho:o.op=.call { callee:=.builtin .append,args:=#[s,x],argTypes:=#[t,t] }) (B:Nat) (q:Option Addr) (cap:Nat) (l:List α) (p:Option Addr) (c:Nat) (m:List α) (n n' N:Nat) (hn:l.length=n) (hn':m.length=n') (hN:n + n'=N)
  (es:a.eval s=.slice q n cap) (ex:a.eval x=.slice p n' c) (hown:OwnK enc e k B w q cap l) (hs:SrcK enc k w p c m) (hm:N≤maxLen) (hb:N * bytes≤140737488355328) (hB:B≤w.heap.size)
  (h:∀ q' cap' w',OwnK enc e k B w' q' cap' (l ++ m)→Below B w w'→w.grownBy w' (Value.slice q n cap).ownBlock→((Value.slice q' N cap').ownBlock=(Value.slice q n cap).ownBlock ∨ (Value.slice q' N cap').ownBlock=some w.heap.size)→K (a.put o.dst (.slice q' N cap')) w') :
  if Region.wanted o (yielded ops a.tmps)=true then Oper.wp Tryz.prog o a w K Q else E:=by
 cases p with
 | some ad=>exact step_appG R hgd s x ho B q cap l ad c m n n' N hn hn' hN es ex hown hs hm hb hB h
 | none =>
  have hw:Region.wanted o (yielded ops a.tmps)=true:=by simp [Region.wanted,hgd]
  rw [if_pos hw]
  obtain ⟨i0,z,hi,hz,hsz,hby,hzs⟩:=R.info
  obtain ⟨h0,rfl⟩:=hs.1 rfl
  obtain rfl:m=[]:=List.length_eq_zero_iff.1 h0
  subst hn
  obtain rfl:n'=0:=hn'.symm
  obtain rfl:N=l.length:=by omega
  have hr:=run_append_owned_none (P:=Tryz.prog) (w:=w) B t o.type e i0 k R.und hi _ _ _ hown
  unfold Oper.wp execOp
  simp only [ho,resolve,invoke,builtin,Sem.run_bind,Sem.run_pure,Result.andThen_ok,List.map_toArray,List.map_cons,List.map_nil,es,ex,hr]
  exact h q cap w (by simpa using hown) (Below.refl _ _) (World.grownBy.refl w _) (Or.inl rfl)
end
theorem srcNil {α:Type} [Inhabited α] {enc:α→List Value} {k:Nat} {W:World} {q:Option Addr} (c:Nat) (h:q=none→c=0):SrcK enc k W q c ([]:List α) :=
 ⟨fun e=>⟨rfl,h e⟩,fun _ _ j u hj=>by simp [flatK] at hj⟩
theorem cMt0 (q:Option Addr) (c:Nat) (W:World) {B:Nat} (ho:OwnK encD 26 6 B W q c ([] ++ [] ++ [])) :
  Calls Tryz.prog 14 #[.slice q 0 c] W fun e w'=>(∃ r:Pv,e=.returned (.tuple #[.agg #[.int .i64 r.kind,.string r.attr,.slice r.qi r.ni r.ci,.slice r.qw r.nw r.cw,.int .i64 r.lo,.int .i64 r.hi],.bool (meetD []).isSome])∧PdOwn W.heap.size w' r ((meetD []).getD zeroD))∧Below W.heap.size W w' :=
 meet_any q c [] W ⟨[],by simpa using ho.ls,rfl,fun j u p hj=>by simp at hj⟩ (fun p hp=>by simp at hp) (by simp)
set_option maxRecDepth 100000 in
set_option maxHeartbeats 40000000 in
theorem reg16z (U:World) (ad:Addr) (c:Nat)
  (aa ab ac ae af ag ah ai aj ak al am an ao ap aq ar au av aw ax ay az ba bc bd bf bg bh bi bj bk bl bm bo bp bq br bs bt bu bv bw bx bz ca cb cc cd ce cf cg ch cj ck cl cm cn co cp cq cr cs ct cu cv cx cy cz da db dc dd de df dg dh di dj dk dl dm dn dp dq dr ds dt du dv dw dx dy dz ea eb ec ed ee ef eg eh ei ej ek el em en eo ep er et eu ev ew ey ez fa fb fc fd fe ff fg fh fi:Value) (d:List Deferred) (Q:Exit→Act→World→Prop) (hP:∀ c (a:Act) o v w,Q (.panic c) (a.put o v) w→Q (.panic c) a w)
  (hQ:∀ (W:World) (r:Pv) (M:Nat) (fj fk fl fm fn fo fp fq fr fs ft fu fv:Value),Below U.heap.size U W→W.heap[M]? = some (.cells #[.int .i64 r.kind,.string r.attr,.slice r.qi r.ni r.ci,.slice r.qw r.nw r.cw,.int .i64 r.lo,.int .i64 r.hi] 26 (0,0))→PdIn W r ((meetD []).getD zeroD)→Q .normal (Act.mk #[.slice (some ad) 0 c,aa,ab,ac,ae,af,ag,ah,ai,aj,ak,al,am,an,.int .i64 0,.pointer (some ⟨M,0,none⟩),.bool (meetD []).isSome,aq,ar,au,av,aw,ax,ay,az,ba,bc,bd,bf,bg,bh,bi,bj,bk,bl,bm,bo,bp,bq,br,bs,bt,bu,bv,bw,bx,bz,ca,cb,cc,cd,ce,cf,cg,ch,cj,ck,cl,cm,cn,co,cp,cq,cr,cs,ct,cu,cv,cx,cy,cz,da,db,dc,dd,de,df,dg,dh,di,dj,dk,dl,dm,dn,dp,dq,dr,fj,fk,fl,fm,fn,fo,fp,fq,fr,fs,ft,fu,fv,ef,eg,eh,ei,ej,ek,el,em,en,eo,ep,er,et,eu,ev,ew,ey,ez,fa,fb,fc,fd,fe,ff,fg,fh,fi] d) W) :
  (Code.region 16 #[{ dst:=some 89,op:=Op.buildSlice 22 0 #[],type:=22,pos:="law.go:158",after:=#[],guard:=none },{ dst:=some 90,op:=Op.move (Operand.tmp 0),type:=22,pos:="law.go:158",after:=#[],guard:=none },{ dst:=some 91,op:=Op.move (Operand.tmp 14),type:=3,pos:="law.go:158",after:=#[],guard:=none },{ dst:=some 92,op:=Op.slice 22 (Operand.tmp 90) (some (Operand.tmp 91)) none none,type:=22,pos:="law.go:158",after:=#[{ on:=1,ground:=Ground.data },{ on:=2,ground:=Ground.data }],guard:=none },{ dst:=some 93,op:=Op.call { callee:=Callee.builtin Builtin.append,args:=#[Operand.tmp 89,Operand.tmp 92],argTypes:=#[22,22] },type:=22,pos:="law.go:158",after:=#[{ on:=0,ground:=Ground.data },{ on:=3,ground:=Ground.data }],guard:=none },{ dst:=some 94,op:=Op.move (Operand.tmp 0),type:=22,pos:="law.go:158",after:=#[],guard:=none },{ dst:=some 95,op:=Op.move (Operand.tmp 14),type:=3,pos:="law.go:158",after:=#[],guard:=none },{ dst:=some 96,op:=Op.slice 22 (Operand.tmp 94) none (some (Operand.tmp 95)) none,type:=22,pos:="law.go:158",after:=#[{ on:=5,ground:=Ground.data },{ on:=6,ground:=Ground.data }],guard:=none },{ dst:=some 97,op:=Op.call { callee:=Callee.builtin Builtin.append,args:=#[Operand.tmp 93,Operand.tmp 96],argTypes:=#[22,22] },type:=22,pos:="law.go:158",after:=#[{ on:=4,ground:=Ground.data },{ on:=7,ground:=Ground.data },{ on:=4,ground:=Ground.chain }],guard:=none },{ dst:=some 98,op:=Op.call { callee:=Callee.value (Operand.func 14),args:=#[Operand.tmp 97],argTypes:=#[22] },type:=30,pos:="law.go:158",after:=#[{ on:=8,ground:=Ground.data },{ on:=8,ground:=Ground.chain }],guard:=none },{ dst:=some 88,op:=Op.move (Operand.tmp 98),type:=30,pos:="law.go:158",after:=#[{ on:=9,ground:=Ground.data }],guard:=none },{ dst:=some 99,op:=Op.extract (Operand.tmp 88) 0,type:=26,pos:="law.go:158",after:=#[{ on:=10,ground:=Ground.data }],guard:=none },{ dst:=some 100,op:=Op.extract (Operand.tmp 88) 1,type:=4,pos:="law.go:158",after:=#[{ on:=10,ground:=Ground.data },{ on:=14,ground:=Ground.gcOnly Departure.lateStores }],guard:=none },{ dst:=some 15,op:=Op.alloc 26,type:=0,pos:="law.go:158",after:=#[],guard:=none },{ dst:=none,op:=Op.store 26 (Operand.tmp 15) (Operand.tmp 99),type:=0,pos:="law.go:158",after:=#[{ on:=13,ground:=Ground.data },{ on:=11,ground:=Ground.data },{ on:=9,ground:=Ground.chain },{ on:=0,ground:=Ground.phase },{ on:=1,ground:=Ground.phase },{ on:=2,ground:=Ground.phase },{ on:=3,ground:=Ground.phase },{ on:=4,ground:=Ground.phase },{ on:=5,ground:=Ground.phase },{ on:=6,ground:=Ground.phase },{ on:=7,ground:=Ground.phase },{ on:=8,ground:=Ground.phase },{ on:=9,ground:=Ground.phase },{ on:=10,ground:=Ground.phase },{ on:=11,ground:=Ground.phase },{ on:=12,ground:=Ground.textOnly Departure.lateStores },{ on:=13,ground:=Ground.phase }],guard:=none },{ dst:=some 16,op:=Op.assign (Operand.tmp 100),type:=4,pos:="law.go:158",after:=#[{ on:=12,ground:=Ground.data },{ on:=14,ground:=Ground.chain },{ on:=0,ground:=Ground.phase },{ on:=1,ground:=Ground.phase },{ on:=2,ground:=Ground.phase },{ on:=3,ground:=Ground.phase },{ on:=4,ground:=Ground.phase },{ on:=5,ground:=Ground.phase },{ on:=6,ground:=Ground.phase },{ on:=7,ground:=Ground.phase },{ on:=8,ground:=Ground.phase },{ on:=9,ground:=Ground.phase },{ on:=10,ground:=Ground.phase },{ on:=11,ground:=Ground.phase },{ on:=12,ground:=Ground.phase },{ on:=13,ground:=Ground.phase },{ on:=14,ground:=Ground.phase }],guard:=none }] true).wp Tryz.prog Q (Act.mk #[.slice (some ad) 0 c,aa,ab,ac,ae,af,ag,ah,ai,aj,ak,al,am,an,.int .i64 0,ao,ap,aq,ar,au,av,aw,ax,ay,az,ba,bc,bd,bf,bg,bh,bi,bj,bk,bl,bm,bo,bp,bq,br,bs,bt,bu,bv,bw,bx,bz,ca,cb,cc,cd,ce,cf,cg,ch,cj,ck,cl,cm,cn,co,cp,cq,cr,cs,ct,cu,cv,cx,cy,cz,da,db,dc,dd,de,df,dg,dh,di,dj,dk,dl,dm,dn,dp,dq,dr,ds,dt,du,dv,dw,dx,dy,dz,ea,eb,ec,ed,ee,ef,eg,eh,ei,ej,ek,el,em,en,eo,ep,er,et,eu,ev,ew,ey,ez,fa,fb,fc,fd,fe,ff,fg,fh,fi] d) U:=by
 have KS:∀ W,Below U.heap.size U W→(fun _=>True) W:=fun _ _=>trivial
 have HQ:=hide hQ
 have HP:=hide hP
 clear hP hQ
 refine wp_region_held_drew (S:=fun _=>True) (by kernel_rfl) (KS _ (Below.refl _ _).drew) (fun hHeld=>?_)
 clear hHeld
 refine dp_start ?_
 intro F hF
 have st0:Hid (∀ (W:World) (M0:Nat) (M13:Nat) (c4:Nat) (c8:Nat) (q4:Option Addr) (q8:Option Addr) (r:Pv),Hid (Below U.heap.size U W)→Hid (W.heap[M13]? = some (.cells #[.int .i64 r.kind,.string r.attr,.slice r.qi r.ni r.ci,.slice r.qw r.nw r.cw,.int .i64 r.lo,.int .i64 r.hi] 26 (0,0)))→Hid (PdIn W r ((meetD []).getD zeroD))→F 1 #[true,true,true,true,true,true,true,true,true,true,true,true,true,true,true,false] (Act.mk #[.slice (some ad) 0 c,aa,ab,ac,ae,af,ag,ah,ai,aj,ak,al,am,an,.int .i64 0,.pointer (some ⟨M13,0,none⟩),ap,aq,ar,au,av,aw,ax,ay,az,ba,bc,bd,bf,bg,bh,bi,bj,bk,bl,bm,bo,bp,bq,br,bs,bt,bu,bv,bw,bx,bz,ca,cb,cc,cd,ce,cf,cg,ch,cj,ck,cl,cm,cn,co,cp,cq,cr,cs,ct,cu,cv,cx,cy,cz,da,db,dc,dd,de,df,dg,dh,di,dj,dk,dl,dm,dn,dp,dq,dr,.tuple #[.agg #[.int .i64 r.kind,.string r.attr,.slice r.qi r.ni r.ci,.slice r.qw r.nw r.cw,.int .i64 r.lo,.int .i64 r.hi],.bool (meetD []).isSome],.slice (some ⟨M0,0,none⟩) 0 0,.slice (some ad) 0 c,.int .i64 0,.slice (some ad) 0 c,.slice q4 0 c4,.slice (some ad) 0 c,.int .i64 0,.slice (some ad) 0 c,.slice q8 0 c8,.tuple #[.agg #[.int .i64 r.kind,.string r.attr,.slice r.qi r.ni r.ci,.slice r.qw r.nw r.cw,.int .i64 r.lo,.int .i64 r.hi],.bool (meetD []).isSome],.agg #[.int .i64 r.kind,.string r.attr,.slice r.qi r.ni r.ci,.slice r.qw r.nw r.cw,.int .i64 r.lo,.int .i64 r.hi],.bool (meetD []).isSome,ef,eg,eh,ei,ej,ek,el,em,en,eo,ep,er,et,eu,ev,ew,ey,ez,fa,fb,fc,fd,fe,ff,fg,fh,fi] d) W):=hide (by
  intro W M0 M13 c4 c8 q4 q8 r R H15 X15
  refine Eq.mpr (hF _ _ _ _) ?_
  have hHeld:=KS W (uh R)
  refine wpAnyH_take (i:=15) (oi:=⟨some 16,.assign (.tmp 100),_,_,_,none⟩) (v:=?_) rfl (by kernel_rfl) (by kernel_rfl) (by kernel_rfl) (fun c a w=>(uh HP) c a _ _ w) (Or.inl ⟨by rfl, ?_⟩) (by assumption) ?_
  rotate_left
  ·intro wq hSw
   go_simp
   with_reducible rfl
  simp only [Act.put,List.setIfInBounds_toArray,List.set_cons_zero,List.set_cons_succ]
  refine wpAnyH_done (by kernel_rfl) ?_ _
  exact (uh HQ) W r M13 _ _ _ _ _ _ _ _ _ _ _ _ _ (uh R) (uh H15) (uh X15)
  )
 have st1:Hid (∀ (W:World) (M0:Nat) (M13:Nat) (c4:Nat) (c8:Nat) (q4:Option Addr) (q8:Option Addr) (r:Pv),Hid (Below U.heap.size U W)→Hid (U.heap.size≤M13)→Hid (W.heap[M13]? = some (.cells #[.int .i64 0,.string ⟨#[]⟩,.slice none 0 0,.slice none 0 0,.int .i64 0,.int .i64 0] 26 (0,0)))→Hid (PdOff M13 W r ((meetD []).getD zeroD))→F 2 #[true,true,true,true,true,true,true,true,true,true,true,true,true,true,false,false] (Act.mk #[.slice (some ad) 0 c,aa,ab,ac,ae,af,ag,ah,ai,aj,ak,al,am,an,.int .i64 0,.pointer (some ⟨M13,0,none⟩),ap,aq,ar,au,av,aw,ax,ay,az,ba,bc,bd,bf,bg,bh,bi,bj,bk,bl,bm,bo,bp,bq,br,bs,bt,bu,bv,bw,bx,bz,ca,cb,cc,cd,ce,cf,cg,ch,cj,ck,cl,cm,cn,co,cp,cq,cr,cs,ct,cu,cv,cx,cy,cz,da,db,dc,dd,de,df,dg,dh,di,dj,dk,dl,dm,dn,dp,dq,dr,.tuple #[.agg #[.int .i64 r.kind,.string r.attr,.slice r.qi r.ni r.ci,.slice r.qw r.nw r.cw,.int .i64 r.lo,.int .i64 r.hi],.bool (meetD []).isSome],.slice (some ⟨M0,0,none⟩) 0 0,.slice (some ad) 0 c,.int .i64 0,.slice (some ad) 0 c,.slice q4 0 c4,.slice (some ad) 0 c,.int .i64 0,.slice (some ad) 0 c,.slice q8 0 c8,.tuple #[.agg #[.int .i64 r.kind,.string r.attr,.slice r.qi r.ni r.ci,.slice r.qw r.nw r.cw,.int .i64 r.lo,.int .i64 r.hi],.bool (meetD []).isSome],.agg #[.int .i64 r.kind,.string r.attr,.slice r.qi r.ni r.ci,.slice r.qw r.nw r.cw,.int .i64 r.lo,.int .i64 r.hi],.bool (meetD []).isSome,ef,eg,eh,ei,ej,ek,el,em,en,eo,ep,er,et,eu,ev,ew,ey,ez,fa,fb,fc,fd,fe,ff,fg,fh,fi] d) W):=hide (by
  intro W M0 M13 c4 c8 q4 q8 r R G13 H13 X
  refine Eq.mpr (hF _ _ _ _) ?_
  have hHeld:=KS W (uh R)
  refine wpAnyH_ready (rs:=[14]) (by kernel_rfl) (by simp) ?_
  refine AllReadyH.cons (o:=⟨none,.store 26 (.tmp 15) (.tmp 99),_,_,_,none⟩) rfl (fun K hK=>?_) ?_
  ·obtain ⟨y0,y1,y2,y3,y4,y5⟩:=of6C (uh H13)
   have yf:=fun o=>frozen_free (o:=o) (uh H13)
   go_simp
   refine hK.out _ _ (KS _ (((((((uh R).setCell (p:=⟨M13,0,none⟩) (uh G13) (.int .i64 r.kind)).setCell (p:=⟨M13,1,none⟩) (uh G13) (.string r.attr)).setCell (p:=⟨M13,2,none⟩) (uh G13) (.slice r.qi r.ni r.ci)).setCell (p:=⟨M13,3,none⟩) (uh G13) (.slice r.qw r.nw r.cw)).setCell (p:=⟨M13,4,none⟩) (uh G13) (.int .i64 r.lo)).setCell (p:=⟨M13,5,none⟩) (uh G13) (.int .i64 r.hi))) (fun hHeld=>?_)
   clear hK K
   refine Eq.mp (hF _ _ _ _) ?_
   exact dp_to (uh st0 (World.setCell (World.setCell (World.setCell (World.setCell (World.setCell (World.setCell W ⟨M13,0,none⟩ (.int .i64 r.kind)) ⟨M13,1,none⟩ (.string r.attr)) ⟨M13,2,none⟩ (.slice r.qi r.ni r.ci)) ⟨M13,3,none⟩ (.slice r.qw r.nw r.cw)) ⟨M13,4,none⟩ (.int .i64 r.lo)) ⟨M13,5,none⟩ (.int .i64 r.hi)) M0 M13 c4 c8 q4 q8 r (hide (((((((uh R).setCell (p:=⟨M13,0,none⟩) (uh G13) (.int .i64 r.kind)).setCell (p:=⟨M13,1,none⟩) (uh G13) (.string r.attr)).setCell (p:=⟨M13,2,none⟩) (uh G13) (.slice r.qi r.ni r.ci)).setCell (p:=⟨M13,3,none⟩) (uh G13) (.slice r.qw r.nw r.cw)).setCell (p:=⟨M13,4,none⟩) (uh G13) (.int .i64 r.lo)).setCell (p:=⟨M13,5,none⟩) (uh G13) (.int .i64 r.hi))) (hide (box_set6 (uh H13) _ _ _ _ _ _)) (hide (set6_off (uh X)))) (by kernel_rfl) rfl
  exact AllReadyH.nil
  )
 have st2:Hid (∀ (W:World) (M0:Nat) (c4:Nat) (c8:Nat) (q4:Option Addr) (q8:Option Addr) (r:Pv),Hid (Below U.heap.size U W)→Hid (PdOwn9 W r ((meetD []).getD zeroD))→F 6 #[true,true,true,true,true,true,true,true,true,true,false,false,false,false,false,false] (Act.mk #[.slice (some ad) 0 c,aa,ab,ac,ae,af,ag,ah,ai,aj,ak,al,am,an,.int .i64 0,ao,ap,aq,ar,au,av,aw,ax,ay,az,ba,bc,bd,bf,bg,bh,bi,bj,bk,bl,bm,bo,bp,bq,br,bs,bt,bu,bv,bw,bx,bz,ca,cb,cc,cd,ce,cf,cg,ch,cj,ck,cl,cm,cn,co,cp,cq,cr,cs,ct,cu,cv,cx,cy,cz,da,db,dc,dd,de,df,dg,dh,di,dj,dk,dl,dm,dn,dp,dq,dr,ds,.slice (some ⟨M0,0,none⟩) 0 0,.slice (some ad) 0 c,.int .i64 0,.slice (some ad) 0 c,.slice q4 0 c4,.slice (some ad) 0 c,.int .i64 0,.slice (some ad) 0 c,.slice q8 0 c8,.tuple #[.agg #[.int .i64 r.kind,.string r.attr,.slice r.qi r.ni r.ci,.slice r.qw r.nw r.cw,.int .i64 r.lo,.int .i64 r.hi],.bool (meetD []).isSome],ed,ee,ef,eg,eh,ei,ej,ek,el,em,en,eo,ep,er,et,eu,ev,ew,ey,ez,fa,fb,fc,fd,fe,ff,fg,fh,fi] d) W):=hide (by
  intro W M0 c4 c8 q4 q8 r R X
  refine Eq.mpr (hF _ _ _ _) ?_
  have hHeld:=KS W (uh R)
  refine wpAnyH_take (i:=10) (oi:=⟨some 88,.move (.tmp 98),_,_,_,none⟩) (v:=?_) rfl (by kernel_rfl) (by kernel_rfl) (by kernel_rfl) (fun c a w=>(uh HP) c a _ _ w) (Or.inl ⟨by rfl, ?_⟩) (by assumption) ?_
  rotate_left
  ·intro wq hSw
   go_simp
   with_reducible rfl
  simp only [Act.put,List.setIfInBounds_toArray,List.set_cons_zero,List.set_cons_succ]
  refine wpAnyH_take (i:=11) (oi:=⟨some 99,.extract (.tmp 88) 0,_,_,_,none⟩) (v:=?_) rfl (by kernel_rfl) (by kernel_rfl) (by kernel_rfl) (fun c a w=>(uh HP) c a _ _ w) (Or.inl ⟨by rfl, ?_⟩) (by assumption) ?_
  rotate_left
  ·intro wq hSw
   go_simp
   with_reducible rfl
  simp only [Act.put,List.setIfInBounds_toArray,List.set_cons_zero,List.set_cons_succ]
  refine wpAnyH_take (i:=12) (oi:=⟨some 100,.extract (.tmp 88) 1,_,_,_,none⟩) (v:=?_) rfl (by kernel_rfl) (by kernel_rfl) (by kernel_rfl) (fun c a w=>(uh HP) c a _ _ w) (Or.inl ⟨by rfl, ?_⟩) (by assumption) ?_
  rotate_left
  ·intro wq hSw
   go_simp
   with_reducible rfl
  simp only [Act.put,List.setIfInBounds_toArray,List.set_cons_zero,List.set_cons_succ]
  refine wpAnyH_ready (rs:=[13]) (by kernel_rfl) (by simp) ?_
  refine AllReadyH.cons (o:=⟨some 15,.alloc 26,_,_,_,none⟩) rfl (fun K hK=>?_) ?_
  ·obtain ⟨C,hC⟩:=uh X
   go_simp
   refine hK.out _ _ (KS _ ((uh R).alloc (uh R).size (.cells #[.int .i64 0,.string ⟨#[]⟩,.slice none 0 0,.slice none 0 0,.int .i64 0,.int .i64 0] 26))) (fun hHeld=>?_)
   clear hK K
   refine Eq.mp (hF _ _ _ _) ?_
   exact dp_to (uh st1 (World.alloc W (.cells #[.int .i64 0,.string ⟨#[]⟩,.slice none 0 0,.slice none 0 0,.int .i64 0,.int .i64 0] 26)) M0 W.heap.size c4 c8 q4 q8 r (hide ((uh R).alloc (uh R).size _)) (hide (uh R).size) (hide (box_nw _ _)) (hide (hC.1.off2 _))) (by kernel_rfl) rfl
  exact AllReadyH.nil
  )
 have st3:Hid (∀ (W:World) (M0:Nat) (M13:Nat) (c4:Nat) (c8:Nat) (q4:Option Addr) (q8:Option Addr) (r:Pv),Hid (Below U.heap.size U W)→Hid (U.heap.size≤M13)→Hid (W.heap[M13]? = some (.cells #[.int .i64 0,.string ⟨#[]⟩,.slice none 0 0,.slice none 0 0,.int .i64 0,.int .i64 0] 26 (0,0)))→Hid (PdOff M13 W r ((meetD []).getD zeroD))→F 5 #[true,true,true,true,true,true,true,true,true,true,false,false,false,true,false,false] (Act.mk #[.slice (some ad) 0 c,aa,ab,ac,ae,af,ag,ah,ai,aj,ak,al,am,an,.int .i64 0,.pointer (some ⟨M13,0,none⟩),ap,aq,ar,au,av,aw,ax,ay,az,ba,bc,bd,bf,bg,bh,bi,bj,bk,bl,bm,bo,bp,bq,br,bs,bt,bu,bv,bw,bx,bz,ca,cb,cc,cd,ce,cf,cg,ch,cj,ck,cl,cm,cn,co,cp,cq,cr,cs,ct,cu,cv,cx,cy,cz,da,db,dc,dd,de,df,dg,dh,di,dj,dk,dl,dm,dn,dp,dq,dr,ds,.slice (some ⟨M0,0,none⟩) 0 0,.slice (some ad) 0 c,.int .i64 0,.slice (some ad) 0 c,.slice q4 0 c4,.slice (some ad) 0 c,.int .i64 0,.slice (some ad) 0 c,.slice q8 0 c8,.tuple #[.agg #[.int .i64 r.kind,.string r.attr,.slice r.qi r.ni r.ci,.slice r.qw r.nw r.cw,.int .i64 r.lo,.int .i64 r.hi],.bool (meetD []).isSome],ed,ee,ef,eg,eh,ei,ej,ek,el,em,en,eo,ep,er,et,eu,ev,ew,ey,ez,fa,fb,fc,fd,fe,ff,fg,fh,fi] d) W):=hide (by
  intro W M0 M13 c4 c8 q4 q8 r R G13 H13 X
  refine Eq.mpr (hF _ _ _ _) ?_
  have hHeld:=KS W (uh R)
  refine wpAnyH_take (i:=10) (oi:=⟨some 88,.move (.tmp 98),_,_,_,none⟩) (v:=?_) rfl (by kernel_rfl) (by kernel_rfl) (by kernel_rfl) (fun c a w=>(uh HP) c a _ _ w) (Or.inl ⟨by rfl, ?_⟩) (by assumption) ?_
  rotate_left
  ·intro wq hSw
   go_simp
   with_reducible rfl
  simp only [Act.put,List.setIfInBounds_toArray,List.set_cons_zero,List.set_cons_succ]
  refine wpAnyH_take (i:=11) (oi:=⟨some 99,.extract (.tmp 88) 0,_,_,_,none⟩) (v:=?_) rfl (by kernel_rfl) (by kernel_rfl) (by kernel_rfl) (fun c a w=>(uh HP) c a _ _ w) (Or.inl ⟨by rfl, ?_⟩) (by assumption) ?_
  rotate_left
  ·intro wq hSw
   go_simp
   with_reducible rfl
  simp only [Act.put,List.setIfInBounds_toArray,List.set_cons_zero,List.set_cons_succ]
  refine wpAnyH_take (i:=12) (oi:=⟨some 100,.extract (.tmp 88) 1,_,_,_,none⟩) (v:=?_) rfl (by kernel_rfl) (by kernel_rfl) (by kernel_rfl) (fun c a w=>(uh HP) c a _ _ w) (Or.inl ⟨by rfl, ?_⟩) (by assumption) ?_
  rotate_left
  ·intro wq hSw
   go_simp
   with_reducible rfl
  simp only [Act.put,List.setIfInBounds_toArray,List.set_cons_zero,List.set_cons_succ]
  refine wpAnyH_ready (rs:=[14]) (by kernel_rfl) (by simp) ?_
  refine AllReadyH.cons (o:=⟨none,.store 26 (.tmp 15) (.tmp 99),_,_,_,none⟩) rfl (fun K hK=>?_) ?_
  ·obtain ⟨y0,y1,y2,y3,y4,y5⟩:=of6C (uh H13)
   have yf:=fun o=>frozen_free (o:=o) (uh H13)
   go_simp
   refine hK.out _ _ (KS _ (((((((uh R).setCell (p:=⟨M13,0,none⟩) (uh G13) (.int .i64 r.kind)).setCell (p:=⟨M13,1,none⟩) (uh G13) (.string r.attr)).setCell (p:=⟨M13,2,none⟩) (uh G13) (.slice r.qi r.ni r.ci)).setCell (p:=⟨M13,3,none⟩) (uh G13) (.slice r.qw r.nw r.cw)).setCell (p:=⟨M13,4,none⟩) (uh G13) (.int .i64 r.lo)).setCell (p:=⟨M13,5,none⟩) (uh G13) (.int .i64 r.hi))) (fun hHeld=>?_)
   clear hK K
   refine Eq.mp (hF _ _ _ _) ?_
   exact dp_to (uh st0 (World.setCell (World.setCell (World.setCell (World.setCell (World.setCell (World.setCell W ⟨M13,0,none⟩ (.int .i64 r.kind)) ⟨M13,1,none⟩ (.string r.attr)) ⟨M13,2,none⟩ (.slice r.qi r.ni r.ci)) ⟨M13,3,none⟩ (.slice r.qw r.nw r.cw)) ⟨M13,4,none⟩ (.int .i64 r.lo)) ⟨M13,5,none⟩ (.int .i64 r.hi)) M0 M13 c4 c8 q4 q8 r (hide (((((((uh R).setCell (p:=⟨M13,0,none⟩) (uh G13) (.int .i64 r.kind)).setCell (p:=⟨M13,1,none⟩) (uh G13) (.string r.attr)).setCell (p:=⟨M13,2,none⟩) (uh G13) (.slice r.qi r.ni r.ci)).setCell (p:=⟨M13,3,none⟩) (uh G13) (.slice r.qw r.nw r.cw)).setCell (p:=⟨M13,4,none⟩) (uh G13) (.int .i64 r.lo)).setCell (p:=⟨M13,5,none⟩) (uh G13) (.int .i64 r.hi))) (hide (box_set6 (uh H13) _ _ _ _ _ _)) (hide (set6_off (uh X)))) (by kernel_rfl) rfl
  exact AllReadyH.nil
  )
 have st4:Hid (∀ (W:World) (M0:Nat) (M13:Nat) (c4:Nat) (c8:Nat) (q4:Option Addr) (q8:Option Addr),Hid (Below U.heap.size U W)→Hid (∀ b,(Value.slice q8 0 c8).ownBlock=some b→b ≠ M13)→Hid (U.heap.size≤M13)→Hid (W.heap[M13]? = some (.cells #[.int .i64 0,.string ⟨#[]⟩,.slice none 0 0,.slice none 0 0,.int .i64 0,.int .i64 0] 26 (0,0)))→Hid (OwnK encD 26 6 U.heap.size W q8 c8 (([] ++ []) ++ []))→F 6 #[true,true,true,true,true,true,true,true,true,false,false,false,false,true,false,false] (Act.mk #[.slice (some ad) 0 c,aa,ab,ac,ae,af,ag,ah,ai,aj,ak,al,am,an,.int .i64 0,.pointer (some ⟨M13,0,none⟩),ap,aq,ar,au,av,aw,ax,ay,az,ba,bc,bd,bf,bg,bh,bi,bj,bk,bl,bm,bo,bp,bq,br,bs,bt,bu,bv,bw,bx,bz,ca,cb,cc,cd,ce,cf,cg,ch,cj,ck,cl,cm,cn,co,cp,cq,cr,cs,ct,cu,cv,cx,cy,cz,da,db,dc,dd,de,df,dg,dh,di,dj,dk,dl,dm,dn,dp,dq,dr,ds,.slice (some ⟨M0,0,none⟩) 0 0,.slice (some ad) 0 c,.int .i64 0,.slice (some ad) 0 c,.slice q4 0 c4,.slice (some ad) 0 c,.int .i64 0,.slice (some ad) 0 c,.slice q8 0 c8,ec,ed,ee,ef,eg,eh,ei,ej,ek,el,em,en,eo,ep,er,et,eu,ev,ew,ey,ez,fa,fb,fc,fd,fe,ff,fg,fh,fi] d) W):=hide (by
  intro W M0 M13 c4 c8 q4 q8 R D G13 H13 O
  refine Eq.mpr (hF _ _ _ _) ?_
  have hHeld:=KS W (uh R)
  refine wpAnyH_ready (rs:=[9]) (by kernel_rfl) (by simp) ?_
  refine AllReadyH.cons (o:=⟨some 98,.call { callee:=.value (.func 14),args:=#[.tmp 97],argTypes:=#[22] },_,_,_,none⟩) rfl (fun K hK=>?_) ?_
  ·go_simp
   refine (cMt0 q8 c8 _ (uh O)).mono ?_
   rintro e W1 ⟨⟨r,rfl,bn⟩,bb⟩
   refine hK.out _ _ (KS _ (below_sub (uh R) bb)) (fun hHeld=>?_)
   clear hK K
   refine Eq.mp (hF _ _ _ _) ?_
   exact dp_to (uh st3 W1 M0 M13 c4 c8 q4 q8 r (hide (below_sub (uh R) bb)) G13 (hide (((bb).block _ (heap_lt (uh H13))).trans (uh H13))) (hide (bn.off (heap_lt (uh H13))))) (by kernel_rfl) rfl
  exact AllReadyH.nil
  )
 have st5:Hid (∀ (W:World) (M0:Nat) (c4:Nat) (c8:Nat) (q4:Option Addr) (q8:Option Addr),Hid (Below U.heap.size U W)→Hid (OwnK encD 26 6 U.heap.size W q8 c8 (([] ++ []) ++ []))→F 7 #[true,true,true,true,true,true,true,true,true,false,false,false,false,false,false,false] (Act.mk #[.slice (some ad) 0 c,aa,ab,ac,ae,af,ag,ah,ai,aj,ak,al,am,an,.int .i64 0,ao,ap,aq,ar,au,av,aw,ax,ay,az,ba,bc,bd,bf,bg,bh,bi,bj,bk,bl,bm,bo,bp,bq,br,bs,bt,bu,bv,bw,bx,bz,ca,cb,cc,cd,ce,cf,cg,ch,cj,ck,cl,cm,cn,co,cp,cq,cr,cs,ct,cu,cv,cx,cy,cz,da,db,dc,dd,de,df,dg,dh,di,dj,dk,dl,dm,dn,dp,dq,dr,ds,.slice (some ⟨M0,0,none⟩) 0 0,.slice (some ad) 0 c,.int .i64 0,.slice (some ad) 0 c,.slice q4 0 c4,.slice (some ad) 0 c,.int .i64 0,.slice (some ad) 0 c,.slice q8 0 c8,ec,ed,ee,ef,eg,eh,ei,ej,ek,el,em,en,eo,ep,er,et,eu,ev,ew,ey,ez,fa,fb,fc,fd,fe,ff,fg,fh,fi] d) W):=hide (by
  intro W M0 c4 c8 q4 q8 R O
  refine Eq.mpr (hF _ _ _ _) ?_
  have hHeld:=KS W (uh R)
  refine wpAnyH_ready (rs:=[9,13]) (by kernel_rfl) (by simp) ?_
  refine AllReadyH.cons (o:=⟨some 98,.call { callee:=.value (.func 14),args:=#[.tmp 97],argTypes:=#[22] },_,_,_,none⟩) rfl (fun K hK=>?_) ?_
  ·go_simp
   refine (cMt0 q8 c8 _ (uh O)).mono ?_
   rintro e W1 ⟨⟨r,rfl,bn⟩,bb⟩
   refine hK.out _ _ (KS _ (below_sub (uh R) bb)) (fun hHeld=>?_)
   clear hK K
   refine Eq.mp (hF _ _ _ _) ?_
   exact dp_to (uh st2 W1 M0 c4 c8 q4 q8 r (hide (below_sub (uh R) bb)) (hide ⟨_,bn⟩)) (by kernel_rfl) rfl
  refine AllReadyH.cons (o:=⟨some 15,.alloc 26,_,_,_,none⟩) rfl (fun K hK=>?_) ?_
  ·go_simp
   refine hK.out _ _ (KS _ ((uh R).alloc (uh R).size (.cells #[.int .i64 0,.string ⟨#[]⟩,.slice none 0 0,.slice none 0 0,.int .i64 0,.int .i64 0] 26))) (fun hHeld=>?_)
   clear hK K
   refine Eq.mp (hF _ _ _ _) ?_
   exact dp_to (uh st4 (World.alloc W (.cells #[.int .i64 0,.string ⟨#[]⟩,.slice none 0 0,.slice none 0 0,.int .i64 0,.int .i64 0] 26)) M0 W.heap.size c4 c8 q4 q8 (hide ((uh R).alloc (uh R).size _)) (hide (fun b e=>Nat.ne_of_lt (own_ltD (uh O) rfl b e))) (hide (uh R).size) (hide (box_nw _ _)) (hide ((uh O).below (((Below.refl W.heap.size W).alloc (Nat.le_refl _) (.cells #[.int .i64 0,.string ⟨#[]⟩,.slice none 0 0,.slice none 0 0,.int .i64 0,.int .i64 0] 26)))))) (by kernel_rfl) rfl
  exact AllReadyH.nil
  )
 have st6:Hid (∀ (W:World) (M0:Nat) (M13:Nat) (c4:Nat) (q4:Option Addr),Hid (Below U.heap.size U W)→Hid (∀ b,(Value.slice q4 0 c4).ownBlock=some b→b ≠ M13)→Hid (U.heap.size≤M13)→Hid (W.heap[M13]? = some (.cells #[.int .i64 0,.string ⟨#[]⟩,.slice none 0 0,.slice none 0 0,.int .i64 0,.int .i64 0] 26 (0,0)))→Hid (OwnK encD 26 6 U.heap.size W q4 c4 ([] ++ []))→F 7 #[true,true,true,true,true,true,true,true,false,false,false,false,false,true,false,false] (Act.mk #[.slice (some ad) 0 c,aa,ab,ac,ae,af,ag,ah,ai,aj,ak,al,am,an,.int .i64 0,.pointer (some ⟨M13,0,none⟩),ap,aq,ar,au,av,aw,ax,ay,az,ba,bc,bd,bf,bg,bh,bi,bj,bk,bl,bm,bo,bp,bq,br,bs,bt,bu,bv,bw,bx,bz,ca,cb,cc,cd,ce,cf,cg,ch,cj,ck,cl,cm,cn,co,cp,cq,cr,cs,ct,cu,cv,cx,cy,cz,da,db,dc,dd,de,df,dg,dh,di,dj,dk,dl,dm,dn,dp,dq,dr,ds,.slice (some ⟨M0,0,none⟩) 0 0,.slice (some ad) 0 c,.int .i64 0,.slice (some ad) 0 c,.slice q4 0 c4,.slice (some ad) 0 c,.int .i64 0,.slice (some ad) 0 c,eb,ec,ed,ee,ef,eg,eh,ei,ej,ek,el,em,en,eo,ep,er,et,eu,ev,ew,ey,ez,fa,fb,fc,fd,fe,ff,fg,fh,fi] d) W):=hide (by
  intro W M0 M13 c4 q4 R D G13 H13 O
  refine Eq.mpr (hF _ _ _ _) ?_
  have hHeld:=KS W (uh R)
  refine wpAnyH_ready (rs:=[8]) (by kernel_rfl) (by simp) ?_
  refine AllReadyH.cons (o:=⟨some 97,.call { callee:=.builtin .append,args:=#[.tmp 93,.tmp 96],argTypes:=#[22,22] },_,_,_,none⟩) rfl (fun K hK=>?_) ?_
  ·refine step_appO rowD (by rfl) (.tmp 93) (.tmp 96) (by rfl) U.heap.size q4 c4 ([] ++ []) (some ad) c [] 0 0 0 rfl rfl rfl (by rfl) (by rfl) (uh O) (srcNil _ (by simp)) (by unfold maxLen;omega) (by omega) (uh R).size ?_
   intro q8 c8 w9 ho9 hb9 hg9 hor9
   refine hK.out _ _ (KS _ ((uh R).trans hb9)) (fun hHeld=>?_)
   clear hK K
   refine Eq.mp (hF _ _ _ _) ?_
   exact dp_to (uh st4 w9 M0 M13 c4 c8 q4 q8 (hide ((uh R).trans hb9)) (hide (fun b e=>by rcases hor9 with h9 | h9;exact (uh D) b (h9.symm.trans e);exact (by rw [h9] at e;cases e;exact Nat.ne_of_gt (heap_lt (uh H13))))) G13 (hide ((hg9.block _ (heap_lt (uh H13)) (fun e=>(uh D) _ e.symm rfl)).trans (uh H13))) (hide ho9)) (by kernel_rfl) rfl
  exact AllReadyH.nil
  )
 have st7:Hid (∀ (W:World) (M0:Nat) (c4:Nat) (q4:Option Addr),Hid (Below U.heap.size U W)→Hid (OwnK encD 26 6 U.heap.size W q4 c4 ([] ++ []))→F 8 #[true,true,true,true,true,true,true,true,false,false,false,false,false,false,false,false] (Act.mk #[.slice (some ad) 0 c,aa,ab,ac,ae,af,ag,ah,ai,aj,ak,al,am,an,.int .i64 0,ao,ap,aq,ar,au,av,aw,ax,ay,az,ba,bc,bd,bf,bg,bh,bi,bj,bk,bl,bm,bo,bp,bq,br,bs,bt,bu,bv,bw,bx,bz,ca,cb,cc,cd,ce,cf,cg,ch,cj,ck,cl,cm,cn,co,cp,cq,cr,cs,ct,cu,cv,cx,cy,cz,da,db,dc,dd,de,df,dg,dh,di,dj,dk,dl,dm,dn,dp,dq,dr,ds,.slice (some ⟨M0,0,none⟩) 0 0,.slice (some ad) 0 c,.int .i64 0,.slice (some ad) 0 c,.slice q4 0 c4,.slice (some ad) 0 c,.int .i64 0,.slice (some ad) 0 c,eb,ec,ed,ee,ef,eg,eh,ei,ej,ek,el,em,en,eo,ep,er,et,eu,ev,ew,ey,ez,fa,fb,fc,fd,fe,ff,fg,fh,fi] d) W):=hide (by
  intro W M0 c4 q4 R O
  refine Eq.mpr (hF _ _ _ _) ?_
  have hHeld:=KS W (uh R)
  refine wpAnyH_ready (rs:=[8,13]) (by kernel_rfl) (by simp) ?_
  refine AllReadyH.cons (o:=⟨some 97,.call { callee:=.builtin .append,args:=#[.tmp 93,.tmp 96],argTypes:=#[22,22] },_,_,_,none⟩) rfl (fun K hK=>?_) ?_
  ·refine step_appO rowD (by rfl) (.tmp 93) (.tmp 96) (by rfl) U.heap.size q4 c4 ([] ++ []) (some ad) c [] 0 0 0 rfl rfl rfl (by rfl) (by rfl) (uh O) (srcNil _ (by simp)) (by unfold maxLen;omega) (by omega) (uh R).size ?_
   intro q8 c8 w9 ho9 hb9 hg9 hor9
   refine hK.out _ _ (KS _ ((uh R).trans hb9)) (fun hHeld=>?_)
   clear hK K
   refine Eq.mp (hF _ _ _ _) ?_
   exact dp_to (uh st5 w9 M0 c4 c8 q4 q8 (hide ((uh R).trans hb9)) (hide ho9)) (by kernel_rfl) rfl
  refine AllReadyH.cons (o:=⟨some 15,.alloc 26,_,_,_,none⟩) rfl (fun K hK=>?_) ?_
  ·go_simp
   refine hK.out _ _ (KS _ ((uh R).alloc (uh R).size (.cells #[.int .i64 0,.string ⟨#[]⟩,.slice none 0 0,.slice none 0 0,.int .i64 0,.int .i64 0] 26))) (fun hHeld=>?_)
   clear hK K
   refine Eq.mp (hF _ _ _ _) ?_
   exact dp_to (uh st6 (World.alloc W (.cells #[.int .i64 0,.string ⟨#[]⟩,.slice none 0 0,.slice none 0 0,.int .i64 0,.int .i64 0] 26)) M0 W.heap.size c4 q4 (hide ((uh R).alloc (uh R).size _)) (hide (fun b e=>Nat.ne_of_lt (own_ltD (uh O) rfl b e))) (hide (uh R).size) (hide (box_nw _ _)) (hide ((uh O).below (((Below.refl W.heap.size W).alloc (Nat.le_refl _) (.cells #[.int .i64 0,.string ⟨#[]⟩,.slice none 0 0,.slice none 0 0,.int .i64 0,.int .i64 0] 26)))))) (by kernel_rfl) rfl
  exact AllReadyH.nil
  )
 have st8:Hid (∀ (W:World) (M0:Nat) (M13:Nat),Hid (Below U.heap.size U W)→Hid (∀ b,(Value.slice (some ⟨M0,0,none⟩) 0 0).ownBlock=some b→b ≠ M13)→Hid (U.heap.size≤M13)→Hid (W.heap[M13]? = some (.cells #[.int .i64 0,.string ⟨#[]⟩,.slice none 0 0,.slice none 0 0,.int .i64 0,.int .i64 0] 26 (0,0)))→Hid (OwnK encD 26 6 U.heap.size W (some ⟨M0,0,none⟩) 0 [])→F 8 #[true,true,true,true,false,true,true,true,false,false,false,false,false,true,false,false] (Act.mk #[.slice (some ad) 0 c,aa,ab,ac,ae,af,ag,ah,ai,aj,ak,al,am,an,.int .i64 0,.pointer (some ⟨M13,0,none⟩),ap,aq,ar,au,av,aw,ax,ay,az,ba,bc,bd,bf,bg,bh,bi,bj,bk,bl,bm,bo,bp,bq,br,bs,bt,bu,bv,bw,bx,bz,ca,cb,cc,cd,ce,cf,cg,ch,cj,ck,cl,cm,cn,co,cp,cq,cr,cs,ct,cu,cv,cx,cy,cz,da,db,dc,dd,de,df,dg,dh,di,dj,dk,dl,dm,dn,dp,dq,dr,ds,.slice (some ⟨M0,0,none⟩) 0 0,.slice (some ad) 0 c,.int .i64 0,.slice (some ad) 0 c,dx,.slice (some ad) 0 c,.int .i64 0,.slice (some ad) 0 c,eb,ec,ed,ee,ef,eg,eh,ei,ej,ek,el,em,en,eo,ep,er,et,eu,ev,ew,ey,ez,fa,fb,fc,fd,fe,ff,fg,fh,fi] d) W):=hide (by
  intro W M0 M13 R D G13 H13 O
  refine Eq.mpr (hF _ _ _ _) ?_
  have hHeld:=KS W (uh R)
  refine wpAnyH_ready (rs:=[4]) (by kernel_rfl) (by simp) ?_
  refine AllReadyH.cons (o:=⟨some 93,.call { callee:=.builtin .append,args:=#[.tmp 89,.tmp 92],argTypes:=#[22,22] },_,_,_,none⟩) rfl (fun K hK=>?_) ?_
  ·refine step_appO rowD (by rfl) (.tmp 89) (.tmp 92) (by rfl) U.heap.size (some ⟨M0,0,none⟩) 0 [] (some ad) c [] 0 0 0 rfl rfl rfl (by rfl) (by rfl) (uh O) (srcNil _ (by simp)) (by unfold maxLen;omega) (by omega) (uh R).size ?_
   intro q4 c4 w9 ho9 hb9 hg9 hor9
   refine hK.out _ _ (KS _ ((uh R).trans hb9)) (fun hHeld=>?_)
   clear hK K
   refine Eq.mp (hF _ _ _ _) ?_
   exact dp_to (uh st6 w9 M0 M13 c4 q4 (hide ((uh R).trans hb9)) (hide (fun b e=>by rcases hor9 with h9 | h9;exact (uh D) b (h9.symm.trans e);exact (by rw [h9] at e;cases e;exact Nat.ne_of_gt (heap_lt (uh H13))))) G13 (hide ((hg9.block _ (heap_lt (uh H13)) (fun e=>(uh D) _ e.symm rfl)).trans (uh H13))) (hide ho9)) (by kernel_rfl) rfl
  exact AllReadyH.nil
  )
 have st9:Hid (∀ (W:World) (M0:Nat),Hid (Below U.heap.size U W)→Hid (OwnK encD 26 6 U.heap.size W (some ⟨M0,0,none⟩) 0 [])→F 9 #[true,true,true,true,false,true,true,true,false,false,false,false,false,false,false,false] (Act.mk #[.slice (some ad) 0 c,aa,ab,ac,ae,af,ag,ah,ai,aj,ak,al,am,an,.int .i64 0,ao,ap,aq,ar,au,av,aw,ax,ay,az,ba,bc,bd,bf,bg,bh,bi,bj,bk,bl,bm,bo,bp,bq,br,bs,bt,bu,bv,bw,bx,bz,ca,cb,cc,cd,ce,cf,cg,ch,cj,ck,cl,cm,cn,co,cp,cq,cr,cs,ct,cu,cv,cx,cy,cz,da,db,dc,dd,de,df,dg,dh,di,dj,dk,dl,dm,dn,dp,dq,dr,ds,.slice (some ⟨M0,0,none⟩) 0 0,.slice (some ad) 0 c,.int .i64 0,.slice (some ad) 0 c,dx,.slice (some ad) 0 c,.int .i64 0,.slice (some ad) 0 c,eb,ec,ed,ee,ef,eg,eh,ei,ej,ek,el,em,en,eo,ep,er,et,eu,ev,ew,ey,ez,fa,fb,fc,fd,fe,ff,fg,fh,fi] d) W):=hide (by
  intro W M0 R O
  refine Eq.mpr (hF _ _ _ _) ?_
  have hHeld:=KS W (uh R)
  refine wpAnyH_ready (rs:=[4,13]) (by kernel_rfl) (by simp) ?_
  refine AllReadyH.cons (o:=⟨some 93,.call { callee:=.builtin .append,args:=#[.tmp 89,.tmp 92],argTypes:=#[22,22] },_,_,_,none⟩) rfl (fun K hK=>?_) ?_
  ·refine step_appO rowD (by rfl) (.tmp 89) (.tmp 92) (by rfl) U.heap.size (some ⟨M0,0,none⟩) 0 [] (some ad) c [] 0 0 0 rfl rfl rfl (by rfl) (by rfl) (uh O) (srcNil _ (by simp)) (by unfold maxLen;omega) (by omega) (uh R).size ?_
   intro q4 c4 w9 ho9 hb9 hg9 hor9
   refine hK.out _ _ (KS _ ((uh R).trans hb9)) (fun hHeld=>?_)
   clear hK K
   refine Eq.mp (hF _ _ _ _) ?_
   exact dp_to (uh st7 w9 M0 c4 q4 (hide ((uh R).trans hb9)) (hide ho9)) (by kernel_rfl) rfl
  refine AllReadyH.cons (o:=⟨some 15,.alloc 26,_,_,_,none⟩) rfl (fun K hK=>?_) ?_
  ·go_simp
   refine hK.out _ _ (KS _ ((uh R).alloc (uh R).size (.cells #[.int .i64 0,.string ⟨#[]⟩,.slice none 0 0,.slice none 0 0,.int .i64 0,.int .i64 0] 26))) (fun hHeld=>?_)
   clear hK K
   refine Eq.mp (hF _ _ _ _) ?_
   exact dp_to (uh st8 (World.alloc W (.cells #[.int .i64 0,.string ⟨#[]⟩,.slice none 0 0,.slice none 0 0,.int .i64 0,.int .i64 0] 26)) M0 W.heap.size (hide ((uh R).alloc (uh R).size _)) (hide (fun b e=>Nat.ne_of_lt (own_ltD (uh O) rfl b e))) (hide (uh R).size) (hide (box_nw _ _)) (hide ((uh O).below (((Below.refl W.heap.size W).alloc (Nat.le_refl _) (.cells #[.int .i64 0,.string ⟨#[]⟩,.slice none 0 0,.slice none 0 0,.int .i64 0,.int .i64 0] 26)))))) (by kernel_rfl) rfl
  exact AllReadyH.nil
  )
 have st10:Hid (∀ (W:World) (M13:Nat),Hid (Below U.heap.size U W)→Hid (U.heap.size≤M13)→Hid (W.heap[M13]? = some (.cells #[.int .i64 0,.string ⟨#[]⟩,.slice none 0 0,.slice none 0 0,.int .i64 0,.int .i64 0] 26 (0,0)))→F 9 #[false,true,true,true,false,true,true,true,false,false,false,false,false,true,false,false] (Act.mk #[.slice (some ad) 0 c,aa,ab,ac,ae,af,ag,ah,ai,aj,ak,al,am,an,.int .i64 0,.pointer (some ⟨M13,0,none⟩),ap,aq,ar,au,av,aw,ax,ay,az,ba,bc,bd,bf,bg,bh,bi,bj,bk,bl,bm,bo,bp,bq,br,bs,bt,bu,bv,bw,bx,bz,ca,cb,cc,cd,ce,cf,cg,ch,cj,ck,cl,cm,cn,co,cp,cq,cr,cs,ct,cu,cv,cx,cy,cz,da,db,dc,dd,de,df,dg,dh,di,dj,dk,dl,dm,dn,dp,dq,dr,ds,dt,.slice (some ad) 0 c,.int .i64 0,.slice (some ad) 0 c,dx,.slice (some ad) 0 c,.int .i64 0,.slice (some ad) 0 c,eb,ec,ed,ee,ef,eg,eh,ei,ej,ek,el,em,en,eo,ep,er,et,eu,ev,ew,ey,ez,fa,fb,fc,fd,fe,ff,fg,fh,fi] d) W):=hide (by
  intro W M13 R G13 H13
  refine Eq.mpr (hF _ _ _ _) ?_
  have hHeld:=KS W (uh R)
  refine wpAnyH_ready (rs:=[0]) (by kernel_rfl) (by simp) ?_
  refine AllReadyH.cons (o:=⟨some 89,.buildSlice 22 0 #[],_,_,_,none⟩) rfl (fun K hK=>?_) ?_
  ·go_simp
   refine hK.out _ _ (KS _ ((uh R).alloc (uh R).size (.cells #[] 26))) (fun hHeld=>?_)
   clear hK K
   refine Eq.mp (hF _ _ _ _) ?_
   exact dp_to (uh st8 (World.alloc W (.cells #[] 26)) W.heap.size M13 (hide ((uh R).alloc (uh R).size _)) (hide (fun b e=>by cases e;exact Nat.ne_of_gt (heap_lt (uh H13)))) G13 (hide (((((Below.refl W.heap.size W).alloc (Nat.le_refl _) (.cells #[] 26))).block _ (heap_lt (uh H13))).trans (uh H13))) (hide (own_made0 (uh R).size))) (by kernel_rfl) rfl
  exact AllReadyH.nil
  )
 have st11:Hid (∀ (W:World),Hid (Below U.heap.size U W)→F 16 #[false,false,false,false,false,false,false,false,false,false,false,false,false,false,false,false] (Act.mk #[.slice (some ad) 0 c,aa,ab,ac,ae,af,ag,ah,ai,aj,ak,al,am,an,.int .i64 0,ao,ap,aq,ar,au,av,aw,ax,ay,az,ba,bc,bd,bf,bg,bh,bi,bj,bk,bl,bm,bo,bp,bq,br,bs,bt,bu,bv,bw,bx,bz,ca,cb,cc,cd,ce,cf,cg,ch,cj,ck,cl,cm,cn,co,cp,cq,cr,cs,ct,cu,cv,cx,cy,cz,da,db,dc,dd,de,df,dg,dh,di,dj,dk,dl,dm,dn,dp,dq,dr,ds,dt,du,dv,dw,dx,dy,dz,ea,eb,ec,ed,ee,ef,eg,eh,ei,ej,ek,el,em,en,eo,ep,er,et,eu,ev,ew,ey,ez,fa,fb,fc,fd,fe,ff,fg,fh,fi] d) W):=hide (by
  intro W R
  refine Eq.mpr (hF _ _ _ _) ?_
  have hHeld:=KS W (uh R)
  refine wpAnyH_take (i:=1) (oi:=⟨some 90,.move (.tmp 0),_,_,_,none⟩) (v:=?_) rfl (by kernel_rfl) (by kernel_rfl) (by kernel_rfl) (fun c a w=>(uh HP) c a _ _ w) (Or.inl ⟨by rfl, ?_⟩) (by assumption) ?_
  rotate_left
  ·intro wq hSw
   go_simp
   with_reducible rfl
  simp only [Act.put,List.setIfInBounds_toArray,List.set_cons_zero,List.set_cons_succ]
  refine wpAnyH_take (i:=2) (oi:=⟨some 91,.move (.tmp 14),_,_,_,none⟩) (v:=?_) rfl (by kernel_rfl) (by kernel_rfl) (by kernel_rfl) (fun c a w=>(uh HP) c a _ _ w) (Or.inl ⟨by rfl, ?_⟩) (by assumption) ?_
  rotate_left
  ·intro wq hSw
   go_simp
   with_reducible rfl
  simp only [Act.put,List.setIfInBounds_toArray,List.set_cons_zero,List.set_cons_succ]
  refine wpAnyH_take (i:=3) (oi:=⟨some 92,.slice 22 (.tmp 90) (some (.tmp 91)) none none,_,_,_,none⟩) (v:=?_) rfl (by kernel_rfl) (by kernel_rfl) (by kernel_rfl) (fun c a w=>(uh HP) c a _ _ w) (Or.inl ⟨by rfl, ?_⟩) (by assumption) ?_
  rotate_left
  ·intro wq hSw
   go_simp
   with_reducible rfl
  simp only [Act.put,List.setIfInBounds_toArray,List.set_cons_zero,List.set_cons_succ]
  refine wpAnyH_take (i:=5) (oi:=⟨some 94,.move (.tmp 0),_,_,_,none⟩) (v:=?_) rfl (by kernel_rfl) (by kernel_rfl) (by kernel_rfl) (fun c a w=>(uh HP) c a _ _ w) (Or.inl ⟨by rfl, ?_⟩) (by assumption) ?_
  rotate_left
  ·intro wq hSw
   go_simp
   with_reducible rfl
  simp only [Act.put,List.setIfInBounds_toArray,List.set_cons_zero,List.set_cons_succ]
  refine wpAnyH_take (i:=6) (oi:=⟨some 95,.move (.tmp 14),_,_,_,none⟩) (v:=?_) rfl (by kernel_rfl) (by kernel_rfl) (by kernel_rfl) (fun c a w=>(uh HP) c a _ _ w) (Or.inl ⟨by rfl, ?_⟩) (by assumption) ?_
  rotate_left
  ·intro wq hSw
   go_simp
   with_reducible rfl
  simp only [Act.put,List.setIfInBounds_toArray,List.set_cons_zero,List.set_cons_succ]
  refine wpAnyH_take (i:=7) (oi:=⟨some 96,.slice 22 (.tmp 94) none (some (.tmp 95)) none,_,_,_,none⟩) (v:=?_) rfl (by kernel_rfl) (by kernel_rfl) (by kernel_rfl) (fun c a w=>(uh HP) c a _ _ w) (Or.inl ⟨by rfl, ?_⟩) (by assumption) ?_
  rotate_left
  ·intro wq hSw
   go_simp
   with_reducible rfl
  simp only [Act.put,List.setIfInBounds_toArray,List.set_cons_zero,List.set_cons_succ]
  refine wpAnyH_ready (rs:=[0,13]) (by kernel_rfl) (by simp) ?_
  refine AllReadyH.cons (o:=⟨some 89,.buildSlice 22 0 #[],_,_,_,none⟩) rfl (fun K hK=>?_) ?_
  ·go_simp
   refine hK.out _ _ (KS _ ((uh R).alloc (uh R).size (.cells #[] 26))) (fun hHeld=>?_)
   clear hK K
   refine Eq.mp (hF _ _ _ _) ?_
   exact dp_to (uh st9 (World.alloc W (.cells #[] 26)) W.heap.size (hide ((uh R).alloc (uh R).size _)) (hide (own_made0 (uh R).size))) (by kernel_rfl) rfl
  refine AllReadyH.cons (o:=⟨some 15,.alloc 26,_,_,_,none⟩) rfl (fun K hK=>?_) ?_
  ·go_simp
   refine hK.out _ _ (KS _ ((uh R).alloc (uh R).size (.cells #[.int .i64 0,.string ⟨#[]⟩,.slice none 0 0,.slice none 0 0,.int .i64 0,.int .i64 0] 26))) (fun hHeld=>?_)
   clear hK K
   refine Eq.mp (hF _ _ _ _) ?_
   exact dp_to (uh st10 (World.alloc W (.cells #[.int .i64 0,.string ⟨#[]⟩,.slice none 0 0,.slice none 0 0,.int .i64 0,.int .i64 0] 26)) W.heap.size (hide ((uh R).alloc (uh R).size _)) (hide (uh R).size) (hide (box_nw _ _))) (by kernel_rfl) rfl
  exact AllReadyH.nil
  )
 exact dp_to (uh st11 _ (hide (Below.refl _ _).drew)) (by kernel_rfl) rfl
set_option maxRecDepth 100000 in
set_option maxHeartbeats 40000000 in
theorem reg16y (U:World) 
  (aa ab ac ae af ag ah ai aj ak al am an ao ap aq ar au av aw ax ay az ba bc bd bf bg bh bi bj bk bl bm bo bp bq br bs bt bu bv bw bx bz ca cb cc cd ce cf cg ch cj ck cl cm cn co cp cq cr cs ct cu cv cx cy cz da db dc dd de df dg dh di dj dk dl dm dn dp dq dr ds dt du dv dw dx dy dz ea eb ec ed ee ef eg eh ei ej ek el em en eo ep er et eu ev ew ey ez fa fb fc fd fe ff fg fh fi:Value) (d:List Deferred) (Q:Exit→Act→World→Prop) (hP:∀ c (a:Act) o v w,Q (.panic c) (a.put o v) w→Q (.panic c) a w)
  (hQ:∀ (W:World) (r:Pv) (M:Nat) (fj fk fl fm fn fo fp fq fr fs ft fu fv:Value),Below U.heap.size U W→W.heap[M]? = some (.cells #[.int .i64 r.kind,.string r.attr,.slice r.qi r.ni r.ci,.slice r.qw r.nw r.cw,.int .i64 r.lo,.int .i64 r.hi] 26 (0,0))→PdIn W r ((meetD []).getD zeroD)→Q .normal (Act.mk #[.slice none 0 0,aa,ab,ac,ae,af,ag,ah,ai,aj,ak,al,am,an,.int .i64 0,.pointer (some ⟨M,0,none⟩),.bool (meetD []).isSome,aq,ar,au,av,aw,ax,ay,az,ba,bc,bd,bf,bg,bh,bi,bj,bk,bl,bm,bo,bp,bq,br,bs,bt,bu,bv,bw,bx,bz,ca,cb,cc,cd,ce,cf,cg,ch,cj,ck,cl,cm,cn,co,cp,cq,cr,cs,ct,cu,cv,cx,cy,cz,da,db,dc,dd,de,df,dg,dh,di,dj,dk,dl,dm,dn,dp,dq,dr,fj,fk,fl,fm,fn,fo,fp,fq,fr,fs,ft,fu,fv,ef,eg,eh,ei,ej,ek,el,em,en,eo,ep,er,et,eu,ev,ew,ey,ez,fa,fb,fc,fd,fe,ff,fg,fh,fi] d) W) :
  (Code.region 16 #[{ dst:=some 89,op:=Op.buildSlice 22 0 #[],type:=22,pos:="law.go:158",after:=#[],guard:=none },{ dst:=some 90,op:=Op.move (Operand.tmp 0),type:=22,pos:="law.go:158",after:=#[],guard:=none },{ dst:=some 91,op:=Op.move (Operand.tmp 14),type:=3,pos:="law.go:158",after:=#[],guard:=none },{ dst:=some 92,op:=Op.slice 22 (Operand.tmp 90) (some (Operand.tmp 91)) none none,type:=22,pos:="law.go:158",after:=#[{ on:=1,ground:=Ground.data },{ on:=2,ground:=Ground.data }],guard:=none },{ dst:=some 93,op:=Op.call { callee:=Callee.builtin Builtin.append,args:=#[Operand.tmp 89,Operand.tmp 92],argTypes:=#[22,22] },type:=22,pos:="law.go:158",after:=#[{ on:=0,ground:=Ground.data },{ on:=3,ground:=Ground.data }],guard:=none },{ dst:=some 94,op:=Op.move (Operand.tmp 0),type:=22,pos:="law.go:158",after:=#[],guard:=none },{ dst:=some 95,op:=Op.move (Operand.tmp 14),type:=3,pos:="law.go:158",after:=#[],guard:=none },{ dst:=some 96,op:=Op.slice 22 (Operand.tmp 94) none (some (Operand.tmp 95)) none,type:=22,pos:="law.go:158",after:=#[{ on:=5,ground:=Ground.data },{ on:=6,ground:=Ground.data }],guard:=none },{ dst:=some 97,op:=Op.call { callee:=Callee.builtin Builtin.append,args:=#[Operand.tmp 93,Operand.tmp 96],argTypes:=#[22,22] },type:=22,pos:="law.go:158",after:=#[{ on:=4,ground:=Ground.data },{ on:=7,ground:=Ground.data },{ on:=4,ground:=Ground.chain }],guard:=none },{ dst:=some 98,op:=Op.call { callee:=Callee.value (Operand.func 14),args:=#[Operand.tmp 97],argTypes:=#[22] },type:=30,pos:="law.go:158",after:=#[{ on:=8,ground:=Ground.data },{ on:=8,ground:=Ground.chain }],guard:=none },{ dst:=some 88,op:=Op.move (Operand.tmp 98),type:=30,pos:="law.go:158",after:=#[{ on:=9,ground:=Ground.data }],guard:=none },{ dst:=some 99,op:=Op.extract (Operand.tmp 88) 0,type:=26,pos:="law.go:158",after:=#[{ on:=10,ground:=Ground.data }],guard:=none },{ dst:=some 100,op:=Op.extract (Operand.tmp 88) 1,type:=4,pos:="law.go:158",after:=#[{ on:=10,ground:=Ground.data },{ on:=14,ground:=Ground.gcOnly Departure.lateStores }],guard:=none },{ dst:=some 15,op:=Op.alloc 26,type:=0,pos:="law.go:158",after:=#[],guard:=none },{ dst:=none,op:=Op.store 26 (Operand.tmp 15) (Operand.tmp 99),type:=0,pos:="law.go:158",after:=#[{ on:=13,ground:=Ground.data },{ on:=11,ground:=Ground.data },{ on:=9,ground:=Ground.chain },{ on:=0,ground:=Ground.phase },{ on:=1,ground:=Ground.phase },{ on:=2,ground:=Ground.phase },{ on:=3,ground:=Ground.phase },{ on:=4,ground:=Ground.phase },{ on:=5,ground:=Ground.phase },{ on:=6,ground:=Ground.phase },{ on:=7,ground:=Ground.phase },{ on:=8,ground:=Ground.phase },{ on:=9,ground:=Ground.phase },{ on:=10,ground:=Ground.phase },{ on:=11,ground:=Ground.phase },{ on:=12,ground:=Ground.textOnly Departure.lateStores },{ on:=13,ground:=Ground.phase }],guard:=none },{ dst:=some 16,op:=Op.assign (Operand.tmp 100),type:=4,pos:="law.go:158",after:=#[{ on:=12,ground:=Ground.data },{ on:=14,ground:=Ground.chain },{ on:=0,ground:=Ground.phase },{ on:=1,ground:=Ground.phase },{ on:=2,ground:=Ground.phase },{ on:=3,ground:=Ground.phase },{ on:=4,ground:=Ground.phase },{ on:=5,ground:=Ground.phase },{ on:=6,ground:=Ground.phase },{ on:=7,ground:=Ground.phase },{ on:=8,ground:=Ground.phase },{ on:=9,ground:=Ground.phase },{ on:=10,ground:=Ground.phase },{ on:=11,ground:=Ground.phase },{ on:=12,ground:=Ground.phase },{ on:=13,ground:=Ground.phase },{ on:=14,ground:=Ground.phase }],guard:=none }] true).wp Tryz.prog Q (Act.mk #[.slice none 0 0,aa,ab,ac,ae,af,ag,ah,ai,aj,ak,al,am,an,.int .i64 0,ao,ap,aq,ar,au,av,aw,ax,ay,az,ba,bc,bd,bf,bg,bh,bi,bj,bk,bl,bm,bo,bp,bq,br,bs,bt,bu,bv,bw,bx,bz,ca,cb,cc,cd,ce,cf,cg,ch,cj,ck,cl,cm,cn,co,cp,cq,cr,cs,ct,cu,cv,cx,cy,cz,da,db,dc,dd,de,df,dg,dh,di,dj,dk,dl,dm,dn,dp,dq,dr,ds,dt,du,dv,dw,dx,dy,dz,ea,eb,ec,ed,ee,ef,eg,eh,ei,ej,ek,el,em,en,eo,ep,er,et,eu,ev,ew,ey,ez,fa,fb,fc,fd,fe,ff,fg,fh,fi] d) U:=by
 have KS:∀ W,Below U.heap.size U W→(fun _=>True) W:=fun _ _=>trivial
 have HQ:=hide hQ
 have HP:=hide hP
 clear hP hQ
 refine wp_region_held_drew (S:=fun _=>True) (by kernel_rfl) (KS _ (Below.refl _ _).drew) (fun hHeld=>?_)
 clear hHeld
 refine dp_start ?_
 intro F hF
 have st0:Hid (∀ (W:World) (M0:Nat) (M13:Nat) (c4:Nat) (c8:Nat) (q4:Option Addr) (q8:Option Addr) (r:Pv),Hid (Below U.heap.size U W)→Hid (W.heap[M13]? = some (.cells #[.int .i64 r.kind,.string r.attr,.slice r.qi r.ni r.ci,.slice r.qw r.nw r.cw,.int .i64 r.lo,.int .i64 r.hi] 26 (0,0)))→Hid (PdIn W r ((meetD []).getD zeroD))→F 1 #[true,true,true,true,true,true,true,true,true,true,true,true,true,true,true,false] (Act.mk #[.slice none 0 0,aa,ab,ac,ae,af,ag,ah,ai,aj,ak,al,am,an,.int .i64 0,.pointer (some ⟨M13,0,none⟩),ap,aq,ar,au,av,aw,ax,ay,az,ba,bc,bd,bf,bg,bh,bi,bj,bk,bl,bm,bo,bp,bq,br,bs,bt,bu,bv,bw,bx,bz,ca,cb,cc,cd,ce,cf,cg,ch,cj,ck,cl,cm,cn,co,cp,cq,cr,cs,ct,cu,cv,cx,cy,cz,da,db,dc,dd,de,df,dg,dh,di,dj,dk,dl,dm,dn,dp,dq,dr,.tuple #[.agg #[.int .i64 r.kind,.string r.attr,.slice r.qi r.ni r.ci,.slice r.qw r.nw r.cw,.int .i64 r.lo,.int .i64 r.hi],.bool (meetD []).isSome],.slice (some ⟨M0,0,none⟩) 0 0,.slice none 0 0,.int .i64 0,.slice none 0 0,.slice q4 0 c4,.slice none 0 0,.int .i64 0,.slice none 0 0,.slice q8 0 c8,.tuple #[.agg #[.int .i64 r.kind,.string r.attr,.slice r.qi r.ni r.ci,.slice r.qw r.nw r.cw,.int .i64 r.lo,.int .i64 r.hi],.bool (meetD []).isSome],.agg #[.int .i64 r.kind,.string r.attr,.slice r.qi r.ni r.ci,.slice r.qw r.nw r.cw,.int .i64 r.lo,.int .i64 r.hi],.bool (meetD []).isSome,ef,eg,eh,ei,ej,ek,el,em,en,eo,ep,er,et,eu,ev,ew,ey,ez,fa,fb,fc,fd,fe,ff,fg,fh,fi] d) W):=hide (by
  intro W M0 M13 c4 c8 q4 q8 r R H15 X15
  refine Eq.mpr (hF _ _ _ _) ?_
  have hHeld:=KS W (uh R)
  refine wpAnyH_take (i:=15) (oi:=⟨some 16,.assign (.tmp 100),_,_,_,none⟩) (v:=?_) rfl (by kernel_rfl) (by kernel_rfl) (by kernel_rfl) (fun c a w=>(uh HP) c a _ _ w) (Or.inl ⟨by rfl, ?_⟩) (by assumption) ?_
  rotate_left
  ·intro wq hSw
   go_simp
   with_reducible rfl
  simp only [Act.put,List.setIfInBounds_toArray,List.set_cons_zero,List.set_cons_succ]
  refine wpAnyH_done (by kernel_rfl) ?_ _
  exact (uh HQ) W r M13 _ _ _ _ _ _ _ _ _ _ _ _ _ (uh R) (uh H15) (uh X15)
  )
 have st1:Hid (∀ (W:World) (M0:Nat) (M13:Nat) (c4:Nat) (c8:Nat) (q4:Option Addr) (q8:Option Addr) (r:Pv),Hid (Below U.heap.size U W)→Hid (U.heap.size≤M13)→Hid (W.heap[M13]? = some (.cells #[.int .i64 0,.string ⟨#[]⟩,.slice none 0 0,.slice none 0 0,.int .i64 0,.int .i64 0] 26 (0,0)))→Hid (PdOff M13 W r ((meetD []).getD zeroD))→F 2 #[true,true,true,true,true,true,true,true,true,true,true,true,true,true,false,false] (Act.mk #[.slice none 0 0,aa,ab,ac,ae,af,ag,ah,ai,aj,ak,al,am,an,.int .i64 0,.pointer (some ⟨M13,0,none⟩),ap,aq,ar,au,av,aw,ax,ay,az,ba,bc,bd,bf,bg,bh,bi,bj,bk,bl,bm,bo,bp,bq,br,bs,bt,bu,bv,bw,bx,bz,ca,cb,cc,cd,ce,cf,cg,ch,cj,ck,cl,cm,cn,co,cp,cq,cr,cs,ct,cu,cv,cx,cy,cz,da,db,dc,dd,de,df,dg,dh,di,dj,dk,dl,dm,dn,dp,dq,dr,.tuple #[.agg #[.int .i64 r.kind,.string r.attr,.slice r.qi r.ni r.ci,.slice r.qw r.nw r.cw,.int .i64 r.lo,.int .i64 r.hi],.bool (meetD []).isSome],.slice (some ⟨M0,0,none⟩) 0 0,.slice none 0 0,.int .i64 0,.slice none 0 0,.slice q4 0 c4,.slice none 0 0,.int .i64 0,.slice none 0 0,.slice q8 0 c8,.tuple #[.agg #[.int .i64 r.kind,.string r.attr,.slice r.qi r.ni r.ci,.slice r.qw r.nw r.cw,.int .i64 r.lo,.int .i64 r.hi],.bool (meetD []).isSome],.agg #[.int .i64 r.kind,.string r.attr,.slice r.qi r.ni r.ci,.slice r.qw r.nw r.cw,.int .i64 r.lo,.int .i64 r.hi],.bool (meetD []).isSome,ef,eg,eh,ei,ej,ek,el,em,en,eo,ep,er,et,eu,ev,ew,ey,ez,fa,fb,fc,fd,fe,ff,fg,fh,fi] d) W):=hide (by
  intro W M0 M13 c4 c8 q4 q8 r R G13 H13 X
  refine Eq.mpr (hF _ _ _ _) ?_
  have hHeld:=KS W (uh R)
  refine wpAnyH_ready (rs:=[14]) (by kernel_rfl) (by simp) ?_
  refine AllReadyH.cons (o:=⟨none,.store 26 (.tmp 15) (.tmp 99),_,_,_,none⟩) rfl (fun K hK=>?_) ?_
  ·obtain ⟨y0,y1,y2,y3,y4,y5⟩:=of6C (uh H13)
   have yf:=fun o=>frozen_free (o:=o) (uh H13)
   go_simp
   refine hK.out _ _ (KS _ (((((((uh R).setCell (p:=⟨M13,0,none⟩) (uh G13) (.int .i64 r.kind)).setCell (p:=⟨M13,1,none⟩) (uh G13) (.string r.attr)).setCell (p:=⟨M13,2,none⟩) (uh G13) (.slice r.qi r.ni r.ci)).setCell (p:=⟨M13,3,none⟩) (uh G13) (.slice r.qw r.nw r.cw)).setCell (p:=⟨M13,4,none⟩) (uh G13) (.int .i64 r.lo)).setCell (p:=⟨M13,5,none⟩) (uh G13) (.int .i64 r.hi))) (fun hHeld=>?_)
   clear hK K
   refine Eq.mp (hF _ _ _ _) ?_
   exact dp_to (uh st0 (World.setCell (World.setCell (World.setCell (World.setCell (World.setCell (World.setCell W ⟨M13,0,none⟩ (.int .i64 r.kind)) ⟨M13,1,none⟩ (.string r.attr)) ⟨M13,2,none⟩ (.slice r.qi r.ni r.ci)) ⟨M13,3,none⟩ (.slice r.qw r.nw r.cw)) ⟨M13,4,none⟩ (.int .i64 r.lo)) ⟨M13,5,none⟩ (.int .i64 r.hi)) M0 M13 c4 c8 q4 q8 r (hide (((((((uh R).setCell (p:=⟨M13,0,none⟩) (uh G13) (.int .i64 r.kind)).setCell (p:=⟨M13,1,none⟩) (uh G13) (.string r.attr)).setCell (p:=⟨M13,2,none⟩) (uh G13) (.slice r.qi r.ni r.ci)).setCell (p:=⟨M13,3,none⟩) (uh G13) (.slice r.qw r.nw r.cw)).setCell (p:=⟨M13,4,none⟩) (uh G13) (.int .i64 r.lo)).setCell (p:=⟨M13,5,none⟩) (uh G13) (.int .i64 r.hi))) (hide (box_set6 (uh H13) _ _ _ _ _ _)) (hide (set6_off (uh X)))) (by kernel_rfl) rfl
  exact AllReadyH.nil
  )
 have st2:Hid (∀ (W:World) (M0:Nat) (c4:Nat) (c8:Nat) (q4:Option Addr) (q8:Option Addr) (r:Pv),Hid (Below U.heap.size U W)→Hid (PdOwn9 W r ((meetD []).getD zeroD))→F 6 #[true,true,true,true,true,true,true,true,true,true,false,false,false,false,false,false] (Act.mk #[.slice none 0 0,aa,ab,ac,ae,af,ag,ah,ai,aj,ak,al,am,an,.int .i64 0,ao,ap,aq,ar,au,av,aw,ax,ay,az,ba,bc,bd,bf,bg,bh,bi,bj,bk,bl,bm,bo,bp,bq,br,bs,bt,bu,bv,bw,bx,bz,ca,cb,cc,cd,ce,cf,cg,ch,cj,ck,cl,cm,cn,co,cp,cq,cr,cs,ct,cu,cv,cx,cy,cz,da,db,dc,dd,de,df,dg,dh,di,dj,dk,dl,dm,dn,dp,dq,dr,ds,.slice (some ⟨M0,0,none⟩) 0 0,.slice none 0 0,.int .i64 0,.slice none 0 0,.slice q4 0 c4,.slice none 0 0,.int .i64 0,.slice none 0 0,.slice q8 0 c8,.tuple #[.agg #[.int .i64 r.kind,.string r.attr,.slice r.qi r.ni r.ci,.slice r.qw r.nw r.cw,.int .i64 r.lo,.int .i64 r.hi],.bool (meetD []).isSome],ed,ee,ef,eg,eh,ei,ej,ek,el,em,en,eo,ep,er,et,eu,ev,ew,ey,ez,fa,fb,fc,fd,fe,ff,fg,fh,fi] d) W):=hide (by
  intro W M0 c4 c8 q4 q8 r R X
  refine Eq.mpr (hF _ _ _ _) ?_
  have hHeld:=KS W (uh R)
  refine wpAnyH_take (i:=10) (oi:=⟨some 88,.move (.tmp 98),_,_,_,none⟩) (v:=?_) rfl (by kernel_rfl) (by kernel_rfl) (by kernel_rfl) (fun c a w=>(uh HP) c a _ _ w) (Or.inl ⟨by rfl, ?_⟩) (by assumption) ?_
  rotate_left
  ·intro wq hSw
   go_simp
   with_reducible rfl
  simp only [Act.put,List.setIfInBounds_toArray,List.set_cons_zero,List.set_cons_succ]
  refine wpAnyH_take (i:=11) (oi:=⟨some 99,.extract (.tmp 88) 0,_,_,_,none⟩) (v:=?_) rfl (by kernel_rfl) (by kernel_rfl) (by kernel_rfl) (fun c a w=>(uh HP) c a _ _ w) (Or.inl ⟨by rfl, ?_⟩) (by assumption) ?_
  rotate_left
  ·intro wq hSw
   go_simp
   with_reducible rfl
  simp only [Act.put,List.setIfInBounds_toArray,List.set_cons_zero,List.set_cons_succ]
  refine wpAnyH_take (i:=12) (oi:=⟨some 100,.extract (.tmp 88) 1,_,_,_,none⟩) (v:=?_) rfl (by kernel_rfl) (by kernel_rfl) (by kernel_rfl) (fun c a w=>(uh HP) c a _ _ w) (Or.inl ⟨by rfl, ?_⟩) (by assumption) ?_
  rotate_left
  ·intro wq hSw
   go_simp
   with_reducible rfl
  simp only [Act.put,List.setIfInBounds_toArray,List.set_cons_zero,List.set_cons_succ]
  refine wpAnyH_ready (rs:=[13]) (by kernel_rfl) (by simp) ?_
  refine AllReadyH.cons (o:=⟨some 15,.alloc 26,_,_,_,none⟩) rfl (fun K hK=>?_) ?_
  ·obtain ⟨C,hC⟩:=uh X
   go_simp
   refine hK.out _ _ (KS _ ((uh R).alloc (uh R).size (.cells #[.int .i64 0,.string ⟨#[]⟩,.slice none 0 0,.slice none 0 0,.int .i64 0,.int .i64 0] 26))) (fun hHeld=>?_)
   clear hK K
   refine Eq.mp (hF _ _ _ _) ?_
   exact dp_to (uh st1 (World.alloc W (.cells #[.int .i64 0,.string ⟨#[]⟩,.slice none 0 0,.slice none 0 0,.int .i64 0,.int .i64 0] 26)) M0 W.heap.size c4 c8 q4 q8 r (hide ((uh R).alloc (uh R).size _)) (hide (uh R).size) (hide (box_nw _ _)) (hide (hC.1.off2 _))) (by kernel_rfl) rfl
  exact AllReadyH.nil
  )
 have st3:Hid (∀ (W:World) (M0:Nat) (M13:Nat) (c4:Nat) (c8:Nat) (q4:Option Addr) (q8:Option Addr) (r:Pv),Hid (Below U.heap.size U W)→Hid (U.heap.size≤M13)→Hid (W.heap[M13]? = some (.cells #[.int .i64 0,.string ⟨#[]⟩,.slice none 0 0,.slice none 0 0,.int .i64 0,.int .i64 0] 26 (0,0)))→Hid (PdOff M13 W r ((meetD []).getD zeroD))→F 5 #[true,true,true,true,true,true,true,true,true,true,false,false,false,true,false,false] (Act.mk #[.slice none 0 0,aa,ab,ac,ae,af,ag,ah,ai,aj,ak,al,am,an,.int .i64 0,.pointer (some ⟨M13,0,none⟩),ap,aq,ar,au,av,aw,ax,ay,az,ba,bc,bd,bf,bg,bh,bi,bj,bk,bl,bm,bo,bp,bq,br,bs,bt,bu,bv,bw,bx,bz,ca,cb,cc,cd,ce,cf,cg,ch,cj,ck,cl,cm,cn,co,cp,cq,cr,cs,ct,cu,cv,cx,cy,cz,da,db,dc,dd,de,df,dg,dh,di,dj,dk,dl,dm,dn,dp,dq,dr,ds,.slice (some ⟨M0,0,none⟩) 0 0,.slice none 0 0,.int .i64 0,.slice none 0 0,.slice q4 0 c4,.slice none 0 0,.int .i64 0,.slice none 0 0,.slice q8 0 c8,.tuple #[.agg #[.int .i64 r.kind,.string r.attr,.slice r.qi r.ni r.ci,.slice r.qw r.nw r.cw,.int .i64 r.lo,.int .i64 r.hi],.bool (meetD []).isSome],ed,ee,ef,eg,eh,ei,ej,ek,el,em,en,eo,ep,er,et,eu,ev,ew,ey,ez,fa,fb,fc,fd,fe,ff,fg,fh,fi] d) W):=hide (by
  intro W M0 M13 c4 c8 q4 q8 r R G13 H13 X
  refine Eq.mpr (hF _ _ _ _) ?_
  have hHeld:=KS W (uh R)
  refine wpAnyH_take (i:=10) (oi:=⟨some 88,.move (.tmp 98),_,_,_,none⟩) (v:=?_) rfl (by kernel_rfl) (by kernel_rfl) (by kernel_rfl) (fun c a w=>(uh HP) c a _ _ w) (Or.inl ⟨by rfl, ?_⟩) (by assumption) ?_
  rotate_left
  ·intro wq hSw
   go_simp
   with_reducible rfl
  simp only [Act.put,List.setIfInBounds_toArray,List.set_cons_zero,List.set_cons_succ]
  refine wpAnyH_take (i:=11) (oi:=⟨some 99,.extract (.tmp 88) 0,_,_,_,none⟩) (v:=?_) rfl (by kernel_rfl) (by kernel_rfl) (by kernel_rfl) (fun c a w=>(uh HP) c a _ _ w) (Or.inl ⟨by rfl, ?_⟩) (by assumption) ?_
  rotate_left
  ·intro wq hSw
   go_simp
   with_reducible rfl
  simp only [Act.put,List.setIfInBounds_toArray,List.set_cons_zero,List.set_cons_succ]
  refine wpAnyH_take (i:=12) (oi:=⟨some 100,.extract (.tmp 88) 1,_,_,_,none⟩) (v:=?_) rfl (by kernel_rfl) (by kernel_rfl) (by kernel_rfl) (fun c a w=>(uh HP) c a _ _ w) (Or.inl ⟨by rfl, ?_⟩) (by assumption) ?_
  rotate_left
  ·intro wq hSw
   go_simp
   with_reducible rfl
  simp only [Act.put,List.setIfInBounds_toArray,List.set_cons_zero,List.set_cons_succ]
  refine wpAnyH_ready (rs:=[14]) (by kernel_rfl) (by simp) ?_
  refine AllReadyH.cons (o:=⟨none,.store 26 (.tmp 15) (.tmp 99),_,_,_,none⟩) rfl (fun K hK=>?_) ?_
  ·obtain ⟨y0,y1,y2,y3,y4,y5⟩:=of6C (uh H13)
   have yf:=fun o=>frozen_free (o:=o) (uh H13)
   go_simp
   refine hK.out _ _ (KS _ (((((((uh R).setCell (p:=⟨M13,0,none⟩) (uh G13) (.int .i64 r.kind)).setCell (p:=⟨M13,1,none⟩) (uh G13) (.string r.attr)).setCell (p:=⟨M13,2,none⟩) (uh G13) (.slice r.qi r.ni r.ci)).setCell (p:=⟨M13,3,none⟩) (uh G13) (.slice r.qw r.nw r.cw)).setCell (p:=⟨M13,4,none⟩) (uh G13) (.int .i64 r.lo)).setCell (p:=⟨M13,5,none⟩) (uh G13) (.int .i64 r.hi))) (fun hHeld=>?_)
   clear hK K
   refine Eq.mp (hF _ _ _ _) ?_
   exact dp_to (uh st0 (World.setCell (World.setCell (World.setCell (World.setCell (World.setCell (World.setCell W ⟨M13,0,none⟩ (.int .i64 r.kind)) ⟨M13,1,none⟩ (.string r.attr)) ⟨M13,2,none⟩ (.slice r.qi r.ni r.ci)) ⟨M13,3,none⟩ (.slice r.qw r.nw r.cw)) ⟨M13,4,none⟩ (.int .i64 r.lo)) ⟨M13,5,none⟩ (.int .i64 r.hi)) M0 M13 c4 c8 q4 q8 r (hide (((((((uh R).setCell (p:=⟨M13,0,none⟩) (uh G13) (.int .i64 r.kind)).setCell (p:=⟨M13,1,none⟩) (uh G13) (.string r.attr)).setCell (p:=⟨M13,2,none⟩) (uh G13) (.slice r.qi r.ni r.ci)).setCell (p:=⟨M13,3,none⟩) (uh G13) (.slice r.qw r.nw r.cw)).setCell (p:=⟨M13,4,none⟩) (uh G13) (.int .i64 r.lo)).setCell (p:=⟨M13,5,none⟩) (uh G13) (.int .i64 r.hi))) (hide (box_set6 (uh H13) _ _ _ _ _ _)) (hide (set6_off (uh X)))) (by kernel_rfl) rfl
  exact AllReadyH.nil
  )
 have st4:Hid (∀ (W:World) (M0:Nat) (M13:Nat) (c4:Nat) (c8:Nat) (q4:Option Addr) (q8:Option Addr),Hid (Below U.heap.size U W)→Hid (∀ b,(Value.slice q8 0 c8).ownBlock=some b→b ≠ M13)→Hid (U.heap.size≤M13)→Hid (W.heap[M13]? = some (.cells #[.int .i64 0,.string ⟨#[]⟩,.slice none 0 0,.slice none 0 0,.int .i64 0,.int .i64 0] 26 (0,0)))→Hid (OwnK encD 26 6 U.heap.size W q8 c8 (([] ++ []) ++ []))→F 6 #[true,true,true,true,true,true,true,true,true,false,false,false,false,true,false,false] (Act.mk #[.slice none 0 0,aa,ab,ac,ae,af,ag,ah,ai,aj,ak,al,am,an,.int .i64 0,.pointer (some ⟨M13,0,none⟩),ap,aq,ar,au,av,aw,ax,ay,az,ba,bc,bd,bf,bg,bh,bi,bj,bk,bl,bm,bo,bp,bq,br,bs,bt,bu,bv,bw,bx,bz,ca,cb,cc,cd,ce,cf,cg,ch,cj,ck,cl,cm,cn,co,cp,cq,cr,cs,ct,cu,cv,cx,cy,cz,da,db,dc,dd,de,df,dg,dh,di,dj,dk,dl,dm,dn,dp,dq,dr,ds,.slice (some ⟨M0,0,none⟩) 0 0,.slice none 0 0,.int .i64 0,.slice none 0 0,.slice q4 0 c4,.slice none 0 0,.int .i64 0,.slice none 0 0,.slice q8 0 c8,ec,ed,ee,ef,eg,eh,ei,ej,ek,el,em,en,eo,ep,er,et,eu,ev,ew,ey,ez,fa,fb,fc,fd,fe,ff,fg,fh,fi] d) W):=hide (by
  intro W M0 M13 c4 c8 q4 q8 R D G13 H13 O
  refine Eq.mpr (hF _ _ _ _) ?_
  have hHeld:=KS W (uh R)
  refine wpAnyH_ready (rs:=[9]) (by kernel_rfl) (by simp) ?_
  refine AllReadyH.cons (o:=⟨some 98,.call { callee:=.value (.func 14),args:=#[.tmp 97],argTypes:=#[22] },_,_,_,none⟩) rfl (fun K hK=>?_) ?_
  ·go_simp
   refine (cMt0 q8 c8 _ (uh O)).mono ?_
   rintro e W1 ⟨⟨r,rfl,bn⟩,bb⟩
   refine hK.out _ _ (KS _ (below_sub (uh R) bb)) (fun hHeld=>?_)
   clear hK K
   refine Eq.mp (hF _ _ _ _) ?_
   exact dp_to (uh st3 W1 M0 M13 c4 c8 q4 q8 r (hide (below_sub (uh R) bb)) G13 (hide (((bb).block _ (heap_lt (uh H13))).trans (uh H13))) (hide (bn.off (heap_lt (uh H13))))) (by kernel_rfl) rfl
  exact AllReadyH.nil
  )
 have st5:Hid (∀ (W:World) (M0:Nat) (c4:Nat) (c8:Nat) (q4:Option Addr) (q8:Option Addr),Hid (Below U.heap.size U W)→Hid (OwnK encD 26 6 U.heap.size W q8 c8 (([] ++ []) ++ []))→F 7 #[true,true,true,true,true,true,true,true,true,false,false,false,false,false,false,false] (Act.mk #[.slice none 0 0,aa,ab,ac,ae,af,ag,ah,ai,aj,ak,al,am,an,.int .i64 0,ao,ap,aq,ar,au,av,aw,ax,ay,az,ba,bc,bd,bf,bg,bh,bi,bj,bk,bl,bm,bo,bp,bq,br,bs,bt,bu,bv,bw,bx,bz,ca,cb,cc,cd,ce,cf,cg,ch,cj,ck,cl,cm,cn,co,cp,cq,cr,cs,ct,cu,cv,cx,cy,cz,da,db,dc,dd,de,df,dg,dh,di,dj,dk,dl,dm,dn,dp,dq,dr,ds,.slice (some ⟨M0,0,none⟩) 0 0,.slice none 0 0,.int .i64 0,.slice none 0 0,.slice q4 0 c4,.slice none 0 0,.int .i64 0,.slice none 0 0,.slice q8 0 c8,ec,ed,ee,ef,eg,eh,ei,ej,ek,el,em,en,eo,ep,er,et,eu,ev,ew,ey,ez,fa,fb,fc,fd,fe,ff,fg,fh,fi] d) W):=hide (by
  intro W M0 c4 c8 q4 q8 R O
  refine Eq.mpr (hF _ _ _ _) ?_
  have hHeld:=KS W (uh R)
  refine wpAnyH_ready (rs:=[9,13]) (by kernel_rfl) (by simp) ?_
  refine AllReadyH.cons (o:=⟨some 98,.call { callee:=.value (.func 14),args:=#[.tmp 97],argTypes:=#[22] },_,_,_,none⟩) rfl (fun K hK=>?_) ?_
  ·go_simp
   refine (cMt0 q8 c8 _ (uh O)).mono ?_
   rintro e W1 ⟨⟨r,rfl,bn⟩,bb⟩
   refine hK.out _ _ (KS _ (below_sub (uh R) bb)) (fun hHeld=>?_)
   clear hK K
   refine Eq.mp (hF _ _ _ _) ?_
   exact dp_to (uh st2 W1 M0 c4 c8 q4 q8 r (hide (below_sub (uh R) bb)) (hide ⟨_,bn⟩)) (by kernel_rfl) rfl
  refine AllReadyH.cons (o:=⟨some 15,.alloc 26,_,_,_,none⟩) rfl (fun K hK=>?_) ?_
  ·go_simp
   refine hK.out _ _ (KS _ ((uh R).alloc (uh R).size (.cells #[.int .i64 0,.string ⟨#[]⟩,.slice none 0 0,.slice none 0 0,.int .i64 0,.int .i64 0] 26))) (fun hHeld=>?_)
   clear hK K
   refine Eq.mp (hF _ _ _ _) ?_
   exact dp_to (uh st4 (World.alloc W (.cells #[.int .i64 0,.string ⟨#[]⟩,.slice none 0 0,.slice none 0 0,.int .i64 0,.int .i64 0] 26)) M0 W.heap.size c4 c8 q4 q8 (hide ((uh R).alloc (uh R).size _)) (hide (fun b e=>Nat.ne_of_lt (own_ltD (uh O) rfl b e))) (hide (uh R).size) (hide (box_nw _ _)) (hide ((uh O).below (((Below.refl W.heap.size W).alloc (Nat.le_refl _) (.cells #[.int .i64 0,.string ⟨#[]⟩,.slice none 0 0,.slice none 0 0,.int .i64 0,.int .i64 0] 26)))))) (by kernel_rfl) rfl
  exact AllReadyH.nil
  )
 have st6:Hid (∀ (W:World) (M0:Nat) (M13:Nat) (c4:Nat) (q4:Option Addr),Hid (Below U.heap.size U W)→Hid (∀ b,(Value.slice q4 0 c4).ownBlock=some b→b ≠ M13)→Hid (U.heap.size≤M13)→Hid (W.heap[M13]? = some (.cells #[.int .i64 0,.string ⟨#[]⟩,.slice none 0 0,.slice none 0 0,.int .i64 0,.int .i64 0] 26 (0,0)))→Hid (OwnK encD 26 6 U.heap.size W q4 c4 ([] ++ []))→F 7 #[true,true,true,true,true,true,true,true,false,false,false,false,false,true,false,false] (Act.mk #[.slice none 0 0,aa,ab,ac,ae,af,ag,ah,ai,aj,ak,al,am,an,.int .i64 0,.pointer (some ⟨M13,0,none⟩),ap,aq,ar,au,av,aw,ax,ay,az,ba,bc,bd,bf,bg,bh,bi,bj,bk,bl,bm,bo,bp,bq,br,bs,bt,bu,bv,bw,bx,bz,ca,cb,cc,cd,ce,cf,cg,ch,cj,ck,cl,cm,cn,co,cp,cq,cr,cs,ct,cu,cv,cx,cy,cz,da,db,dc,dd,de,df,dg,dh,di,dj,dk,dl,dm,dn,dp,dq,dr,ds,.slice (some ⟨M0,0,none⟩) 0 0,.slice none 0 0,.int .i64 0,.slice none 0 0,.slice q4 0 c4,.slice none 0 0,.int .i64 0,.slice none 0 0,eb,ec,ed,ee,ef,eg,eh,ei,ej,ek,el,em,en,eo,ep,er,et,eu,ev,ew,ey,ez,fa,fb,fc,fd,fe,ff,fg,fh,fi] d) W):=hide (by
  intro W M0 M13 c4 q4 R D G13 H13 O
  refine Eq.mpr (hF _ _ _ _) ?_
  have hHeld:=KS W (uh R)
  refine wpAnyH_ready (rs:=[8]) (by kernel_rfl) (by simp) ?_
  refine AllReadyH.cons (o:=⟨some 97,.call { callee:=.builtin .append,args:=#[.tmp 93,.tmp 96],argTypes:=#[22,22] },_,_,_,none⟩) rfl (fun K hK=>?_) ?_
  ·refine step_appO rowD (by rfl) (.tmp 93) (.tmp 96) (by rfl) U.heap.size q4 c4 ([] ++ []) none 0 [] 0 0 0 rfl rfl rfl (by rfl) (by rfl) (uh O) (srcNil _ (by simp)) (by unfold maxLen;omega) (by omega) (uh R).size ?_
   intro q8 c8 w9 ho9 hb9 hg9 hor9
   refine hK.out _ _ (KS _ ((uh R).trans hb9)) (fun hHeld=>?_)
   clear hK K
   refine Eq.mp (hF _ _ _ _) ?_
   exact dp_to (uh st4 w9 M0 M13 c4 c8 q4 q8 (hide ((uh R).trans hb9)) (hide (fun b e=>by rcases hor9 with h9 | h9;exact (uh D) b (h9.symm.trans e);exact (by rw [h9] at e;cases e;exact Nat.ne_of_gt (heap_lt (uh H13))))) G13 (hide ((hg9.block _ (heap_lt (uh H13)) (fun e=>(uh D) _ e.symm rfl)).trans (uh H13))) (hide ho9)) (by kernel_rfl) rfl
  exact AllReadyH.nil
  )
 have st7:Hid (∀ (W:World) (M0:Nat) (c4:Nat) (q4:Option Addr),Hid (Below U.heap.size U W)→Hid (OwnK encD 26 6 U.heap.size W q4 c4 ([] ++ []))→F 8 #[true,true,true,true,true,true,true,true,false,false,false,false,false,false,false,false] (Act.mk #[.slice none 0 0,aa,ab,ac,ae,af,ag,ah,ai,aj,ak,al,am,an,.int .i64 0,ao,ap,aq,ar,au,av,aw,ax,ay,az,ba,bc,bd,bf,bg,bh,bi,bj,bk,bl,bm,bo,bp,bq,br,bs,bt,bu,bv,bw,bx,bz,ca,cb,cc,cd,ce,cf,cg,ch,cj,ck,cl,cm,cn,co,cp,cq,cr,cs,ct,cu,cv,cx,cy,cz,da,db,dc,dd,de,df,dg,dh,di,dj,dk,dl,dm,dn,dp,dq,dr,ds,.slice (some ⟨M0,0,none⟩) 0 0,.slice none 0 0,.int .i64 0,.slice none 0 0,.slice q4 0 c4,.slice none 0 0,.int .i64 0,.slice none 0 0,eb,ec,ed,ee,ef,eg,eh,ei,ej,ek,el,em,en,eo,ep,er,et,eu,ev,ew,ey,ez,fa,fb,fc,fd,fe,ff,fg,fh,fi] d) W):=hide (by
  intro W M0 c4 q4 R O
  refine Eq.mpr (hF _ _ _ _) ?_
  have hHeld:=KS W (uh R)
  refine wpAnyH_ready (rs:=[8,13]) (by kernel_rfl) (by simp) ?_
  refine AllReadyH.cons (o:=⟨some 97,.call { callee:=.builtin .append,args:=#[.tmp 93,.tmp 96],argTypes:=#[22,22] },_,_,_,none⟩) rfl (fun K hK=>?_) ?_
  ·refine step_appO rowD (by rfl) (.tmp 93) (.tmp 96) (by rfl) U.heap.size q4 c4 ([] ++ []) none 0 [] 0 0 0 rfl rfl rfl (by rfl) (by rfl) (uh O) (srcNil _ (by simp)) (by unfold maxLen;omega) (by omega) (uh R).size ?_
   intro q8 c8 w9 ho9 hb9 hg9 hor9
   refine hK.out _ _ (KS _ ((uh R).trans hb9)) (fun hHeld=>?_)
   clear hK K
   refine Eq.mp (hF _ _ _ _) ?_
   exact dp_to (uh st5 w9 M0 c4 c8 q4 q8 (hide ((uh R).trans hb9)) (hide ho9)) (by kernel_rfl) rfl
  refine AllReadyH.cons (o:=⟨some 15,.alloc 26,_,_,_,none⟩) rfl (fun K hK=>?_) ?_
  ·go_simp
   refine hK.out _ _ (KS _ ((uh R).alloc (uh R).size (.cells #[.int .i64 0,.string ⟨#[]⟩,.slice none 0 0,.slice none 0 0,.int .i64 0,.int .i64 0] 26))) (fun hHeld=>?_)
   clear hK K
   refine Eq.mp (hF _ _ _ _) ?_
   exact dp_to (uh st6 (World.alloc W (.cells #[.int .i64 0,.string ⟨#[]⟩,.slice none 0 0,.slice none 0 0,.int .i64 0,.int .i64 0] 26)) M0 W.heap.size c4 q4 (hide ((uh R).alloc (uh R).size _)) (hide (fun b e=>Nat.ne_of_lt (own_ltD (uh O) rfl b e))) (hide (uh R).size) (hide (box_nw _ _)) (hide ((uh O).below (((Below.refl W.heap.size W).alloc (Nat.le_refl _) (.cells #[.int .i64 0,.string ⟨#[]⟩,.slice none 0 0,.slice none 0 0,.int .i64 0,.int .i64 0] 26)))))) (by kernel_rfl) rfl
  exact AllReadyH.nil
  )
 have st8:Hid (∀ (W:World) (M0:Nat) (M13:Nat),Hid (Below U.heap.size U W)→Hid (∀ b,(Value.slice (some ⟨M0,0,none⟩) 0 0).ownBlock=some b→b ≠ M13)→Hid (U.heap.size≤M13)→Hid (W.heap[M13]? = some (.cells #[.int .i64 0,.string ⟨#[]⟩,.slice none 0 0,.slice none 0 0,.int .i64 0,.int .i64 0] 26 (0,0)))→Hid (OwnK encD 26 6 U.heap.size W (some ⟨M0,0,none⟩) 0 [])→F 8 #[true,true,true,true,false,true,true,true,false,false,false,false,false,true,false,false] (Act.mk #[.slice none 0 0,aa,ab,ac,ae,af,ag,ah,ai,aj,ak,al,am,an,.int .i64 0,.pointer (some ⟨M13,0,none⟩),ap,aq,ar,au,av,aw,ax,ay,az,ba,bc,bd,bf,bg,bh,bi,bj,bk,bl,bm,bo,bp,bq,br,bs,bt,bu,bv,bw,bx,bz,ca,cb,cc,cd,ce,cf,cg,ch,cj,ck,cl,cm,cn,co,cp,cq,cr,cs,ct,cu,cv,cx,cy,cz,da,db,dc,dd,de,df,dg,dh,di,dj,dk,dl,dm,dn,dp,dq,dr,ds,.slice (some ⟨M0,0,none⟩) 0 0,.slice none 0 0,.int .i64 0,.slice none 0 0,dx,.slice none 0 0,.int .i64 0,.slice none 0 0,eb,ec,ed,ee,ef,eg,eh,ei,ej,ek,el,em,en,eo,ep,er,et,eu,ev,ew,ey,ez,fa,fb,fc,fd,fe,ff,fg,fh,fi] d) W):=hide (by
  intro W M0 M13 R D G13 H13 O
  refine Eq.mpr (hF _ _ _ _) ?_
  have hHeld:=KS W (uh R)
  refine wpAnyH_ready (rs:=[4]) (by kernel_rfl) (by simp) ?_
  refine AllReadyH.cons (o:=⟨some 93,.call { callee:=.builtin .append,args:=#[.tmp 89,.tmp 92],argTypes:=#[22,22] },_,_,_,none⟩) rfl (fun K hK=>?_) ?_
  ·refine step_appO rowD (by rfl) (.tmp 89) (.tmp 92) (by rfl) U.heap.size (some ⟨M0,0,none⟩) 0 [] none 0 [] 0 0 0 rfl rfl rfl (by rfl) (by rfl) (uh O) (srcNil _ (by simp)) (by unfold maxLen;omega) (by omega) (uh R).size ?_
   intro q4 c4 w9 ho9 hb9 hg9 hor9
   refine hK.out _ _ (KS _ ((uh R).trans hb9)) (fun hHeld=>?_)
   clear hK K
   refine Eq.mp (hF _ _ _ _) ?_
   exact dp_to (uh st6 w9 M0 M13 c4 q4 (hide ((uh R).trans hb9)) (hide (fun b e=>by rcases hor9 with h9 | h9;exact (uh D) b (h9.symm.trans e);exact (by rw [h9] at e;cases e;exact Nat.ne_of_gt (heap_lt (uh H13))))) G13 (hide ((hg9.block _ (heap_lt (uh H13)) (fun e=>(uh D) _ e.symm rfl)).trans (uh H13))) (hide ho9)) (by kernel_rfl) rfl
  exact AllReadyH.nil
  )
 have st9:Hid (∀ (W:World) (M0:Nat),Hid (Below U.heap.size U W)→Hid (OwnK encD 26 6 U.heap.size W (some ⟨M0,0,none⟩) 0 [])→F 9 #[true,true,true,true,false,true,true,true,false,false,false,false,false,false,false,false] (Act.mk #[.slice none 0 0,aa,ab,ac,ae,af,ag,ah,ai,aj,ak,al,am,an,.int .i64 0,ao,ap,aq,ar,au,av,aw,ax,ay,az,ba,bc,bd,bf,bg,bh,bi,bj,bk,bl,bm,bo,bp,bq,br,bs,bt,bu,bv,bw,bx,bz,ca,cb,cc,cd,ce,cf,cg,ch,cj,ck,cl,cm,cn,co,cp,cq,cr,cs,ct,cu,cv,cx,cy,cz,da,db,dc,dd,de,df,dg,dh,di,dj,dk,dl,dm,dn,dp,dq,dr,ds,.slice (some ⟨M0,0,none⟩) 0 0,.slice none 0 0,.int .i64 0,.slice none 0 0,dx,.slice none 0 0,.int .i64 0,.slice none 0 0,eb,ec,ed,ee,ef,eg,eh,ei,ej,ek,el,em,en,eo,ep,er,et,eu,ev,ew,ey,ez,fa,fb,fc,fd,fe,ff,fg,fh,fi] d) W):=hide (by
  intro W M0 R O
  refine Eq.mpr (hF _ _ _ _) ?_
  have hHeld:=KS W (uh R)
  refine wpAnyH_ready (rs:=[4,13]) (by kernel_rfl) (by simp) ?_
  refine AllReadyH.cons (o:=⟨some 93,.call { callee:=.builtin .append,args:=#[.tmp 89,.tmp 92],argTypes:=#[22,22] },_,_,_,none⟩) rfl (fun K hK=>?_) ?_
  ·refine step_appO rowD (by rfl) (.tmp 89) (.tmp 92) (by rfl) U.heap.size (some ⟨M0,0,none⟩) 0 [] none 0 [] 0 0 0 rfl rfl rfl (by rfl) (by rfl) (uh O) (srcNil _ (by simp)) (by unfold maxLen;omega) (by omega) (uh R).size ?_
   intro q4 c4 w9 ho9 hb9 hg9 hor9
   refine hK.out _ _ (KS _ ((uh R).trans hb9)) (fun hHeld=>?_)
   clear hK K
   refine Eq.mp (hF _ _ _ _) ?_
   exact dp_to (uh st7 w9 M0 c4 q4 (hide ((uh R).trans hb9)) (hide ho9)) (by kernel_rfl) rfl
  refine AllReadyH.cons (o:=⟨some 15,.alloc 26,_,_,_,none⟩) rfl (fun K hK=>?_) ?_
  ·go_simp
   refine hK.out _ _ (KS _ ((uh R).alloc (uh R).size (.cells #[.int .i64 0,.string ⟨#[]⟩,.slice none 0 0,.slice none 0 0,.int .i64 0,.int .i64 0] 26))) (fun hHeld=>?_)
   clear hK K
   refine Eq.mp (hF _ _ _ _) ?_
   exact dp_to (uh st8 (World.alloc W (.cells #[.int .i64 0,.string ⟨#[]⟩,.slice none 0 0,.slice none 0 0,.int .i64 0,.int .i64 0] 26)) M0 W.heap.size (hide ((uh R).alloc (uh R).size _)) (hide (fun b e=>Nat.ne_of_lt (own_ltD (uh O) rfl b e))) (hide (uh R).size) (hide (box_nw _ _)) (hide ((uh O).below (((Below.refl W.heap.size W).alloc (Nat.le_refl _) (.cells #[.int .i64 0,.string ⟨#[]⟩,.slice none 0 0,.slice none 0 0,.int .i64 0,.int .i64 0] 26)))))) (by kernel_rfl) rfl
  exact AllReadyH.nil
  )
 have st10:Hid (∀ (W:World) (M13:Nat),Hid (Below U.heap.size U W)→Hid (U.heap.size≤M13)→Hid (W.heap[M13]? = some (.cells #[.int .i64 0,.string ⟨#[]⟩,.slice none 0 0,.slice none 0 0,.int .i64 0,.int .i64 0] 26 (0,0)))→F 9 #[false,true,true,true,false,true,true,true,false,false,false,false,false,true,false,false] (Act.mk #[.slice none 0 0,aa,ab,ac,ae,af,ag,ah,ai,aj,ak,al,am,an,.int .i64 0,.pointer (some ⟨M13,0,none⟩),ap,aq,ar,au,av,aw,ax,ay,az,ba,bc,bd,bf,bg,bh,bi,bj,bk,bl,bm,bo,bp,bq,br,bs,bt,bu,bv,bw,bx,bz,ca,cb,cc,cd,ce,cf,cg,ch,cj,ck,cl,cm,cn,co,cp,cq,cr,cs,ct,cu,cv,cx,cy,cz,da,db,dc,dd,de,df,dg,dh,di,dj,dk,dl,dm,dn,dp,dq,dr,ds,dt,.slice none 0 0,.int .i64 0,.slice none 0 0,dx,.slice none 0 0,.int .i64 0,.slice none 0 0,eb,ec,ed,ee,ef,eg,eh,ei,ej,ek,el,em,en,eo,ep,er,et,eu,ev,ew,ey,ez,fa,fb,fc,fd,fe,ff,fg,fh,fi] d) W):=hide (by
  intro W M13 R G13 H13
  refine Eq.mpr (hF _ _ _ _) ?_
  have hHeld:=KS W (uh R)
  refine wpAnyH_ready (rs:=[0]) (by kernel_rfl) (by simp) ?_
  refine AllReadyH.cons (o:=⟨some 89,.buildSlice 22 0 #[],_,_,_,none⟩) rfl (fun K hK=>?_) ?_
  ·go_simp
   refine hK.out _ _ (KS _ ((uh R).alloc (uh R).size (.cells #[] 26))) (fun hHeld=>?_)
   clear hK K
   refine Eq.mp (hF _ _ _ _) ?_
   exact dp_to (uh st8 (World.alloc W (.cells #[] 26)) W.heap.size M13 (hide ((uh R).alloc (uh R).size _)) (hide (fun b e=>by cases e;exact Nat.ne_of_gt (heap_lt (uh H13)))) G13 (hide (((((Below.refl W.heap.size W).alloc (Nat.le_refl _) (.cells #[] 26))).block _ (heap_lt (uh H13))).trans (uh H13))) (hide (own_made0 (uh R).size))) (by kernel_rfl) rfl
  exact AllReadyH.nil
  )
 have st11:Hid (∀ (W:World),Hid (Below U.heap.size U W)→F 16 #[false,false,false,false,false,false,false,false,false,false,false,false,false,false,false,false] (Act.mk #[.slice none 0 0,aa,ab,ac,ae,af,ag,ah,ai,aj,ak,al,am,an,.int .i64 0,ao,ap,aq,ar,au,av,aw,ax,ay,az,ba,bc,bd,bf,bg,bh,bi,bj,bk,bl,bm,bo,bp,bq,br,bs,bt,bu,bv,bw,bx,bz,ca,cb,cc,cd,ce,cf,cg,ch,cj,ck,cl,cm,cn,co,cp,cq,cr,cs,ct,cu,cv,cx,cy,cz,da,db,dc,dd,de,df,dg,dh,di,dj,dk,dl,dm,dn,dp,dq,dr,ds,dt,du,dv,dw,dx,dy,dz,ea,eb,ec,ed,ee,ef,eg,eh,ei,ej,ek,el,em,en,eo,ep,er,et,eu,ev,ew,ey,ez,fa,fb,fc,fd,fe,ff,fg,fh,fi] d) W):=hide (by
  intro W R
  refine Eq.mpr (hF _ _ _ _) ?_
  have hHeld:=KS W (uh R)
  refine wpAnyH_take (i:=1) (oi:=⟨some 90,.move (.tmp 0),_,_,_,none⟩) (v:=?_) rfl (by kernel_rfl) (by kernel_rfl) (by kernel_rfl) (fun c a w=>(uh HP) c a _ _ w) (Or.inl ⟨by rfl, ?_⟩) (by assumption) ?_
  rotate_left
  ·intro wq hSw
   go_simp
   with_reducible rfl
  simp only [Act.put,List.setIfInBounds_toArray,List.set_cons_zero,List.set_cons_succ]
  refine wpAnyH_take (i:=2) (oi:=⟨some 91,.move (.tmp 14),_,_,_,none⟩) (v:=?_) rfl (by kernel_rfl) (by kernel_rfl) (by kernel_rfl) (fun c a w=>(uh HP) c a _ _ w) (Or.inl ⟨by rfl, ?_⟩) (by assumption) ?_
  rotate_left
  ·intro wq hSw
   go_simp
   with_reducible rfl
  simp only [Act.put,List.setIfInBounds_toArray,List.set_cons_zero,List.set_cons_succ]
  refine wpAnyH_take (i:=3) (oi:=⟨some 92,.slice 22 (.tmp 90) (some (.tmp 91)) none none,_,_,_,none⟩) (v:=?_) rfl (by kernel_rfl) (by kernel_rfl) (by kernel_rfl) (fun c a w=>(uh HP) c a _ _ w) (Or.inl ⟨by rfl, ?_⟩) (by assumption) ?_
  rotate_left
  ·intro wq hSw
   go_simp
   with_reducible rfl
  simp only [Act.put,List.setIfInBounds_toArray,List.set_cons_zero,List.set_cons_succ]
  refine wpAnyH_take (i:=5) (oi:=⟨some 94,.move (.tmp 0),_,_,_,none⟩) (v:=?_) rfl (by kernel_rfl) (by kernel_rfl) (by kernel_rfl) (fun c a w=>(uh HP) c a _ _ w) (Or.inl ⟨by rfl, ?_⟩) (by assumption) ?_
  rotate_left
  ·intro wq hSw
   go_simp
   with_reducible rfl
  simp only [Act.put,List.setIfInBounds_toArray,List.set_cons_zero,List.set_cons_succ]
  refine wpAnyH_take (i:=6) (oi:=⟨some 95,.move (.tmp 14),_,_,_,none⟩) (v:=?_) rfl (by kernel_rfl) (by kernel_rfl) (by kernel_rfl) (fun c a w=>(uh HP) c a _ _ w) (Or.inl ⟨by rfl, ?_⟩) (by assumption) ?_
  rotate_left
  ·intro wq hSw
   go_simp
   with_reducible rfl
  simp only [Act.put,List.setIfInBounds_toArray,List.set_cons_zero,List.set_cons_succ]
  refine wpAnyH_take (i:=7) (oi:=⟨some 96,.slice 22 (.tmp 94) none (some (.tmp 95)) none,_,_,_,none⟩) (v:=?_) rfl (by kernel_rfl) (by kernel_rfl) (by kernel_rfl) (fun c a w=>(uh HP) c a _ _ w) (Or.inl ⟨by rfl, ?_⟩) (by assumption) ?_
  rotate_left
  ·intro wq hSw
   go_simp
   with_reducible rfl
  simp only [Act.put,List.setIfInBounds_toArray,List.set_cons_zero,List.set_cons_succ]
  refine wpAnyH_ready (rs:=[0,13]) (by kernel_rfl) (by simp) ?_
  refine AllReadyH.cons (o:=⟨some 89,.buildSlice 22 0 #[],_,_,_,none⟩) rfl (fun K hK=>?_) ?_
  ·go_simp
   refine hK.out _ _ (KS _ ((uh R).alloc (uh R).size (.cells #[] 26))) (fun hHeld=>?_)
   clear hK K
   refine Eq.mp (hF _ _ _ _) ?_
   exact dp_to (uh st9 (World.alloc W (.cells #[] 26)) W.heap.size (hide ((uh R).alloc (uh R).size _)) (hide (own_made0 (uh R).size))) (by kernel_rfl) rfl
  refine AllReadyH.cons (o:=⟨some 15,.alloc 26,_,_,_,none⟩) rfl (fun K hK=>?_) ?_
  ·go_simp
   refine hK.out _ _ (KS _ ((uh R).alloc (uh R).size (.cells #[.int .i64 0,.string ⟨#[]⟩,.slice none 0 0,.slice none 0 0,.int .i64 0,.int .i64 0] 26))) (fun hHeld=>?_)
   clear hK K
   refine Eq.mp (hF _ _ _ _) ?_
   exact dp_to (uh st10 (World.alloc W (.cells #[.int .i64 0,.string ⟨#[]⟩,.slice none 0 0,.slice none 0 0,.int .i64 0,.int .i64 0] 26)) W.heap.size (hide ((uh R).alloc (uh R).size _)) (hide (uh R).size) (hide (box_nw _ _))) (by kernel_rfl) rfl
  exact AllReadyH.nil
  )
 exact dp_to (uh st11 _ (hide (Below.refl _ _).drew)) (by kernel_rfl) rfl
end Go.Proofs.YtimklglliffpcaaGreat

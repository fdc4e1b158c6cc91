/- The law ConjMeets: the region that meets the predicates turned round, every order of its operations. -/
import Derived.Test.YtimklglliffpcaaGreatQZRp
import Derived.Test.YtimklglliffpcaaGreatQCjFix2
namespace Go.Proofs.YtimklglliffpcaaGreat
open Go.RowKit Go.Sort Go.Shelf

theorem own_made0 {B:Nat} {w:World} (hB:B≤w.heap.size):OwnK encD 26 6 B (w.alloc (.cells #[] 26)) (some ⟨w.heap.size,0,none⟩) 0 []:=by
 have:(flatK encD 6 ([]:List Pv).toArray).toList=[]:=by simp [flatK]
 unfold OwnK;rw [this];exact World.ownsRow_made w #[] 0 hB (Nat.zero_le _) rfl
theorem own_ltD {B c n:Nat} {w:World} {q:Option Addr} {l:List Pv} (h:OwnK encD 26 6 B w q c l) (hl:l.length=n):∀ b,(Value.slice q n c).ownBlock=some b→b < w.heap.size:=fun b e=>by
 subst hl
 exact (World.ownsRow.lt h b e).2
theorem slOf_agree {α:Type} [Inhabited α] {enc:α→List Value} {k g:Nat} {w W:World} {q:Option Addr} {c:Nat} {l:List α} (h:SlOf enc k w q c l) (hs:w.heap.size≤W.heap.size) (hW:∀ b,b < w.heap.size→b ≠ g→W.heap[b]? = w.heap[b]?) (hg:∀ a,q=some a→0 < l.length→a.block < w.heap.size→a.block ≠ g):SlOf enc k W q c l:=by
 refine ⟨h.1,h.2.1,h.2.2.1,fun h0=>?_⟩
 obtain ⟨b,off,e1,e2,e3⟩:=h.2.2.2 h0
 exact ⟨b,off,e1,Nat.lt_of_lt_of_le e2 hs,fun j u hj=>(World.cell?_of_block (a:=⟨b,off + j,Option.none⟩) (hW b e2 (hg _ e1 h0 e2))).trans (e3 j u hj)⟩
/-- A predicate that no write into block g reaches. -/
def PdOff (g:Nat) (w:World) (r:Pv) (m:Pd):Prop:=∀ W:World,w.heap.size≤W.heap.size→(∀ b,b < w.heap.size→b ≠ g→W.heap[b]? = w.heap[b]?)→PdIn W r m
def PdOwn9 (w:World) (r:Pv) (m:Pd):Prop:=∃ C,PdOwn C w r m
theorem PdOwn.off {B g:Nat} {w:World} {r:Pv} {m:Pd} (h:PdOwn B w r m) (hg:g < B):PdOff g w r m:=fun W hs hW=>by
 obtain ⟨⟨h1,h2,h3,h4,h5,h6,h7,h8⟩,⟨f1,f2⟩,_⟩:=h
 exact ⟨h1,h2,h3,h4,h5,h6,slOf_agree h7 hs hW (fun a e _ _=>by have:=f1 a e;omega),slOf_agree h8 hs hW (fun a e _ _=>by have:=f2 a e;omega)⟩
theorem PdIn.off2 {w:World} {r:Pv} {m:Pd} (h:PdIn w r m) (o:Obj):PdOff w.heap.size (w.alloc o) r m:=fun W hs hW=>by
 obtain ⟨h1,h2,h3,h4,h5,h6,h7,h8⟩:=h
 rw [size_al] at hs
 have hc:∀ b,b < w.heap.size→b ≠ w.heap.size→W.heap[b]? = w.heap[b]?:=fun b hb _=>(hW b (by rw [size_al];omega) (by omega)).trans (Below.heap_alloc _ _ b hb)
 exact ⟨h1,h2,h3,h4,h5,h6,slOf_agree h7 (by omega) hc (fun a _ _ hl=>Nat.ne_of_lt hl),slOf_agree h8 (by omega) hc (fun a _ _ hl=>Nat.ne_of_lt hl)⟩
theorem PdOff.below {g:Nat} {w w':World} {r:Pv} {m:Pd} (h:PdOff g w r m) (hb:Below w.heap.size w w'):PdOff g w' r m:=fun W hs hW=>h W (Nat.le_trans hb.size hs) fun b hlt hne=>(hW b (Nat.lt_of_lt_of_le hlt hb.size) hne).trans (hb.block b hlt)
theorem set6_off {w:World} {M:Nat} {r:Pv} {m:Pd} {a b c d e f:Value} (h:PdOff M w r m):PdIn ((((((w.setCell ⟨M,0,none⟩ a).setCell ⟨M,1,none⟩ b).setCell ⟨M,2,none⟩ c).setCell ⟨M,3,none⟩ d).setCell ⟨M,4,none⟩ e).setCell ⟨M,5,none⟩ f) r m:=by
 refine h _ (by simp) fun j _ hne=>?_
 rw [Below.heap_setCell _ _ _ _ hne,Below.heap_setCell _ _ _ _ hne,Below.heap_setCell _ _ _ _ hne,Below.heap_setCell _ _ _ _ hne,Below.heap_setCell _ _ _ _ hne,Below.heap_setCell _ _ _ _ hne]
/-- What the turned row is met to. -/
def MtOk (U:World) (us:List Pv) (l:List Pd) (k n:Nat):Prop:=us.length=l.length∧l.length=n∧k≤n∧n≤10000000000000∧Small l∧∀ (j:Nat) (u:Pv) (p:Pd),us[j]? = some u→l[j]? = some p→PdIn U u p
theorem cMt {U:World} {us:List Pv} {l:List Pd} {k n:Nat} (h:MtOk U us l k n) (q:Option Addr) (c:Nat) (W:World) (ho:OwnK encD 26 6 U.heap.size W q c ([] ++ us.drop k ++ us.take k)) (hb:Below U.heap.size U W) :
  Calls Tryz.prog 14 #[.slice q n c] W fun e w'=>(∃ r:Pv,e=.returned (.tuple #[.agg #[.int .i64 r.kind,.string r.attr,.slice r.qi r.ni r.ci,.slice r.qw r.nw r.cw,.int .i64 r.lo,.int .i64 r.hi],.bool (meetD l).isSome])∧PdOwn W.heap.size w' r ((meetD l).getD zeroD))∧Below W.heap.size W w':=by
 obtain ⟨h1,h2,h3,h4,h5,h6⟩:=h
 have hlen:(l.drop k ++ l.take k).length=n:=by simp;omega
 have hP:PdsOf W q c (l.drop k ++ l.take k):=by
  refine ⟨us.drop k ++ us.take k,by simpa using ho.ls,by simp [h1],fun j u p hj hp=>?_⟩
  by_cases hlt:j < (us.drop k).length
  ·rw [List.getElem?_append_left hlt,List.getElem?_drop] at hj
   rw [List.getElem?_append_left (by rw [List.length_drop,← h1,← List.length_drop];exact hlt),List.getElem?_drop] at hp
   exact (h6 _ u p hj hp).keep hb
  ·rw [List.getElem?_append_right (by omega),List.getElem?_take] at hj
   rw [List.getElem?_append_right (by rw [List.length_drop,← h1,← List.length_drop];omega),List.getElem?_take] at hp
   have hd:(us.drop k).length=(l.drop k).length:=by simp [h1]
   rw [hd] at hj
   split at hj
   ·next hk=>rw [if_pos hk] at hp;exact (h6 _ u p hj hp).keep hb
   ·cases hj
 have:=meet_any q c _ W hP (fun p hp=>h5 p ((turn_mem k p).1 hp)) (by omega)
 rw [hlen,meetD_any (l':=l.drop k ++ l.take k) (l:=l) (turn_mem k)] at this
 exact this
set_option maxRecDepth 100000 in
set_option maxHeartbeats 40000000 in
theorem reg16 (U:World) (pb po n c k n2 c2:Nat) (us:List Pv) (l:List Pd) (hMt:MtOk U us l k n) (hkn:k < n) (hnc:n≤c) (hn2:n - k=n2) (hc2:c - k=c2) (hb88:n * 88≤140737488355328)
  (hsd:SlOf encD 6 U (some ⟨pb,po + k * 6,none⟩) c2 (us.drop k)) (hst:SlOf encD 6 U (some ⟨pb,po,none⟩) c (us.take k))
  (aa ab ac ad ae af ag ah ai aj ak al am an ao ap aq ar au av aw ax ay az ba bc bd be bf bg bh bi bj bk bl bm bo bp bq br bs bt bu bv bw bx bz ca cb cc cd ce cf cg ch cj ck cl cm cn co cp cq cr cs ct cu cv cx cy cz da db dc dd de df dg dh di dj dk dl dm dn dp dq dr ds dt du dv dw dx dy dz ea eb ec ed ee ef eg eh ei ej ek el em en eo ep er es et eu ev ew ex ey ez fa fb fc fd fe:Value) (d:List Deferred) (Q:Exit→Act→World→Prop) (hP:∀ c (a:Act) o v w,Q (.panic c) (a.put o v) w→Q (.panic c) a w)
  (hQ:∀ (W:World) (r:Pv) (M:Nat) (ff fg fh fi fj fk fl fm fn fo fp fq fr:Value),Below U.heap.size U W→W.heap[M]? = some (.cells #[.int .i64 r.kind,.string r.attr,.slice r.qi r.ni r.ci,.slice r.qw r.nw r.cw,.int .i64 r.lo,.int .i64 r.hi] 26 (0,0))→PdIn W r ((meetD l).getD zeroD)→Q .normal (Act.mk #[.slice (some ⟨pb,po,none⟩) n c,aa,ab,ac,ad,ae,af,ag,ah,ai,aj,ak,al,am,.int .i64 (k:Int),.pointer (some ⟨M,0,none⟩),.bool (meetD l).isSome,ap,aq,ar,au,av,aw,ax,ay,az,ba,bc,bd,be,bf,bg,bh,bi,bj,bk,bl,bm,bo,bp,bq,br,bs,bt,bu,bv,bw,bx,bz,ca,cb,cc,cd,ce,cf,cg,ch,cj,ck,cl,cm,cn,co,cp,cq,cr,cs,ct,cu,cv,cx,cy,cz,da,db,dc,dd,de,df,dg,dh,di,dj,dk,dl,dm,dn,dp,ff,fg,fh,fi,fj,fk,fl,fm,fn,fo,fp,fq,fr,ed,ee,ef,eg,eh,ei,ej,ek,el,em,en,eo,ep,er,es,et,eu,ev,ew,ex,ey,ez,fa,fb,fc,fd,fe] d) W) :
  (Code.region 16 #[{ dst:=some 89,op:=Op.buildSlice 22 0 #[],type:=22,pos:="law.go:158",after:=#[],guard:=none },{ dst:=some 90,op:=Op.move (Operand.tmp 0),type:=22,pos:="law.go:158",after:=#[],guard:=none },{ dst:=some 91,op:=Op.move (Operand.tmp 14),type:=3,pos:="law.go:158",after:=#[],guard:=none },{ dst:=some 92,op:=Op.slice 22 (Operand.tmp 90) (some (Operand.tmp 91)) none none,type:=22,pos:="law.go:158",after:=#[{ on:=1,ground:=Ground.data },{ on:=2,ground:=Ground.data }],guard:=none },{ dst:=some 93,op:=Op.call { callee:=Callee.builtin Builtin.append,args:=#[Operand.tmp 89,Operand.tmp 92],argTypes:=#[22,22] },type:=22,pos:="law.go:158",after:=#[{ on:=0,ground:=Ground.data },{ on:=3,ground:=Ground.data }],guard:=none },{ dst:=some 94,op:=Op.move (Operand.tmp 0),type:=22,pos:="law.go:158",after:=#[],guard:=none },{ dst:=some 95,op:=Op.move (Operand.tmp 14),type:=3,pos:="law.go:158",after:=#[],guard:=none },{ dst:=some 96,op:=Op.slice 22 (Operand.tmp 94) none (some (Operand.tmp 95)) none,type:=22,pos:="law.go:158",after:=#[{ on:=5,ground:=Ground.data },{ on:=6,ground:=Ground.data }],guard:=none },{ dst:=some 97,op:=Op.call { callee:=Callee.builtin Builtin.append,args:=#[Operand.tmp 93,Operand.tmp 96],argTypes:=#[22,22] },type:=22,pos:="law.go:158",after:=#[{ on:=4,ground:=Ground.data },{ on:=7,ground:=Ground.data },{ on:=4,ground:=Ground.chain }],guard:=none },{ dst:=some 98,op:=Op.call { callee:=Callee.value (Operand.func 14),args:=#[Operand.tmp 97],argTypes:=#[22] },type:=30,pos:="law.go:158",after:=#[{ on:=8,ground:=Ground.data },{ on:=8,ground:=Ground.chain }],guard:=none },{ dst:=some 88,op:=Op.move (Operand.tmp 98),type:=30,pos:="law.go:158",after:=#[{ on:=9,ground:=Ground.data }],guard:=none },{ dst:=some 99,op:=Op.extract (Operand.tmp 88) 0,type:=26,pos:="law.go:158",after:=#[{ on:=10,ground:=Ground.data }],guard:=none },{ dst:=some 100,op:=Op.extract (Operand.tmp 88) 1,type:=4,pos:="law.go:158",after:=#[{ on:=10,ground:=Ground.data },{ on:=14,ground:=Ground.gcOnly Departure.lateStores }],guard:=none },{ dst:=some 15,op:=Op.alloc 26,type:=0,pos:="law.go:158",after:=#[],guard:=none },{ dst:=none,op:=Op.store 26 (Operand.tmp 15) (Operand.tmp 99),type:=0,pos:="law.go:158",after:=#[{ on:=13,ground:=Ground.data },{ on:=11,ground:=Ground.data },{ on:=9,ground:=Ground.chain },{ on:=0,ground:=Ground.phase },{ on:=1,ground:=Ground.phase },{ on:=2,ground:=Ground.phase },{ on:=3,ground:=Ground.phase },{ on:=4,ground:=Ground.phase },{ on:=5,ground:=Ground.phase },{ on:=6,ground:=Ground.phase },{ on:=7,ground:=Ground.phase },{ on:=8,ground:=Ground.phase },{ on:=9,ground:=Ground.phase },{ on:=10,ground:=Ground.phase },{ on:=11,ground:=Ground.phase },{ on:=12,ground:=Ground.textOnly Departure.lateStores },{ on:=13,ground:=Ground.phase }],guard:=none },{ dst:=some 16,op:=Op.assign (Operand.tmp 100),type:=4,pos:="law.go:158",after:=#[{ on:=12,ground:=Ground.data },{ on:=14,ground:=Ground.chain },{ on:=0,ground:=Ground.phase },{ on:=1,ground:=Ground.phase },{ on:=2,ground:=Ground.phase },{ on:=3,ground:=Ground.phase },{ on:=4,ground:=Ground.phase },{ on:=5,ground:=Ground.phase },{ on:=6,ground:=Ground.phase },{ on:=7,ground:=Ground.phase },{ on:=8,ground:=Ground.phase },{ on:=9,ground:=Ground.phase },{ on:=10,ground:=Ground.phase },{ on:=11,ground:=Ground.phase },{ on:=12,ground:=Ground.phase },{ on:=13,ground:=Ground.phase },{ on:=14,ground:=Ground.phase }],guard:=none }] true).wp Tryz.prog Q (Act.mk #[.slice (some ⟨pb,po,none⟩) n c,aa,ab,ac,ad,ae,af,ag,ah,ai,aj,ak,al,am,.int .i64 (k:Int),an,ao,ap,aq,ar,au,av,aw,ax,ay,az,ba,bc,bd,be,bf,bg,bh,bi,bj,bk,bl,bm,bo,bp,bq,br,bs,bt,bu,bv,bw,bx,bz,ca,cb,cc,cd,ce,cf,cg,ch,cj,ck,cl,cm,cn,co,cp,cq,cr,cs,ct,cu,cv,cx,cy,cz,da,db,dc,dd,de,df,dg,dh,di,dj,dk,dl,dm,dn,dp,dq,dr,ds,dt,du,dv,dw,dx,dy,dz,ea,eb,ec,ed,ee,ef,eg,eh,ei,ej,ek,el,em,en,eo,ep,er,es,et,eu,ev,ew,ex,ey,ez,fa,fb,fc,fd,fe] d) U:=by
 have KS:∀ W,Below U.heap.size U W→(fun _=>True) W:=fun _ _=>trivial
 have hul:us.length=n:=hMt.1.trans hMt.2.1
 have HSd:=hide hsd
 have HSt:=hide hst
 have HLd:=hide (show (us.drop k).length=n2 by rw [List.length_drop,hul];exact hn2)
 have HLd0:=hide (show ([] ++ us.drop k).length=n2 by rw [List.nil_append,List.length_drop,hul];exact hn2)
 have HLt:=hide (show (us.take k).length=k by rw [List.length_take,hul];omega)
 have HLn:=hide (show n2 + k=n by omega)
 have HL8:=hide (show ([] ++ us.drop k ++ us.take k).length=n by rw [List.nil_append,List.length_append,List.length_drop,List.length_take,hul];omega)
 have HMt:=hide hMt
 have HQ:=hide hQ
 have HP:=hide hP
 have k0:(0:Int)≤(k:Int):=by omega
 have k1:(k:Int)≤(n:Int):=by omega
 have k2:(n:Int)≤(c:Int):=by omega
 have k3:¬ c=k:=by omega
 have k4:(k:Int)≤(c:Int):=by omega
 have h88:n2 * 88≤140737488355328:=by omega
 have hnn:n2≤n:=by omega
 clear hP hMt hsd hst hQ hul
 refine wp_region_held_drew (S:=fun _=>True) (by kernel_rfl) (KS _ (Below.refl _ _).drew) (fun hHeld=>?_)
 clear hHeld
 refine dp_start ?_
 intro F hF
 have st0:Hid (∀ (W:World) (M0:Nat) (M13:Nat) (c4:Nat) (c8:Nat) (q4:Option Addr) (q8:Option Addr) (r:Pv),Hid (Below U.heap.size U W)→Hid (W.heap[M13]? = some (.cells #[.int .i64 r.kind,.string r.attr,.slice r.qi r.ni r.ci,.slice r.qw r.nw r.cw,.int .i64 r.lo,.int .i64 r.hi] 26 (0,0)))→Hid (PdIn W r ((meetD l).getD zeroD))→F 1 #[true,true,true,true,true,true,true,true,true,true,true,true,true,true,true,false] (Act.mk #[.slice (some ⟨pb,po,none⟩) n c,aa,ab,ac,ad,ae,af,ag,ah,ai,aj,ak,al,am,.int .i64 (k:Int),.pointer (some ⟨M13,0,none⟩),ao,ap,aq,ar,au,av,aw,ax,ay,az,ba,bc,bd,be,bf,bg,bh,bi,bj,bk,bl,bm,bo,bp,bq,br,bs,bt,bu,bv,bw,bx,bz,ca,cb,cc,cd,ce,cf,cg,ch,cj,ck,cl,cm,cn,co,cp,cq,cr,cs,ct,cu,cv,cx,cy,cz,da,db,dc,dd,de,df,dg,dh,di,dj,dk,dl,dm,dn,dp,.tuple #[.agg #[.int .i64 r.kind,.string r.attr,.slice r.qi r.ni r.ci,.slice r.qw r.nw r.cw,.int .i64 r.lo,.int .i64 r.hi],.bool (meetD l).isSome],.slice (some ⟨M0,0,none⟩) 0 0,.slice (some ⟨pb,po,none⟩) n c,.int .i64 (k:Int),.slice (some ⟨pb,po + k * 6,none⟩) n2 c2,.slice q4 n2 c4,.slice (some ⟨pb,po,none⟩) n c,.int .i64 (k:Int),.slice (some ⟨pb,po,none⟩) k c,.slice q8 n c8,.tuple #[.agg #[.int .i64 r.kind,.string r.attr,.slice r.qi r.ni r.ci,.slice r.qw r.nw r.cw,.int .i64 r.lo,.int .i64 r.hi],.bool (meetD l).isSome],.agg #[.int .i64 r.kind,.string r.attr,.slice r.qi r.ni r.ci,.slice r.qw r.nw r.cw,.int .i64 r.lo,.int .i64 r.hi],.bool (meetD l).isSome,ed,ee,ef,eg,eh,ei,ej,ek,el,em,en,eo,ep,er,es,et,eu,ev,ew,ex,ey,ez,fa,fb,fc,fd,fe] d) W):=hide (by
  intro W M0 M13 c4 c8 q4 q8 r R H15 X15
  refine Eq.mpr (hF _ _ _ _) ?_
  have hHeld:=KS W (uh R)
  refine wpAnyH_take (i:=15) (oi:=⟨some 16,.assign (.tmp 100),_,_,_,none⟩) (v:=?_) rfl (by kernel_rfl) (by kernel_rfl) (by kernel_rfl) (fun c a w=>(uh HP) c a _ _ w) (Or.inl ⟨by rfl, ?_⟩) (by assumption) ?_
  rotate_left
  ·intro wq hSw
   go_simp
   with_reducible rfl
  simp only [Act.put,List.setIfInBounds_toArray,List.set_cons_zero,List.set_cons_succ]
  refine wpAnyH_done (by kernel_rfl) ?_ _
  exact (uh HQ) W r M13 _ _ _ _ _ _ _ _ _ _ _ _ _ (uh R) (uh H15) (uh X15)
  )
 have st1:Hid (∀ (W:World) (M0:Nat) (M13:Nat) (c4:Nat) (c8:Nat) (q4:Option Addr) (q8:Option Addr) (r:Pv),Hid (Below U.heap.size U W)→Hid (U.heap.size≤M13)→Hid (W.heap[M13]? = some (.cells #[.int .i64 0,.string ⟨#[]⟩,.slice none 0 0,.slice none 0 0,.int .i64 0,.int .i64 0] 26 (0,0)))→Hid (PdOff M13 W r ((meetD l).getD zeroD))→F 2 #[true,true,true,true,true,true,true,true,true,true,true,true,true,true,false,false] (Act.mk #[.slice (some ⟨pb,po,none⟩) n c,aa,ab,ac,ad,ae,af,ag,ah,ai,aj,ak,al,am,.int .i64 (k:Int),.pointer (some ⟨M13,0,none⟩),ao,ap,aq,ar,au,av,aw,ax,ay,az,ba,bc,bd,be,bf,bg,bh,bi,bj,bk,bl,bm,bo,bp,bq,br,bs,bt,bu,bv,bw,bx,bz,ca,cb,cc,cd,ce,cf,cg,ch,cj,ck,cl,cm,cn,co,cp,cq,cr,cs,ct,cu,cv,cx,cy,cz,da,db,dc,dd,de,df,dg,dh,di,dj,dk,dl,dm,dn,dp,.tuple #[.agg #[.int .i64 r.kind,.string r.attr,.slice r.qi r.ni r.ci,.slice r.qw r.nw r.cw,.int .i64 r.lo,.int .i64 r.hi],.bool (meetD l).isSome],.slice (some ⟨M0,0,none⟩) 0 0,.slice (some ⟨pb,po,none⟩) n c,.int .i64 (k:Int),.slice (some ⟨pb,po + k * 6,none⟩) n2 c2,.slice q4 n2 c4,.slice (some ⟨pb,po,none⟩) n c,.int .i64 (k:Int),.slice (some ⟨pb,po,none⟩) k c,.slice q8 n c8,.tuple #[.agg #[.int .i64 r.kind,.string r.attr,.slice r.qi r.ni r.ci,.slice r.qw r.nw r.cw,.int .i64 r.lo,.int .i64 r.hi],.bool (meetD l).isSome],.agg #[.int .i64 r.kind,.string r.attr,.slice r.qi r.ni r.ci,.slice r.qw r.nw r.cw,.int .i64 r.lo,.int .i64 r.hi],.bool (meetD l).isSome,ed,ee,ef,eg,eh,ei,ej,ek,el,em,en,eo,ep,er,es,et,eu,ev,ew,ex,ey,ez,fa,fb,fc,fd,fe] d) W):=hide (by
  intro W M0 M13 c4 c8 q4 q8 r R G13 H13 X
  refine Eq.mpr (hF _ _ _ _) ?_
  have hHeld:=KS W (uh R)
  refine wpAnyH_ready (rs:=[14]) (by kernel_rfl) (by simp) ?_
  refine AllReadyH.cons (o:=⟨none,.store 26 (.tmp 15) (.tmp 99),_,_,_,none⟩) rfl (fun K hK=>?_) ?_
  ·obtain ⟨y0,y1,y2,y3,y4,y5⟩:=of6C (uh H13)
   have yf:=fun o=>frozen_free (o:=o) (uh H13)
   go_simp
   refine hK.out _ _ (KS _ (((((((uh R).setCell (p:=⟨M13,0,none⟩) (uh G13) (.int .i64 r.kind)).setCell (p:=⟨M13,1,none⟩) (uh G13) (.string r.attr)).setCell (p:=⟨M13,2,none⟩) (uh G13) (.slice r.qi r.ni r.ci)).setCell (p:=⟨M13,3,none⟩) (uh G13) (.slice r.qw r.nw r.cw)).setCell (p:=⟨M13,4,none⟩) (uh G13) (.int .i64 r.lo)).setCell (p:=⟨M13,5,none⟩) (uh G13) (.int .i64 r.hi))) (fun hHeld=>?_)
   clear hK K
   refine Eq.mp (hF _ _ _ _) ?_
   exact dp_to (uh st0 (World.setCell (World.setCell (World.setCell (World.setCell (World.setCell (World.setCell W ⟨M13,0,none⟩ (.int .i64 r.kind)) ⟨M13,1,none⟩ (.string r.attr)) ⟨M13,2,none⟩ (.slice r.qi r.ni r.ci)) ⟨M13,3,none⟩ (.slice r.qw r.nw r.cw)) ⟨M13,4,none⟩ (.int .i64 r.lo)) ⟨M13,5,none⟩ (.int .i64 r.hi)) M0 M13 c4 c8 q4 q8 r (hide (((((((uh R).setCell (p:=⟨M13,0,none⟩) (uh G13) (.int .i64 r.kind)).setCell (p:=⟨M13,1,none⟩) (uh G13) (.string r.attr)).setCell (p:=⟨M13,2,none⟩) (uh G13) (.slice r.qi r.ni r.ci)).setCell (p:=⟨M13,3,none⟩) (uh G13) (.slice r.qw r.nw r.cw)).setCell (p:=⟨M13,4,none⟩) (uh G13) (.int .i64 r.lo)).setCell (p:=⟨M13,5,none⟩) (uh G13) (.int .i64 r.hi))) (hide (box_set6 (uh H13) _ _ _ _ _ _)) (hide (set6_off (uh X)))) (by kernel_rfl) rfl
  exact AllReadyH.nil
  )
 have st2:Hid (∀ (W:World) (M0:Nat) (c4:Nat) (c8:Nat) (q4:Option Addr) (q8:Option Addr) (r:Pv),Hid (Below U.heap.size U W)→Hid (PdOwn9 W r ((meetD l).getD zeroD))→F 6 #[true,true,true,true,true,true,true,true,true,true,false,false,false,false,false,false] (Act.mk #[.slice (some ⟨pb,po,none⟩) n c,aa,ab,ac,ad,ae,af,ag,ah,ai,aj,ak,al,am,.int .i64 (k:Int),an,ao,ap,aq,ar,au,av,aw,ax,ay,az,ba,bc,bd,be,bf,bg,bh,bi,bj,bk,bl,bm,bo,bp,bq,br,bs,bt,bu,bv,bw,bx,bz,ca,cb,cc,cd,ce,cf,cg,ch,cj,ck,cl,cm,cn,co,cp,cq,cr,cs,ct,cu,cv,cx,cy,cz,da,db,dc,dd,de,df,dg,dh,di,dj,dk,dl,dm,dn,dp,dq,.slice (some ⟨M0,0,none⟩) 0 0,.slice (some ⟨pb,po,none⟩) n c,.int .i64 (k:Int),.slice (some ⟨pb,po + k * 6,none⟩) n2 c2,.slice q4 n2 c4,.slice (some ⟨pb,po,none⟩) n c,.int .i64 (k:Int),.slice (some ⟨pb,po,none⟩) k c,.slice q8 n c8,.tuple #[.agg #[.int .i64 r.kind,.string r.attr,.slice r.qi r.ni r.ci,.slice r.qw r.nw r.cw,.int .i64 r.lo,.int .i64 r.hi],.bool (meetD l).isSome],eb,ec,ed,ee,ef,eg,eh,ei,ej,ek,el,em,en,eo,ep,er,es,et,eu,ev,ew,ex,ey,ez,fa,fb,fc,fd,fe] d) W):=hide (by
  intro W M0 c4 c8 q4 q8 r R X
  refine Eq.mpr (hF _ _ _ _) ?_
  have hHeld:=KS W (uh R)
  refine wpAnyH_take (i:=10) (oi:=⟨some 88,.move (.tmp 98),_,_,_,none⟩) (v:=?_) rfl (by kernel_rfl) (by kernel_rfl) (by kernel_rfl) (fun c a w=>(uh HP) c a _ _ w) (Or.inl ⟨by rfl, ?_⟩) (by assumption) ?_
  rotate_left
  ·intro wq hSw
   go_simp
   with_reducible rfl
  simp only [Act.put,List.setIfInBounds_toArray,List.set_cons_zero,List.set_cons_succ]
  refine wpAnyH_take (i:=11) (oi:=⟨some 99,.extract (.tmp 88) 0,_,_,_,none⟩) (v:=?_) rfl (by kernel_rfl) (by kernel_rfl) (by kernel_rfl) (fun c a w=>(uh HP) c a _ _ w) (Or.inl ⟨by rfl, ?_⟩) (by assumption) ?_
  rotate_left
  ·intro wq hSw
   go_simp
   with_reducible rfl
  simp only [Act.put,List.setIfInBounds_toArray,List.set_cons_zero,List.set_cons_succ]
  refine wpAnyH_take (i:=12) (oi:=⟨some 100,.extract (.tmp 88) 1,_,_,_,none⟩) (v:=?_) rfl (by kernel_rfl) (by kernel_rfl) (by kernel_rfl) (fun c a w=>(uh HP) c a _ _ w) (Or.inl ⟨by rfl, ?_⟩) (by assumption) ?_
  rotate_left
  ·intro wq hSw
   go_simp
   with_reducible rfl
  simp only [Act.put,List.setIfInBounds_toArray,List.set_cons_zero,List.set_cons_succ]
  refine wpAnyH_ready (rs:=[13]) (by kernel_rfl) (by simp) ?_
  refine AllReadyH.cons (o:=⟨some 15,.alloc 26,_,_,_,none⟩) rfl (fun K hK=>?_) ?_
  ·obtain ⟨C,hC⟩:=uh X
   go_simp
   refine hK.out _ _ (KS _ ((uh R).alloc (uh R).size (.cells #[.int .i64 0,.string ⟨#[]⟩,.slice none 0 0,.slice none 0 0,.int .i64 0,.int .i64 0] 26))) (fun hHeld=>?_)
   clear hK K
   refine Eq.mp (hF _ _ _ _) ?_
   exact dp_to (uh st1 (World.alloc W (.cells #[.int .i64 0,.string ⟨#[]⟩,.slice none 0 0,.slice none 0 0,.int .i64 0,.int .i64 0] 26)) M0 W.heap.size c4 c8 q4 q8 r (hide ((uh R).alloc (uh R).size _)) (hide (uh R).size) (hide (box_nw _ _)) (hide (hC.1.off2 _))) (by kernel_rfl) rfl
  exact AllReadyH.nil
  )
 have st3:Hid (∀ (W:World) (M0:Nat) (M13:Nat) (c4:Nat) (c8:Nat) (q4:Option Addr) (q8:Option Addr) (r:Pv),Hid (Below U.heap.size U W)→Hid (U.heap.size≤M13)→Hid (W.heap[M13]? = some (.cells #[.int .i64 0,.string ⟨#[]⟩,.slice none 0 0,.slice none 0 0,.int .i64 0,.int .i64 0] 26 (0,0)))→Hid (PdOff M13 W r ((meetD l).getD zeroD))→F 5 #[true,true,true,true,true,true,true,true,true,true,false,false,false,true,false,false] (Act.mk #[.slice (some ⟨pb,po,none⟩) n c,aa,ab,ac,ad,ae,af,ag,ah,ai,aj,ak,al,am,.int .i64 (k:Int),.pointer (some ⟨M13,0,none⟩),ao,ap,aq,ar,au,av,aw,ax,ay,az,ba,bc,bd,be,bf,bg,bh,bi,bj,bk,bl,bm,bo,bp,bq,br,bs,bt,bu,bv,bw,bx,bz,ca,cb,cc,cd,ce,cf,cg,ch,cj,ck,cl,cm,cn,co,cp,cq,cr,cs,ct,cu,cv,cx,cy,cz,da,db,dc,dd,de,df,dg,dh,di,dj,dk,dl,dm,dn,dp,dq,.slice (some ⟨M0,0,none⟩) 0 0,.slice (some ⟨pb,po,none⟩) n c,.int .i64 (k:Int),.slice (some ⟨pb,po + k * 6,none⟩) n2 c2,.slice q4 n2 c4,.slice (some ⟨pb,po,none⟩) n c,.int .i64 (k:Int),.slice (some ⟨pb,po,none⟩) k c,.slice q8 n c8,.tuple #[.agg #[.int .i64 r.kind,.string r.attr,.slice r.qi r.ni r.ci,.slice r.qw r.nw r.cw,.int .i64 r.lo,.int .i64 r.hi],.bool (meetD l).isSome],eb,ec,ed,ee,ef,eg,eh,ei,ej,ek,el,em,en,eo,ep,er,es,et,eu,ev,ew,ex,ey,ez,fa,fb,fc,fd,fe] d) W):=hide (by
  intro W M0 M13 c4 c8 q4 q8 r R G13 H13 X
  refine Eq.mpr (hF _ _ _ _) ?_
  have hHeld:=KS W (uh R)
  refine wpAnyH_take (i:=10) (oi:=⟨some 88,.move (.tmp 98),_,_,_,none⟩) (v:=?_) rfl (by kernel_rfl) (by kernel_rfl) (by kernel_rfl) (fun c a w=>(uh HP) c a _ _ w) (Or.inl ⟨by rfl, ?_⟩) (by assumption) ?_
  rotate_left
  ·intro wq hSw
   go_simp
   with_reducible rfl
  simp only [Act.put,List.setIfInBounds_toArray,List.set_cons_zero,List.set_cons_succ]
  refine wpAnyH_take (i:=11) (oi:=⟨some 99,.extract (.tmp 88) 0,_,_,_,none⟩) (v:=?_) rfl (by kernel_rfl) (by kernel_rfl) (by kernel_rfl) (fun c a w=>(uh HP) c a _ _ w) (Or.inl ⟨by rfl, ?_⟩) (by assumption) ?_
  rotate_left
  ·intro wq hSw
   go_simp
   with_reducible rfl
  simp only [Act.put,List.setIfInBounds_toArray,List.set_cons_zero,List.set_cons_succ]
  refine wpAnyH_take (i:=12) (oi:=⟨some 100,.extract (.tmp 88) 1,_,_,_,none⟩) (v:=?_) rfl (by kernel_rfl) (by kernel_rfl) (by kernel_rfl) (fun c a w=>(uh HP) c a _ _ w) (Or.inl ⟨by rfl, ?_⟩) (by assumption) ?_
  rotate_left
  ·intro wq hSw
   go_simp
   with_reducible rfl
  simp only [Act.put,List.setIfInBounds_toArray,List.set_cons_zero,List.set_cons_succ]
  refine wpAnyH_ready (rs:=[14]) (by kernel_rfl) (by simp) ?_
  refine AllReadyH.cons (o:=⟨none,.store 26 (.tmp 15) (.tmp 99),_,_,_,none⟩) rfl (fun K hK=>?_) ?_
  ·obtain ⟨y0,y1,y2,y3,y4,y5⟩:=of6C (uh H13)
   have yf:=fun o=>frozen_free (o:=o) (uh H13)
   go_simp
   refine hK.out _ _ (KS _ (((((((uh R).setCell (p:=⟨M13,0,none⟩) (uh G13) (.int .i64 r.kind)).setCell (p:=⟨M13,1,none⟩) (uh G13) (.string r.attr)).setCell (p:=⟨M13,2,none⟩) (uh G13) (.slice r.qi r.ni r.ci)).setCell (p:=⟨M13,3,none⟩) (uh G13) (.slice r.qw r.nw r.cw)).setCell (p:=⟨M13,4,none⟩) (uh G13) (.int .i64 r.lo)).setCell (p:=⟨M13,5,none⟩) (uh G13) (.int .i64 r.hi))) (fun hHeld=>?_)
   clear hK K
   refine Eq.mp (hF _ _ _ _) ?_
   exact dp_to (uh st0 (World.setCell (World.setCell (World.setCell (World.setCell (World.setCell (World.setCell W ⟨M13,0,none⟩ (.int .i64 r.kind)) ⟨M13,1,none⟩ (.string r.attr)) ⟨M13,2,none⟩ (.slice r.qi r.ni r.ci)) ⟨M13,3,none⟩ (.slice r.qw r.nw r.cw)) ⟨M13,4,none⟩ (.int .i64 r.lo)) ⟨M13,5,none⟩ (.int .i64 r.hi)) M0 M13 c4 c8 q4 q8 r (hide (((((((uh R).setCell (p:=⟨M13,0,none⟩) (uh G13) (.int .i64 r.kind)).setCell (p:=⟨M13,1,none⟩) (uh G13) (.string r.attr)).setCell (p:=⟨M13,2,none⟩) (uh G13) (.slice r.qi r.ni r.ci)).setCell (p:=⟨M13,3,none⟩) (uh G13) (.slice r.qw r.nw r.cw)).setCell (p:=⟨M13,4,none⟩) (uh G13) (.int .i64 r.lo)).setCell (p:=⟨M13,5,none⟩) (uh G13) (.int .i64 r.hi))) (hide (box_set6 (uh H13) _ _ _ _ _ _)) (hide (set6_off (uh X)))) (by kernel_rfl) rfl
  exact AllReadyH.nil
  )
 have st4:Hid (∀ (W:World) (M0:Nat) (M13:Nat) (c4:Nat) (c8:Nat) (q4:Option Addr) (q8:Option Addr),Hid (Below U.heap.size U W)→Hid (∀ b,(Value.slice q8 n c8).ownBlock=some b→b ≠ M13)→Hid (U.heap.size≤M13)→Hid (W.heap[M13]? = some (.cells #[.int .i64 0,.string ⟨#[]⟩,.slice none 0 0,.slice none 0 0,.int .i64 0,.int .i64 0] 26 (0,0)))→Hid (OwnK encD 26 6 U.heap.size W q8 c8 (([] ++ us.drop k) ++ (us.take k)))→F 6 #[true,true,true,true,true,true,true,true,true,false,false,false,false,true,false,false] (Act.mk #[.slice (some ⟨pb,po,none⟩) n c,aa,ab,ac,ad,ae,af,ag,ah,ai,aj,ak,al,am,.int .i64 (k:Int),.pointer (some ⟨M13,0,none⟩),ao,ap,aq,ar,au,av,aw,ax,ay,az,ba,bc,bd,be,bf,bg,bh,bi,bj,bk,bl,bm,bo,bp,bq,br,bs,bt,bu,bv,bw,bx,bz,ca,cb,cc,cd,ce,cf,cg,ch,cj,ck,cl,cm,cn,co,cp,cq,cr,cs,ct,cu,cv,cx,cy,cz,da,db,dc,dd,de,df,dg,dh,di,dj,dk,dl,dm,dn,dp,dq,.slice (some ⟨M0,0,none⟩) 0 0,.slice (some ⟨pb,po,none⟩) n c,.int .i64 (k:Int),.slice (some ⟨pb,po + k * 6,none⟩) n2 c2,.slice q4 n2 c4,.slice (some ⟨pb,po,none⟩) n c,.int .i64 (k:Int),.slice (some ⟨pb,po,none⟩) k c,.slice q8 n c8,ea,eb,ec,ed,ee,ef,eg,eh,ei,ej,ek,el,em,en,eo,ep,er,es,et,eu,ev,ew,ex,ey,ez,fa,fb,fc,fd,fe] d) W):=hide (by
  intro W M0 M13 c4 c8 q4 q8 R D G13 H13 O
  refine Eq.mpr (hF _ _ _ _) ?_
  have hHeld:=KS W (uh R)
  refine wpAnyH_ready (rs:=[9]) (by kernel_rfl) (by simp) ?_
  refine AllReadyH.cons (o:=⟨some 98,.call { callee:=.value (.func 14),args:=#[.tmp 97],argTypes:=#[22] },_,_,_,none⟩) rfl (fun K hK=>?_) ?_
  ·go_simp
   refine (cMt (uh HMt) q8 c8 _ (uh O) (uh R)).mono ?_
   rintro e W1 ⟨⟨r,rfl,bn⟩,bb⟩
   refine hK.out _ _ (KS _ (below_sub (uh R) bb)) (fun hHeld=>?_)
   clear hK K
   refine Eq.mp (hF _ _ _ _) ?_
   exact dp_to (uh st3 W1 M0 M13 c4 c8 q4 q8 r (hide (below_sub (uh R) bb)) G13 (hide (((bb).block _ (heap_lt (uh H13))).trans (uh H13))) (hide (bn.off (heap_lt (uh H13))))) (by kernel_rfl) rfl
  exact AllReadyH.nil
  )
 have st5:Hid (∀ (W:World) (M0:Nat) (c4:Nat) (c8:Nat) (q4:Option Addr) (q8:Option Addr),Hid (Below U.heap.size U W)→Hid (OwnK encD 26 6 U.heap.size W q8 c8 (([] ++ us.drop k) ++ (us.take k)))→F 7 #[true,true,true,true,true,true,true,true,true,false,false,false,false,false,false,false] (Act.mk #[.slice (some ⟨pb,po,none⟩) n c,aa,ab,ac,ad,ae,af,ag,ah,ai,aj,ak,al,am,.int .i64 (k:Int),an,ao,ap,aq,ar,au,av,aw,ax,ay,az,ba,bc,bd,be,bf,bg,bh,bi,bj,bk,bl,bm,bo,bp,bq,br,bs,bt,bu,bv,bw,bx,bz,ca,cb,cc,cd,ce,cf,cg,ch,cj,ck,cl,cm,cn,co,cp,cq,cr,cs,ct,cu,cv,cx,cy,cz,da,db,dc,dd,de,df,dg,dh,di,dj,dk,dl,dm,dn,dp,dq,.slice (some ⟨M0,0,none⟩) 0 0,.slice (some ⟨pb,po,none⟩) n c,.int .i64 (k:Int),.slice (some ⟨pb,po + k * 6,none⟩) n2 c2,.slice q4 n2 c4,.slice (some ⟨pb,po,none⟩) n c,.int .i64 (k:Int),.slice (some ⟨pb,po,none⟩) k c,.slice q8 n c8,ea,eb,ec,ed,ee,ef,eg,eh,ei,ej,ek,el,em,en,eo,ep,er,es,et,eu,ev,ew,ex,ey,ez,fa,fb,fc,fd,fe] d) W):=hide (by
  intro W M0 c4 c8 q4 q8 R O
  refine Eq.mpr (hF _ _ _ _) ?_
  have hHeld:=KS W (uh R)
  refine wpAnyH_ready (rs:=[9,13]) (by kernel_rfl) (by simp) ?_
  refine AllReadyH.cons (o:=⟨some 98,.call { callee:=.value (.func 14),args:=#[.tmp 97],argTypes:=#[22] },_,_,_,none⟩) rfl (fun K hK=>?_) ?_
  ·go_simp
   refine (cMt (uh HMt) q8 c8 _ (uh O) (uh R)).mono ?_
   rintro e W1 ⟨⟨r,rfl,bn⟩,bb⟩
   refine hK.out _ _ (KS _ (below_sub (uh R) bb)) (fun hHeld=>?_)
   clear hK K
   refine Eq.mp (hF _ _ _ _) ?_
   exact dp_to (uh st2 W1 M0 c4 c8 q4 q8 r (hide (below_sub (uh R) bb)) (hide ⟨_,bn⟩)) (by kernel_rfl) rfl
  refine AllReadyH.cons (o:=⟨some 15,.alloc 26,_,_,_,none⟩) rfl (fun K hK=>?_) ?_
  ·go_simp
   refine hK.out _ _ (KS _ ((uh R).alloc (uh R).size (.cells #[.int .i64 0,.string ⟨#[]⟩,.slice none 0 0,.slice none 0 0,.int .i64 0,.int .i64 0] 26))) (fun hHeld=>?_)
   clear hK K
   refine Eq.mp (hF _ _ _ _) ?_
   exact dp_to (uh st4 (World.alloc W (.cells #[.int .i64 0,.string ⟨#[]⟩,.slice none 0 0,.slice none 0 0,.int .i64 0,.int .i64 0] 26)) M0 W.heap.size c4 c8 q4 q8 (hide ((uh R).alloc (uh R).size _)) (hide (fun b e=>Nat.ne_of_lt (own_ltD (uh O) (uh HL8) b e))) (hide (uh R).size) (hide (box_nw _ _)) (hide ((uh O).below (((Below.refl W.heap.size W).alloc (Nat.le_refl _) (.cells #[.int .i64 0,.string ⟨#[]⟩,.slice none 0 0,.slice none 0 0,.int .i64 0,.int .i64 0] 26)))))) (by kernel_rfl) rfl
  exact AllReadyH.nil
  )
 have st6:Hid (∀ (W:World) (M0:Nat) (M13:Nat) (c4:Nat) (q4:Option Addr),Hid (Below U.heap.size U W)→Hid (∀ b,(Value.slice q4 n2 c4).ownBlock=some b→b ≠ M13)→Hid (U.heap.size≤M13)→Hid (W.heap[M13]? = some (.cells #[.int .i64 0,.string ⟨#[]⟩,.slice none 0 0,.slice none 0 0,.int .i64 0,.int .i64 0] 26 (0,0)))→Hid (OwnK encD 26 6 U.heap.size W q4 c4 ([] ++ (us.drop k)))→F 7 #[true,true,true,true,true,true,true,true,false,false,false,false,false,true,false,false] (Act.mk #[.slice (some ⟨pb,po,none⟩) n c,aa,ab,ac,ad,ae,af,ag,ah,ai,aj,ak,al,am,.int .i64 (k:Int),.pointer (some ⟨M13,0,none⟩),ao,ap,aq,ar,au,av,aw,ax,ay,az,ba,bc,bd,be,bf,bg,bh,bi,bj,bk,bl,bm,bo,bp,bq,br,bs,bt,bu,bv,bw,bx,bz,ca,cb,cc,cd,ce,cf,cg,ch,cj,ck,cl,cm,cn,co,cp,cq,cr,cs,ct,cu,cv,cx,cy,cz,da,db,dc,dd,de,df,dg,dh,di,dj,dk,dl,dm,dn,dp,dq,.slice (some ⟨M0,0,none⟩) 0 0,.slice (some ⟨pb,po,none⟩) n c,.int .i64 (k:Int),.slice (some ⟨pb,po + k * 6,none⟩) n2 c2,.slice q4 n2 c4,.slice (some ⟨pb,po,none⟩) n c,.int .i64 (k:Int),.slice (some ⟨pb,po,none⟩) k c,dz,ea,eb,ec,ed,ee,ef,eg,eh,ei,ej,ek,el,em,en,eo,ep,er,es,et,eu,ev,ew,ex,ey,ez,fa,fb,fc,fd,fe] d) W):=hide (by
  intro W M0 M13 c4 q4 R D G13 H13 O
  refine Eq.mpr (hF _ _ _ _) ?_
  have hHeld:=KS W (uh R)
  refine wpAnyH_ready (rs:=[8]) (by kernel_rfl) (by simp) ?_
  refine AllReadyH.cons (o:=⟨some 97,.call { callee:=.builtin .append,args:=#[.tmp 93,.tmp 96],argTypes:=#[22,22] },_,_,_,none⟩) rfl (fun K hK=>?_) ?_
  ·refine step_appG rowD (by rfl) (.tmp 93) (.tmp 96) (by rfl) U.heap.size q4 c4 ([] ++ us.drop k) ⟨pb,po,none⟩ c (us.take k) n2 k n (uh HLd0) (uh HLt) (uh HLn) (by rfl) (by rfl) (uh O) ((uh HSt).below (uh R)).src (by unfold maxLen;omega) (by omega) (uh R).size ?_
   intro q8 c8 w9 ho9 hb9 hg9 hor9
   refine hK.out _ _ (KS _ ((uh R).trans hb9)) (fun hHeld=>?_)
   clear hK K
   refine Eq.mp (hF _ _ _ _) ?_
   exact dp_to (uh st4 w9 M0 M13 c4 c8 q4 q8 (hide ((uh R).trans hb9)) (hide (fun b e=>by rcases hor9 with h9 | h9;exact (uh D) b (h9.symm.trans e);exact (by rw [h9] at e;cases e;exact Nat.ne_of_gt (heap_lt (uh H13))))) G13 (hide ((hg9.block _ (heap_lt (uh H13)) (fun e=>(uh D) _ e.symm rfl)).trans (uh H13))) (hide ho9)) (by kernel_rfl) rfl
  exact AllReadyH.nil
  )
 have st7:Hid (∀ (W:World) (M0:Nat) (c4:Nat) (q4:Option Addr),Hid (Below U.heap.size U W)→Hid (OwnK encD 26 6 U.heap.size W q4 c4 ([] ++ (us.drop k)))→F 8 #[true,true,true,true,true,true,true,true,false,false,false,false,false,false,false,false] (Act.mk #[.slice (some ⟨pb,po,none⟩) n c,aa,ab,ac,ad,ae,af,ag,ah,ai,aj,ak,al,am,.int .i64 (k:Int),an,ao,ap,aq,ar,au,av,aw,ax,ay,az,ba,bc,bd,be,bf,bg,bh,bi,bj,bk,bl,bm,bo,bp,bq,br,bs,bt,bu,bv,bw,bx,bz,ca,cb,cc,cd,ce,cf,cg,ch,cj,ck,cl,cm,cn,co,cp,cq,cr,cs,ct,cu,cv,cx,cy,cz,da,db,dc,dd,de,df,dg,dh,di,dj,dk,dl,dm,dn,dp,dq,.slice (some ⟨M0,0,none⟩) 0 0,.slice (some ⟨pb,po,none⟩) n c,.int .i64 (k:Int),.slice (some ⟨pb,po + k * 6,none⟩) n2 c2,.slice q4 n2 c4,.slice (some ⟨pb,po,none⟩) n c,.int .i64 (k:Int),.slice (some ⟨pb,po,none⟩) k c,dz,ea,eb,ec,ed,ee,ef,eg,eh,ei,ej,ek,el,em,en,eo,ep,er,es,et,eu,ev,ew,ex,ey,ez,fa,fb,fc,fd,fe] d) W):=hide (by
  intro W M0 c4 q4 R O
  refine Eq.mpr (hF _ _ _ _) ?_
  have hHeld:=KS W (uh R)
  refine wpAnyH_ready (rs:=[8,13]) (by kernel_rfl) (by simp) ?_
  refine AllReadyH.cons (o:=⟨some 97,.call { callee:=.builtin .append,args:=#[.tmp 93,.tmp 96],argTypes:=#[22,22] },_,_,_,none⟩) rfl (fun K hK=>?_) ?_
  ·refine step_appG rowD (by rfl) (.tmp 93) (.tmp 96) (by rfl) U.heap.size q4 c4 ([] ++ us.drop k) ⟨pb,po,none⟩ c (us.take k) n2 k n (uh HLd0) (uh HLt) (uh HLn) (by rfl) (by rfl) (uh O) ((uh HSt).below (uh R)).src (by unfold maxLen;omega) (by omega) (uh R).size ?_
   intro q8 c8 w9 ho9 hb9 hg9 hor9
   refine hK.out _ _ (KS _ ((uh R).trans hb9)) (fun hHeld=>?_)
   clear hK K
   refine Eq.mp (hF _ _ _ _) ?_
   exact dp_to (uh st5 w9 M0 c4 c8 q4 q8 (hide ((uh R).trans hb9)) (hide ho9)) (by kernel_rfl) rfl
  refine AllReadyH.cons (o:=⟨some 15,.alloc 26,_,_,_,none⟩) rfl (fun K hK=>?_) ?_
  ·go_simp
   refine hK.out _ _ (KS _ ((uh R).alloc (uh R).size (.cells #[.int .i64 0,.string ⟨#[]⟩,.slice none 0 0,.slice none 0 0,.int .i64 0,.int .i64 0] 26))) (fun hHeld=>?_)
   clear hK K
   refine Eq.mp (hF _ _ _ _) ?_
   exact dp_to (uh st6 (World.alloc W (.cells #[.int .i64 0,.string ⟨#[]⟩,.slice none 0 0,.slice none 0 0,.int .i64 0,.int .i64 0] 26)) M0 W.heap.size c4 q4 (hide ((uh R).alloc (uh R).size _)) (hide (fun b e=>Nat.ne_of_lt (own_ltD (uh O) (uh HLd0) b e))) (hide (uh R).size) (hide (box_nw _ _)) (hide ((uh O).below (((Below.refl W.heap.size W).alloc (Nat.le_refl _) (.cells #[.int .i64 0,.string ⟨#[]⟩,.slice none 0 0,.slice none 0 0,.int .i64 0,.int .i64 0] 26)))))) (by kernel_rfl) rfl
  exact AllReadyH.nil
  )
 have st8:Hid (∀ (W:World) (M0:Nat) (M13:Nat),Hid (Below U.heap.size U W)→Hid (∀ b,(Value.slice (some ⟨M0,0,none⟩) 0 0).ownBlock=some b→b ≠ M13)→Hid (U.heap.size≤M13)→Hid (W.heap[M13]? = some (.cells #[.int .i64 0,.string ⟨#[]⟩,.slice none 0 0,.slice none 0 0,.int .i64 0,.int .i64 0] 26 (0,0)))→Hid (OwnK encD 26 6 U.heap.size W (some ⟨M0,0,none⟩) 0 [])→F 8 #[true,true,true,true,false,true,true,true,false,false,false,false,false,true,false,false] (Act.mk #[.slice (some ⟨pb,po,none⟩) n c,aa,ab,ac,ad,ae,af,ag,ah,ai,aj,ak,al,am,.int .i64 (k:Int),.pointer (some ⟨M13,0,none⟩),ao,ap,aq,ar,au,av,aw,ax,ay,az,ba,bc,bd,be,bf,bg,bh,bi,bj,bk,bl,bm,bo,bp,bq,br,bs,bt,bu,bv,bw,bx,bz,ca,cb,cc,cd,ce,cf,cg,ch,cj,ck,cl,cm,cn,co,cp,cq,cr,cs,ct,cu,cv,cx,cy,cz,da,db,dc,dd,de,df,dg,dh,di,dj,dk,dl,dm,dn,dp,dq,.slice (some ⟨M0,0,none⟩) 0 0,.slice (some ⟨pb,po,none⟩) n c,.int .i64 (k:Int),.slice (some ⟨pb,po + k * 6,none⟩) n2 c2,dv,.slice (some ⟨pb,po,none⟩) n c,.int .i64 (k:Int),.slice (some ⟨pb,po,none⟩) k c,dz,ea,eb,ec,ed,ee,ef,eg,eh,ei,ej,ek,el,em,en,eo,ep,er,es,et,eu,ev,ew,ex,ey,ez,fa,fb,fc,fd,fe] d) W):=hide (by
  intro W M0 M13 R D G13 H13 O
  refine Eq.mpr (hF _ _ _ _) ?_
  have hHeld:=KS W (uh R)
  refine wpAnyH_ready (rs:=[4]) (by kernel_rfl) (by simp) ?_
  refine AllReadyH.cons (o:=⟨some 93,.call { callee:=.builtin .append,args:=#[.tmp 89,.tmp 92],argTypes:=#[22,22] },_,_,_,none⟩) rfl (fun K hK=>?_) ?_
  ·refine step_appG rowD (by rfl) (.tmp 89) (.tmp 92) (by rfl) U.heap.size (some ⟨M0,0,none⟩) 0 [] ⟨pb,po + k * 6,none⟩ c2 (us.drop k) 0 n2 n2 rfl (uh HLd) (Nat.zero_add _) (by rfl) (by rfl) (uh O) ((uh HSd).below (uh R)).src (by unfold maxLen;omega) (by omega) (uh R).size ?_
   intro q4 c4 w9 ho9 hb9 hg9 hor9
   refine hK.out _ _ (KS _ ((uh R).trans hb9)) (fun hHeld=>?_)
   clear hK K
   refine Eq.mp (hF _ _ _ _) ?_
   exact dp_to (uh st6 w9 M0 M13 c4 q4 (hide ((uh R).trans hb9)) (hide (fun b e=>by rcases hor9 with h9 | h9;exact (uh D) b (h9.symm.trans e);exact (by rw [h9] at e;cases e;exact Nat.ne_of_gt (heap_lt (uh H13))))) G13 (hide ((hg9.block _ (heap_lt (uh H13)) (fun e=>(uh D) _ e.symm rfl)).trans (uh H13))) (hide ho9)) (by kernel_rfl) rfl
  exact AllReadyH.nil
  )
 have st9:Hid (∀ (W:World) (M0:Nat),Hid (Below U.heap.size U W)→Hid (OwnK encD 26 6 U.heap.size W (some ⟨M0,0,none⟩) 0 [])→F 9 #[true,true,true,true,false,true,true,true,false,false,false,false,false,false,false,false] (Act.mk #[.slice (some ⟨pb,po,none⟩) n c,aa,ab,ac,ad,ae,af,ag,ah,ai,aj,ak,al,am,.int .i64 (k:Int),an,ao,ap,aq,ar,au,av,aw,ax,ay,az,ba,bc,bd,be,bf,bg,bh,bi,bj,bk,bl,bm,bo,bp,bq,br,bs,bt,bu,bv,bw,bx,bz,ca,cb,cc,cd,ce,cf,cg,ch,cj,ck,cl,cm,cn,co,cp,cq,cr,cs,ct,cu,cv,cx,cy,cz,da,db,dc,dd,de,df,dg,dh,di,dj,dk,dl,dm,dn,dp,dq,.slice (some ⟨M0,0,none⟩) 0 0,.slice (some ⟨pb,po,none⟩) n c,.int .i64 (k:Int),.slice (some ⟨pb,po + k * 6,none⟩) n2 c2,dv,.slice (some ⟨pb,po,none⟩) n c,.int .i64 (k:Int),.slice (some ⟨pb,po,none⟩) k c,dz,ea,eb,ec,ed,ee,ef,eg,eh,ei,ej,ek,el,em,en,eo,ep,er,es,et,eu,ev,ew,ex,ey,ez,fa,fb,fc,fd,fe] d) W):=hide (by
  intro W M0 R O
  refine Eq.mpr (hF _ _ _ _) ?_
  have hHeld:=KS W (uh R)
  refine wpAnyH_ready (rs:=[4,13]) (by kernel_rfl) (by simp) ?_
  refine AllReadyH.cons (o:=⟨some 93,.call { callee:=.builtin .append,args:=#[.tmp 89,.tmp 92],argTypes:=#[22,22] },_,_,_,none⟩) rfl (fun K hK=>?_) ?_
  ·refine step_appG rowD (by rfl) (.tmp 89) (.tmp 92) (by rfl) U.heap.size (some ⟨M0,0,none⟩) 0 [] ⟨pb,po + k * 6,none⟩ c2 (us.drop k) 0 n2 n2 rfl (uh HLd) (Nat.zero_add _) (by rfl) (by rfl) (uh O) ((uh HSd).below (uh R)).src (by unfold maxLen;omega) (by omega) (uh R).size ?_
   intro q4 c4 w9 ho9 hb9 hg9 hor9
   refine hK.out _ _ (KS _ ((uh R).trans hb9)) (fun hHeld=>?_)
   clear hK K
   refine Eq.mp (hF _ _ _ _) ?_
   exact dp_to (uh st7 w9 M0 c4 q4 (hide ((uh R).trans hb9)) (hide ho9)) (by kernel_rfl) rfl
  refine AllReadyH.cons (o:=⟨some 15,.alloc 26,_,_,_,none⟩) rfl (fun K hK=>?_) ?_
  ·go_simp
   refine hK.out _ _ (KS _ ((uh R).alloc (uh R).size (.cells #[.int .i64 0,.string ⟨#[]⟩,.slice none 0 0,.slice none 0 0,.int .i64 0,.int .i64 0] 26))) (fun hHeld=>?_)
   clear hK K
   refine Eq.mp (hF _ _ _ _) ?_
   exact dp_to (uh st8 (World.alloc W (.cells #[.int .i64 0,.string ⟨#[]⟩,.slice none 0 0,.slice none 0 0,.int .i64 0,.int .i64 0] 26)) M0 W.heap.size (hide ((uh R).alloc (uh R).size _)) (hide (fun b e=>Nat.ne_of_lt (own_ltD (uh O) rfl b e))) (hide (uh R).size) (hide (box_nw _ _)) (hide ((uh O).below (((Below.refl W.heap.size W).alloc (Nat.le_refl _) (.cells #[.int .i64 0,.string ⟨#[]⟩,.slice none 0 0,.slice none 0 0,.int .i64 0,.int .i64 0] 26)))))) (by kernel_rfl) rfl
  exact AllReadyH.nil
  )
 have st10:Hid (∀ (W:World) (M13:Nat),Hid (Below U.heap.size U W)→Hid (U.heap.size≤M13)→Hid (W.heap[M13]? = some (.cells #[.int .i64 0,.string ⟨#[]⟩,.slice none 0 0,.slice none 0 0,.int .i64 0,.int .i64 0] 26 (0,0)))→F 9 #[false,true,true,true,false,true,true,true,false,false,false,false,false,true,false,false] (Act.mk #[.slice (some ⟨pb,po,none⟩) n c,aa,ab,ac,ad,ae,af,ag,ah,ai,aj,ak,al,am,.int .i64 (k:Int),.pointer (some ⟨M13,0,none⟩),ao,ap,aq,ar,au,av,aw,ax,ay,az,ba,bc,bd,be,bf,bg,bh,bi,bj,bk,bl,bm,bo,bp,bq,br,bs,bt,bu,bv,bw,bx,bz,ca,cb,cc,cd,ce,cf,cg,ch,cj,ck,cl,cm,cn,co,cp,cq,cr,cs,ct,cu,cv,cx,cy,cz,da,db,dc,dd,de,df,dg,dh,di,dj,dk,dl,dm,dn,dp,dq,dr,.slice (some ⟨pb,po,none⟩) n c,.int .i64 (k:Int),.slice (some ⟨pb,po + k * 6,none⟩) n2 c2,dv,.slice (some ⟨pb,po,none⟩) n c,.int .i64 (k:Int),.slice (some ⟨pb,po,none⟩) k c,dz,ea,eb,ec,ed,ee,ef,eg,eh,ei,ej,ek,el,em,en,eo,ep,er,es,et,eu,ev,ew,ex,ey,ez,fa,fb,fc,fd,fe] d) W):=hide (by
  intro W M13 R G13 H13
  refine Eq.mpr (hF _ _ _ _) ?_
  have hHeld:=KS W (uh R)
  refine wpAnyH_ready (rs:=[0]) (by kernel_rfl) (by simp) ?_
  refine AllReadyH.cons (o:=⟨some 89,.buildSlice 22 0 #[],_,_,_,none⟩) rfl (fun K hK=>?_) ?_
  ·go_simp
   refine hK.out _ _ (KS _ ((uh R).alloc (uh R).size (.cells #[] 26))) (fun hHeld=>?_)
   clear hK K
   refine Eq.mp (hF _ _ _ _) ?_
   exact dp_to (uh st8 (World.alloc W (.cells #[] 26)) W.heap.size M13 (hide ((uh R).alloc (uh R).size _)) (hide (fun b e=>by cases e;exact Nat.ne_of_gt (heap_lt (uh H13)))) G13 (hide (((((Below.refl W.heap.size W).alloc (Nat.le_refl _) (.cells #[] 26))).block _ (heap_lt (uh H13))).trans (uh H13))) (hide (own_made0 (uh R).size))) (by kernel_rfl) rfl
  exact AllReadyH.nil
  )
 have st11:Hid (∀ (W:World),Hid (Below U.heap.size U W)→F 16 #[false,false,false,false,false,false,false,false,false,false,false,false,false,false,false,false] (Act.mk #[.slice (some ⟨pb,po,none⟩) n c,aa,ab,ac,ad,ae,af,ag,ah,ai,aj,ak,al,am,.int .i64 (k:Int),an,ao,ap,aq,ar,au,av,aw,ax,ay,az,ba,bc,bd,be,bf,bg,bh,bi,bj,bk,bl,bm,bo,bp,bq,br,bs,bt,bu,bv,bw,bx,bz,ca,cb,cc,cd,ce,cf,cg,ch,cj,ck,cl,cm,cn,co,cp,cq,cr,cs,ct,cu,cv,cx,cy,cz,da,db,dc,dd,de,df,dg,dh,di,dj,dk,dl,dm,dn,dp,dq,dr,ds,dt,du,dv,dw,dx,dy,dz,ea,eb,ec,ed,ee,ef,eg,eh,ei,ej,ek,el,em,en,eo,ep,er,es,et,eu,ev,ew,ex,ey,ez,fa,fb,fc,fd,fe] d) W):=hide (by
  intro W R
  refine Eq.mpr (hF _ _ _ _) ?_
  have hHeld:=KS W (uh R)
  refine wpAnyH_take (i:=1) (oi:=⟨some 90,.move (.tmp 0),_,_,_,none⟩) (v:=?_) rfl (by kernel_rfl) (by kernel_rfl) (by kernel_rfl) (fun c a w=>(uh HP) c a _ _ w) (Or.inl ⟨by rfl, ?_⟩) (by assumption) ?_
  rotate_left
  ·intro wq hSw
   go_simp
   with_reducible rfl
  simp only [Act.put,List.setIfInBounds_toArray,List.set_cons_zero,List.set_cons_succ]
  refine wpAnyH_take (i:=2) (oi:=⟨some 91,.move (.tmp 14),_,_,_,none⟩) (v:=?_) rfl (by kernel_rfl) (by kernel_rfl) (by kernel_rfl) (fun c a w=>(uh HP) c a _ _ w) (Or.inl ⟨by rfl, ?_⟩) (by assumption) ?_
  rotate_left
  ·intro wq hSw
   go_simp
   with_reducible rfl
  simp only [Act.put,List.setIfInBounds_toArray,List.set_cons_zero,List.set_cons_succ]
  refine wpAnyH_take (i:=3) (oi:=⟨some 92,.slice 22 (.tmp 90) (some (.tmp 91)) none none,_,_,_,none⟩) (v:=?_) rfl (by kernel_rfl) (by kernel_rfl) (by kernel_rfl) (fun c a w=>(uh HP) c a _ _ w) (Or.inl ⟨by rfl, ?_⟩) (by assumption) ?_
  rotate_left
  ·intro wq hSw
   go_simp
   with_reducible rfl
  simp only [Act.put,List.setIfInBounds_toArray,List.set_cons_zero,List.set_cons_succ]
  refine wpAnyH_take (i:=5) (oi:=⟨some 94,.move (.tmp 0),_,_,_,none⟩) (v:=?_) rfl (by kernel_rfl) (by kernel_rfl) (by kernel_rfl) (fun c a w=>(uh HP) c a _ _ w) (Or.inl ⟨by rfl, ?_⟩) (by assumption) ?_
  rotate_left
  ·intro wq hSw
   go_simp
   with_reducible rfl
  simp only [Act.put,List.setIfInBounds_toArray,List.set_cons_zero,List.set_cons_succ]
  refine wpAnyH_take (i:=6) (oi:=⟨some 95,.move (.tmp 14),_,_,_,none⟩) (v:=?_) rfl (by kernel_rfl) (by kernel_rfl) (by kernel_rfl) (fun c a w=>(uh HP) c a _ _ w) (Or.inl ⟨by rfl, ?_⟩) (by assumption) ?_
  rotate_left
  ·intro wq hSw
   go_simp
   with_reducible rfl
  simp only [Act.put,List.setIfInBounds_toArray,List.set_cons_zero,List.set_cons_succ]
  refine wpAnyH_take (i:=7) (oi:=⟨some 96,.slice 22 (.tmp 94) none (some (.tmp 95)) none,_,_,_,none⟩) (v:=?_) rfl (by kernel_rfl) (by kernel_rfl) (by kernel_rfl) (fun c a w=>(uh HP) c a _ _ w) (Or.inl ⟨by rfl, ?_⟩) (by assumption) ?_
  rotate_left
  ·intro wq hSw
   go_simp
   with_reducible rfl
  simp only [Act.put,List.setIfInBounds_toArray,List.set_cons_zero,List.set_cons_succ]
  refine wpAnyH_ready (rs:=[0,13]) (by kernel_rfl) (by simp) ?_
  refine AllReadyH.cons (o:=⟨some 89,.buildSlice 22 0 #[],_,_,_,none⟩) rfl (fun K hK=>?_) ?_
  ·go_simp
   refine hK.out _ _ (KS _ ((uh R).alloc (uh R).size (.cells #[] 26))) (fun hHeld=>?_)
   clear hK K
   refine Eq.mp (hF _ _ _ _) ?_
   exact dp_to (uh st9 (World.alloc W (.cells #[] 26)) W.heap.size (hide ((uh R).alloc (uh R).size _)) (hide (own_made0 (uh R).size))) (by kernel_rfl) rfl
  refine AllReadyH.cons (o:=⟨some 15,.alloc 26,_,_,_,none⟩) rfl (fun K hK=>?_) ?_
  ·go_simp
   refine hK.out _ _ (KS _ ((uh R).alloc (uh R).size (.cells #[.int .i64 0,.string ⟨#[]⟩,.slice none 0 0,.slice none 0 0,.int .i64 0,.int .i64 0] 26))) (fun hHeld=>?_)
   clear hK K
   refine Eq.mp (hF _ _ _ _) ?_
   exact dp_to (uh st10 (World.alloc W (.cells #[.int .i64 0,.string ⟨#[]⟩,.slice none 0 0,.slice none 0 0,.int .i64 0,.int .i64 0] 26)) W.heap.size (hide ((uh R).alloc (uh R).size _)) (hide (uh R).size) (hide (box_nw _ _))) (by kernel_rfl) rfl
  exact AllReadyH.nil
  )
 exact dp_to (uh st11 _ (hide (Below.refl _ _).drew)) (by kernel_rfl) rfl
end Go.Proofs.YtimklglliffpcaaGreat

/- The law's copied: a script with lists of its own. -/
import Derived.Test.YtdgoibnndfibnaaGreatDoorWS43
import Derived.Test.YtdgoibnndfibnaaGreatDoorWS32
namespace Go.Proofs.YtdgoibnndfibnaaGreatDoor
open Go.RowKit Go.Sort
theorem of7z {W:World} {b:Nat} {a0 a1 a2 a3 a4 a5 a6:Value} {T:TypeId} (h:W.heap[b]? = some (.cells #[a0,a1,a2,a3,a4,a5,a6] T (0,0))):W.cell? ⟨b,0,none⟩=some a0/\W.cell? ⟨b,1,none⟩=some a1/\W.cell? ⟨b,2,none⟩=some a2/\W.cell? ⟨b,3,none⟩=some a3/\W.cell? ⟨b,4,none⟩=some a4/\W.cell? ⟨b,5,none⟩=some a5/\W.cell? ⟨b,6,none⟩=some a6/\∀ o,W.frozen? ⟨b,o,none⟩=false:=by
 obtain ⟨x0,x1,x2,x3,x4,x5,x6⟩:=of7s h
 exact ⟨x0,x1,x2,x3,x4,x5,x6,fun o=>frozen_free h⟩
theorem set7_6 {W:World} {b:Nat} {a0 a1 a2 a3 a4 a5 a6:Value} {T:TypeId} (h:W.heap[b]? = some (.cells #[a0,a1,a2,a3,a4,a5,a6] T (0,0))) (v:Value):(W.setCell ⟨b,6,none⟩ v).heap[b]? = some (.cells #[a0,a1,a2,a3,a4,a5,v] T (0,0)):=by
 simp [World.setCell,Array.getElem?_modify,h]
theorem set7_5 {W:World} {b:Nat} {a0 a1 a2 a3 a4 a5 a6:Value} {T:TypeId} (h:W.heap[b]? = some (.cells #[a0,a1,a2,a3,a4,a5,a6] T (0,0))) (v:Value):(W.setCell ⟨b,5,none⟩ v).heap[b]? = some (.cells #[a0,a1,a2,a3,a4,v,a6] T (0,0)):=by
 simp [World.setCell,Array.getElem?_modify,h]
theorem set10_9 {W:World} {b:Nat} {a0 a1 a2 a3 a4 a5 a6 a7 a8 a9:Value} {T:TypeId} (h:W.heap[b]? = some (.cells #[a0,a1,a2,a3,a4,a5,a6,a7,a8,a9] T (0,0))) (v:Value):(W.setCell ⟨b,9,none⟩ v).heap[b]? = some (.cells #[a0,a1,a2,a3,a4,a5,a6,a7,a8,v] T (0,0)):=by
 simp [World.setCell,Array.getElem?_modify,h]
theorem set10_8 {W:World} {b:Nat} {a0 a1 a2 a3 a4 a5 a6 a7 a8 a9:Value} {T:TypeId} (h:W.heap[b]? = some (.cells #[a0,a1,a2,a3,a4,a5,a6,a7,a8,a9] T (0,0))) (v:Value):(W.setCell ⟨b,8,none⟩ v).heap[b]? = some (.cells #[a0,a1,a2,a3,a4,a5,a6,a7,v,a9] T (0,0)):=by
 simp [World.setCell,Array.getElem?_modify,h]
theorem set_ten {W:World} {b:Nat} {T:TypeId} {a0 a1 a2 a3 a4 a5 a6 a7 a8 a9:Value} (h:W.heap[b]? = some (.cells #[a0,a1,a2,a3,a4,a5,a6,a7,a8,a9] T (0,0))) (v0 v1 v2 v3 v4 v5 v6 v7 v8 v9:Value):(((((((((((W.setCell ⟨b,0,none⟩ v0).setCell ⟨b,1,none⟩ v1).setCell ⟨b,2,none⟩ v2).setCell ⟨b,3,none⟩ v3).setCell ⟨b,4,none⟩ v4).setCell ⟨b,5,none⟩ v5).setCell ⟨b,6,none⟩ v6).setCell ⟨b,7,none⟩ v7).setCell ⟨b,8,none⟩ v8).setCell ⟨b,9,none⟩ v9)).heap[b]? = some (.cells #[v0,v1,v2,v3,v4,v5,v6,v7,v8,v9] T (0,0))/\W.grownBy ((((((((((W.setCell ⟨b,0,none⟩ v0).setCell ⟨b,1,none⟩ v1).setCell ⟨b,2,none⟩ v2).setCell ⟨b,3,none⟩ v3).setCell ⟨b,4,none⟩ v4).setCell ⟨b,5,none⟩ v5).setCell ⟨b,6,none⟩ v6).setCell ⟨b,7,none⟩ v7).setCell ⟨b,8,none⟩ v8).setCell ⟨b,9,none⟩ v9) (some b):=by
 refine ⟨?_,gr_set (gr_set (gr_set (gr_set (gr_set (gr_set (gr_set (gr_set (gr_set (gr_set (gr_refl _ _) _ _) _ _) _ _) _ _) _ _) _ _) _ _) _ _) _ _) _ _⟩
 simp [World.setCell,Array.getElem?_modify,h]
theorem Tryz.info29s:(Tryz.prog.info? 29).map (·.size)=some 10:=by kernel_rfl
/-- A copy of an op: rows of its own, marked room behind each. -/
structure OpCp (B:Nat) (w:World) (u:Ou) (o:Sop):Prop where
 kind:u.kind=o.kind
 who:u.who=o.who
 ck:u.ck=o.ck
 id:u.id=o.id
 text:u.text=o.text
 ne:u.ne=o.ev.length
 nn:u.nn=o.nums.length
 ev:OwnK encQ 78 4 B w u.qe u.ce (o.ev ++ [spP])
 nums:OwnK encI 3 1 B w u.qn u.cn (o.nums ++ spI)
 le:o.ev.length + 1<=u.ce
 ln:o.nums.length + 2<=u.cn
theorem OpCp.below {B:Nat} {w w':World} {u:Ou} {o:Sop} (h:OpCp B w u o) (hb:Below w.heap.size w w'):OpCp B w' u o:=⟨h.1,h.2,h.3,h.4,h.5,h.6,h.7,h.8.below hb,h.9.below hb,h.10,h.11⟩
theorem OpCp.ty {B g:Nat} {T:TypeId} {w w':World} {u:Ou} {o:Sop} {cur:Array Value} {cp:Nat × Nat} (h:OpCp B w u o) (hg:w.grownBy w' (some g)) (hT:w.heap[g]? = some (.cells cur T cp)) (h1:78 ≠ T) (h2:3 ≠ T):OpCp B w' u o:=⟨h.1,h.2,h.3,h.4,h.5,h.6,h.7,h.8.ty hg hT h1,h.9.ty hg hT h2,h.10,h.11⟩
theorem OpCp.other {β:Type} [Inhabited β] {enc2:β->List Value} {e2:TypeId} {k2 B B2:Nat} {w w':World} {q2:Option Addr} {c2:Nat} {l2:List β} {u:Ou} {o:Sop} (h:OpCp B w u o) (h2:OwnK enc2 e2 k2 B2 w q2 c2 l2) (hg:w.grownBy w' (Value.slice q2 l2.length c2).ownBlock) (h3:78 ≠ e2) (h4:3 ≠ e2):OpCp B w' u o:=⟨h.1,h.2,h.3,h.4,h.5,h.6,h.7,h.8.other h2 hg h3,h.9.other h2 hg h4,h.10,h.11⟩
theorem own_less {α:Type} [Inhabited α] {enc:α->List Value} {e:TypeId} {k B:Nat} {w:World} {q:Option Addr} {c:Nat} {l m:List α} (hk:0 < k) (h:OwnK enc e k B w q c (l ++ m)) (hq:q ≠ none):SlOf enc k w q c l:=by
 have h1:=h.ls
 exact ⟨fun e=>absurd e hq,by have:=h1.2.1;simp at this;omega,h1.2.2.1,h1.2.2.2.take hk⟩
theorem OpCp.qe {B:Nat} {w:World} {u:Ou} {o:Sop} (h:OpCp B w u o):∃ g,u.qe=some ⟨g,0,none⟩:=OwnP h.ev
theorem OpCp.qn {B:Nat} {w:World} {u:Ou} {o:Sop} (h:OpCp B w u o):∃ g,u.qn=some ⟨g,0,none⟩:=OwnI h.nums
theorem OpCp.oin {B:Nat} {w:World} {u:Ou} {o:Sop} (h:OpCp B w u o):OpIn w u o:=⟨h.1,h.2,h.3,h.4,h.5,h.6,h.7,own_less (by decide) h.8 (by obtain ⟨g,e⟩:=h.qe;rw [e];simp),own_less (by decide) h.9 (by obtain ⟨g,e⟩:=h.qn;rw [e];simp)⟩
/-- The rows of a copied script. -/
structure CpR (B:Nat) (w:World) (qa:Option Addr) (ca:Nat) (qo:Option Addr) (co:Nat) (us:List Ou) (s:Scr):Prop where
 at':OwnK encAt 62 2 B w qa ca s.attrs
 op:OwnK encO 42 7 B w qo co us
 len:us.length=s.ops.length
 ops:∀ (j:Nat) (u:Ou) (o:Sop),us[j]? = some u->s.ops[j]? = some o->OpCp B w u o
theorem CpR.below {B:Nat} {w w':World} {qa:Option Addr} {ca:Nat} {qo:Option Addr} {co:Nat} {us:List Ou} {s:Scr} (h:CpR B w qa ca qo co us s) (hb:Below w.heap.size w w'):CpR B w' qa ca qo co us s:=⟨h.1.below hb,h.2.below hb,h.3,fun j u o h1 h2=>(h.4 j u o h1 h2).below hb⟩
theorem CpR.ty {B g:Nat} {T:TypeId} {w w':World} {qa:Option Addr} {ca:Nat} {qo:Option Addr} {co:Nat} {us:List Ou} {s:Scr} {cur:Array Value} {cp:Nat × Nat} (h:CpR B w qa ca qo co us s) (hg:w.grownBy w' (some g)) (hT:w.heap[g]? = some (.cells cur T cp)) (h1:78 ≠ T) (h2:3 ≠ T) (h3:42 ≠ T) (h4:62 ≠ T):CpR B w' qa ca qo co us s:=⟨h.1.ty hg hT h4,h.2.ty hg hT h3,h.3,fun j u o h5 h6=>(h.4 j u o h5 h6).ty hg hT h1 h2⟩
theorem CpR.mono {B B':Nat} {w:World} {qa:Option Addr} {ca:Nat} {qo:Option Addr} {co:Nat} {us:List Ou} {s:Scr} (h:CpR B w qa ca qo co us s) (hb:B'<=B):CpR B' w qa ca qo co us s:=⟨h.1.mono hb,h.2.mono hb,h.3,fun j u o h1 h2=>by have h3:=h.4 j u o h1 h2;exact ⟨h3.1,h3.2,h3.3,h3.4,h3.5,h3.6,h3.7,h3.8.mono hb,h3.9.mono hb,h3.10,h3.11⟩⟩
theorem CpR.tx {B:Nat} {w:World} {qa:Option Addr} {ca:Nat} {qo:Option Addr} {co:Nat} {us:List Ou} {s:Scr} (h:CpR B w qa ca qo co us s):TxIn w qa ca qo co us s:=⟨h.1.ls,h.2.ls,h.3,fun j u o h1 h2=>(h.4 j u o h1 h2).oin⟩
/-- A copy under way: its box b, its rows behind it. -/
structure CpS (X W:World) (b:Nat) (n:Nat) (qa:Option Addr) (ca:Nat) (qo:Option Addr) (k co:Nat) (us:List Ou) (s:Scr):Prop where
 bl:Below b X W
 box:W.heap[b]? = some (.cells #[.int .i64 s.cfg.d,.int .i64 s.cfg.c,.int .i64 s.cfg.s,.int .i64 s.cfg.t,.int .i64 s.cfg.h,.int .i64 s.cfg.q,.int .i64 s.cfg.w,.int .i64 s.cfg.u,.slice qa n ca,.slice qo k co] 29 (0,0))
 rows:CpR (b + 1) W qa ca qo co us s
theorem CpS.below {X W W':World} {b n:Nat} {qa:Option Addr} {ca:Nat} {qo:Option Addr} {k co:Nat} {us:List Ou} {s:Scr} (h:CpS X W b n qa ca qo k co us s) (hb:Below W.heap.size W W'):CpS X W' b n qa ca qo k co us s:=⟨below_tr h.bl (hb.mono (Nat.le_of_lt (heap_lt h.box))),blk_onS h.box hb,h.rows.below hb⟩
theorem ops_snoc {B:Nat} {w:World} {us:List Ou} {os:List Sop} {u:Ou} {o:Sop} (hl:us.length=os.length) (h:∀ (j:Nat) (v:Ou) (p:Sop),us[j]? = some v->os[j]? = some p->OpCp B w v p) (h1:OpCp B w u o):∀ (j:Nat) (v:Ou) (p:Sop),(us ++ [u])[j]? = some v->(os ++ [o])[j]? = some p->OpCp B w v p:=by
 intro j v p hv hp
 by_cases hj:j < us.length
 ·rw [List.getElem?_append_left hj] at hv
  rw [List.getElem?_append_left (by omega)] at hp
  exact h j v p hv hp
 ·rw [List.getElem?_append_right (by omega)] at hv
  rw [List.getElem?_append_right (by omega)] at hp
  have hj2:=(List.getElem?_eq_some_iff.1 hv).1
  simp only [List.length_singleton] at hj2
  rw [show j - us.length=0 by omega] at hv
  rw [show j - os.length=0 by omega] at hp
  cases hv;cases hp
  exact h1
/-- What stands behind the growth of the ops' row: the box as it was, the new rows. -/
structure CpT (X W:World) (b:Nat) (n:Nat) (qa:Option Addr) (ca:Nat) (qo:Option Addr) (k co:Nat) (q5:Option Addr) (c5:Nat) (us:List Ou) (s:Scr):Prop where
 bl:Below b X W
 box:W.heap[b]? = some (.cells #[.int .i64 s.cfg.d,.int .i64 s.cfg.c,.int .i64 s.cfg.s,.int .i64 s.cfg.t,.int .i64 s.cfg.h,.int .i64 s.cfg.q,.int .i64 s.cfg.w,.int .i64 s.cfg.u,.slice qa n ca,.slice qo k co] 29 (0,0))
 rows:CpR (b + 1) W qa ca q5 c5 us s
theorem CpS.appOp {X W W':World} {b n:Nat} {qa:Option Addr} {ca:Nat} {qo:Option Addr} {k co:Nat} {us:List Ou} {s:Scr} {q5:Option Addr} {c5:Nat} {u:Ou} {o:Sop} (h:CpS X W b n qa ca qo k co us s) (hk:us.length=k) (hg:W.grownBy W' (Value.slice qo k co).ownBlock) (ho:OwnK encO 42 7 (b + 1) W' q5 c5 (us ++ [u])) (hb:Below (b + 1) W W') (hu:OpCp (b + 1) W u o):CpT X W' b n qa ca qo k co q5 c5 (us ++ [u]) ⟨s.cfg,s.attrs,s.ops ++ [o]⟩:=by
 subst hk
 have hr:=h.rows
 refine ⟨below_tr h.bl (hb.mono (by omega)),(hb.block b (by omega)).trans h.box,hr.at'.other hr.op hg (by decide),ho,by have:=hr.len;simp;omega,ops_snoc hr.len (fun j v p h1 h2=>(hr.ops j v p h1 h2).other hr.op hg (by decide) (by decide)) (hu.other hr.op hg (by decide) (by decide))⟩
theorem CpT.fin {X W:World} {b n:Nat} {qa:Option Addr} {ca:Nat} {qo:Option Addr} {k co:Nat} {q5:Option Addr} {c5:Nat} {us:List Ou} {s:Scr} (h:CpT X W b n qa ca qo k co q5 c5 us s) (k':Nat):CpS X (W.setCell ⟨b,9,none⟩ (.slice q5 k' c5)) b n qa ca q5 k' c5 us s:=by
 have hg:W.grownBy (W.setCell ⟨b,9,none⟩ (.slice q5 k' c5)) (some b):=gr_set (gr_refl _ _) _ _
 exact ⟨below_tr h.bl (below_gr hg (heap_lt h.box)),set10_9 h.box _,h.rows.ty hg h.box (by decide) (by decide) (by decide) (by decide)⟩
set_option maxHeartbeats 8000000 in
set_option maxRecDepth 100000 in
theorem copied_any (w:World) (qa:Option Addr) (ca:Nat) (qo:Option Addr) (co:Nat) (us:List Ou) (s:Scr) (hin:TxIn w qa ca qo co us s) (hat:s.attrs.length<=1000000000) (hop:us.length<=1000000000) (hZ:∀ o ∈ s.ops,o.ev.length<=1000000000/\o.nums.length<=1000000000) :
  Calls Tryz.prog 10 #[.agg #[.int .i64 s.cfg.d,.int .i64 s.cfg.c,.int .i64 s.cfg.s,.int .i64 s.cfg.t,.int .i64 s.cfg.h,.int .i64 s.cfg.q,.int .i64 s.cfg.w,.int .i64 s.cfg.u,.slice qa s.attrs.length ca,.slice qo us.length co]] w fun e w'=>(∃ (qa':Option Addr) (ca':Nat) (qo':Option Addr) (co':Nat) (us':List Ou),e=.returned (.agg #[.int .i64 s.cfg.d,.int .i64 s.cfg.c,.int .i64 s.cfg.s,.int .i64 s.cfg.t,.int .i64 s.cfg.h,.int .i64 s.cfg.q,.int .i64 s.cfg.w,.int .i64 s.cfg.u,.slice qa' s.attrs.length ca',.slice qo' us.length co'])/\us'.length=us.length/\CpR w.heap.size w' qa' ca' qo' co' us' s)/\Below w.heap.size w w':=by
 obtain ⟨X,HX⟩:∃ X,(w.alloc (.cells #[.int .i64 s.cfg.d,.int .i64 s.cfg.c,.int .i64 s.cfg.s,.int .i64 s.cfg.t,.int .i64 s.cfg.h,.int .i64 s.cfg.q,.int .i64 s.cfg.w,.int .i64 s.cfg.u,.slice qa s.attrs.length ca,.slice qo us.length co] 29)).alloc (.cells #[.int .i64 0,.int .i64 0,.int .i64 0,.int .i64 0,.int .i64 0,.int .i64 0,.int .i64 0,.int .i64 0,.slice none 0 0,.slice none 0 0] 29)=X:=⟨_,rfl⟩
 have bX:Below w.heap.size w X:=by rw [<- HX];exact bal (bal (Below.refl _ _) _) _
 have hsz:X.heap.size=w.heap.size + 2:=by rw [<- HX];simp
 have hx:X.heap[w.heap.size]? = some (.cells #[.int .i64 s.cfg.d,.int .i64 s.cfg.c,.int .i64 s.cfg.s,.int .i64 s.cfg.t,.int .i64 s.cfg.h,.int .i64 s.cfg.q,.int .i64 s.cfg.w,.int .i64 s.cfg.u,.slice qa s.attrs.length ca,.slice qo us.length co] 29 (0,0)):=by rw [<- HX];exact blk_onS (box_new w _) ((Below.refl _ _).alloc (Nat.le_refl _) _)
 have hy:X.heap[w.heap.size + 1]? = some (.cells #[.int .i64 0,.int .i64 0,.int .i64 0,.int .i64 0,.int .i64 0,.int .i64 0,.int .i64 0,.int .i64 0,.slice none 0 0,.slice none 0 0] 29 (0,0)):=by
  rw [<- HX]
  have h:=box_new (w.alloc (.cells #[.int .i64 s.cfg.d,.int .i64 s.cfg.c,.int .i64 s.cfg.s,.int .i64 s.cfg.t,.int .i64 s.cfg.h,.int .i64 s.cfg.q,.int .i64 s.cfg.w,.int .i64 s.cfg.u,.slice qa s.attrs.length ca,.slice qo us.length co] 29)) (.cells #[.int .i64 0,.int .i64 0,.int .i64 0,.int .i64 0,.int .i64 0,.int .i64 0,.int .i64 0,.int .i64 0,.slice none 0 0,.slice none 0 0] 29)
  rw [show (w.alloc (.cells #[.int .i64 s.cfg.d,.int .i64 s.cfg.c,.int .i64 s.cfg.s,.int .i64 s.cfg.t,.int .i64 s.cfg.h,.int .i64 s.cfg.q,.int .i64 s.cfg.w,.int .i64 s.cfg.u,.slice qa s.attrs.length ca,.slice qo us.length co] 29)).heap.size=w.heap.size + 1 by simp] at h
  exact h
 obtain ⟨V,HV⟩:∃ V,X.alloc (.cells #[.int .i64 s.cfg.d,.int .i64 s.cfg.c,.int .i64 s.cfg.s,.int .i64 s.cfg.t,.int .i64 s.cfg.h,.int .i64 s.cfg.q,.int .i64 s.cfg.w,.int .i64 s.cfg.u,.slice qa s.attrs.length ca,.slice qo us.length co] 29)=V:=⟨_,rfl⟩
 have bV:Below X.heap.size X V:=by rw [<- HV];exact (Below.refl _ _).alloc (Nat.le_refl _) _
 have hv:V.heap[X.heap.size]? = some (.cells #[.int .i64 s.cfg.d,.int .i64 s.cfg.c,.int .i64 s.cfg.s,.int .i64 s.cfg.t,.int .i64 s.cfg.h,.int .i64 s.cfg.q,.int .i64 s.cfg.w,.int .i64 s.cfg.u,.slice qa s.attrs.length ca,.slice qo us.length co] 29 (0,0)):=by rw [<- HV];exact box_new _ _
 obtain ⟨U,HU⟩:∃ U,V.alloc (.cells #[] 62)=U:=⟨_,rfl⟩
 have bU:Below V.heap.size V U:=by rw [<- HU];exact (Below.refl _ _).alloc (Nat.le_refl _) _
 have BU:=hide bU
 have HOM:=hide (show OwnK encAt 62 2 (X.heap.size + 1) U (some ⟨V.heap.size,0,none⟩) 0 [] by rw [<- HU];exact OwnK.made _ V (heap_lt hv))
 have HIN:=hide hin
 have BX:=hide bX
 have HXB:=hide hx
 have HYB:=hide hy
 have HVB:=hide hv
 have BV:=hide bV
 have HZ:=hide hZ
 have e1:¬ X.heap.size=w.heap.size:=by omega
 have e2:¬ w.heap.size=X.heap.size:=by omega
 have e3:¬ X.heap.size=w.heap.size + 1:=by omega
 have e4:¬ w.heap.size + 1=X.heap.size:=by omega
 have e5:X.heap.size < V.heap.size:=heap_lt hv
 have e6:¬ V.heap.size=X.heap.size:=by omega
 have e7:¬ X.heap.size=V.heap.size:=by omega
 have e8:¬ V.heap.size=w.heap.size:=by omega
 have e9:¬ w.heap.size=V.heap.size:=by omega
 have HSZ:=hide hsz
 have a0:(us.length:Int)<=1000000000:=by omega
 obtain ⟨xa0,xa1,xa2,xa3,xa4,xa5,xa6,xa7,xa8,xa9,xaf⟩:=of10z hx
 obtain ⟨x0,x1,x2,x3,x4,x5,x6,x7,x8,x9,xf⟩:=of10z (blk_onS (blk_onS hx bV) bU)
 obtain ⟨y0,y1,y2,y3,y4,y5,y6,y7,y8,y9,yf⟩:=of10z (blk_onS hv bU)
 have e10:V.heap.size<=U.heap.size:=bU.size
 clear bU hin bX hx hy hv bV hsz hZ
 go_enter Tryz.func10,Tryz.ntmps10
 go_wp2_with (at_builtin;refine wpList_app rowAt rfl _ _ rfl (X.heap.size + 1) (some ⟨V.heap.size,0,none⟩) 0 [] qa ca s.attrs 0 s.attrs.length s.attrs.length rfl rfl (by simp) rfl rfl (uh HOM) (((uh HIN).below (below_sub (uh BX) (below_sub (uh BV) (uh BU)))).at'.src) (by unfold maxLen;omega) (by omega) (by omega) ?_;intro q5 c5 w5 o5 bl5 _ g5;have O5:=hide o5;have B5:=hide bl5;have hbx5:=blk_onS (blk_onS (uh HXB) (uh BV)) (uh BU);have hby5:=blk_onS (uh HVB) (uh BU);clear x0 x1 x2 x3 x4 x5 x6 x7 x8 x9 xf y0 y1 y2 y3 y4 y5 y6 y7 y8 y9 yf xa0 xa1 xa2 xa3 xa4 xa5 xa6 xa7 xa8 xa9 xaf o5 bl5 g5;obtain ⟨x0,x1,x2,x3,x4,x5,x6,x7,x8,x9,xf⟩:=of10z (((uh B5).block w.heap.size (by have:=uh HSZ;omega)).trans hbx5);obtain ⟨y0,y1,y2,y3,y4,y5,y6,y7,y8,y9,yf⟩:=of10z (((uh B5).block X.heap.size (by omega)).trans hby5);have HB3:=hide (((uh B5).block X.heap.size (by omega)).trans hby5);clear hbx5 hby5)
 go_loopw [16] (fun i wr=>∃ (k:Nat) (qo':Option Addr) (co':Nat) (us':List Ou),k<=us.length/\i=.int .i64 (k:Int)/\Hid (us'.length=k)/\Hid (CpS X wr X.heap.size s.attrs.length q5 c5 qo' k co' us' ⟨s.cfg,s.attrs,s.ops.take k⟩)) (fun i _=>us.length - (intOf i).toNat)
 case atStart =>
  refine ⟨0,none,0,[],Nat.zero_le _,rfl,hide rfl,hide ?_⟩
  have hb:=uh HB3
  have g8:w5.grownBy (w5.setCell ⟨X.heap.size,8,none⟩ (.slice q5 s.attrs.length c5)) (some X.heap.size):=gr_set (gr_refl _ _) _ _
  have h8:=set10_8 hb (.slice q5 s.attrs.length c5)
  have g9:(w5.setCell ⟨X.heap.size,8,none⟩ (.slice q5 s.attrs.length c5)).grownBy ((w5.setCell ⟨X.heap.size,8,none⟩ (.slice q5 s.attrs.length c5)).setCell ⟨X.heap.size,9,none⟩ (.slice none 0 0)) (some X.heap.size):=gr_set (gr_refl _ _) _ _
  have b5:Below X.heap.size X w5:=below_tr (below_sub (uh BV) (uh BU)) ((uh B5).mono (by omega))
  refine ⟨below_tr (below_tr b5 (below_gr g8 (heap_lt hb))) (below_gr g9 (heap_lt h8)),set10_9 h8 _,⟨((uh O5).ty g8 hb (by decide)).ty g9 h8 (by decide),OwnK.nil _ _,by simp,fun j u o hj _=>by simp at hj⟩⟩
 case round =>
  clear x0 x1 x2 x3 x4 x5 x6 x7 x8 x9 xf y0 y1 y2 y3 y4 y5 y6 y7 y8 y9 yf
  obtain ⟨k,qo',co',us',hk,rfl,HL,HP⟩:=hrel
  by_cases hlt:k < us.length
  ·obtain ⟨u,hu,_⟩:=get_at hlt
   obtain ⟨o,ho,_⟩:=get_at (show k < s.ops.length by have:=(uh HIN).len;omega)
   have bwr:Below w.heap.size w wr:=below_sub (uh BX) (uh HP).bl
   have htx:=(uh HIN).below bwr
   have hoi:=htx.ops k u o hu ho
   obtain ⟨b,off,hq,hb1,c0,c1,c2,c3,c4,c5x,c6⟩:=opsAt htx.op hu
   have hz:=uh HZ o (List.mem_of_getElem? ho)
   have hm1:=fun (W:World) (hW:Below wr.heap.size wr W)=>(hoi.below hW).nn ▸ memI u.qn u.cn o.nums W (hoi.below hW).nums (by omega)
   have hm2:=fun (W:World) (hW:Below wr.heap.size wr W)=>(hoi.below hW).ne ▸ memP u.qe u.ce o.ev W (hoi.below hW).ev (by omega)
   obtain ⟨Y,HY⟩:∃ Y,wr.alloc (.cells #[.int .i64 u.kind,.int .i64 u.who,.int .i64 u.ck,.int .i64 u.id,.string u.text,.slice u.qe u.ne u.ce,.slice u.qn u.nn u.cn] 42)=Y:=⟨_,rfl⟩
   have bY:Below wr.heap.size wr Y:=by rw [<- HY];exact (Below.refl _ _).alloc (Nat.le_refl _) _
   have hY:Y.heap[wr.heap.size]? = some (.cells #[.int .i64 u.kind,.int .i64 u.who,.int .i64 u.ck,.int .i64 u.id,.string u.text,.slice u.qe u.ne u.ce,.slice u.qn u.nn u.cn] 42 (0,0)):=by rw [<- HY];exact box_new _ _
   obtain ⟨l0,l1,l2,l3,l4,l5,l6,lf⟩:=of7z hY
   have HM1:=hide hm1
   have HM2:=hide hm2
   have BY:=hide bY
   have HYB:=hide hY
   have HOI:=hide hoi
   have HTK:=hide (take_snoc_of ho)
   have ki0:(0:Int)<=(k:Int):=by omega
   have ki1:(k:Int) < (us.length:Int):=by omega
   clear hm1 hm2 bY hY hoi htx bwr hu ho hz
   go_wp2_with (first
    | (at_builtin;refine wpList_app rowO rfl _ _ rfl (X.heap.size + 1) qo' co' us' (some ⟨Z2.heap.size,0,none⟩) 1 [{ u with qe:=some ⟨g2,0,none⟩,ce:=cp2,qn:=some ⟨g1,0,none⟩,cn:=cp1 }] k 1 (k + 1) (uh HL) rfl rfl rfl rfl ((uh PZ).rows.op.below ((Below.refl _ _).alloc (Nat.le_refl _) _)) (one_op Z2 { u with qe:=some ⟨g2,0,none⟩,ce:=cp2,qn:=some ⟨g1,0,none⟩,cn:=cp1 }).src (by unfold maxLen;omega) (by omega) (by simp;omega) ?_;intro q5' c5' w5' o5 bl5 _ g5;have P7:=hide (((uh PZ).below (Below.alloc (Below.refl _ _) (Nat.le_refl _) _)).appOp (uh HL) g5 o5 bl5 ((uh OP).below (Below.alloc (Below.refl _ _) (Nat.le_refl _) _)));clear y0 y1 y2 y3 y4 y5 y6 y7 y8 y9 yf o5 bl5 g5;obtain ⟨y0,y1,y2,y3,y4,y5,y6,y7,y8,y9,yf⟩:=of10z (uh P7).box)
    | (go_at_call 24;refine (uh HM2 _ (uh BZ1)).mono ?_;rintro e w2 ⟨⟨g2,cp2,rfl,o2,le2⟩,b2⟩;obtain ⟨Z2,HZ2⟩:∃ Z,w2.setCell ⟨wr.heap.size,5,none⟩ (.slice (some ⟨g2,0,none⟩) u.ne cp2)=Z:=⟨_,rfl⟩;have hw2:=blk_onS (uh HZB) b2;have hgz:w2.grownBy Z2 (some wr.heap.size):=(by rw [<- HZ2];exact gr_set (gr_refl _ _) _ _);have hZ2:Z2.heap[wr.heap.size]? = some (.cells #[.int .i64 u.kind,.int .i64 u.who,.int .i64 u.ck,.int .i64 u.id,.string u.text,.slice (some ⟨g2,0,none⟩) u.ne cp2,.slice (some ⟨g1,0,none⟩) u.nn cp1] 42 (0,0)):=(by rw [<- HZ2];exact set7_5 hw2 _);have bz:Below wr.heap.size wr Z2:=below_tr (below_sub (uh BZ1) b2) (below_gr hgz (heap_lt hw2));have O2:=hide ((o2.mono (uh BZ1).size).ty hgz hw2 (by decide));have O3:=hide (((uh O1).below b2).ty hgz hw2 (by decide));have PZ:=hide ((uh HP).below bz);have LE2:=hide le2;have hxs:X.heap.size < wr.heap.size:=heap_lt (uh HP).box;have hzs:wr.heap.size < Z2.heap.size:=heap_lt hZ2;have OP:=hide (show OpCp (X.heap.size + 1) Z2 { u with qe:=some ⟨g2,0,none⟩,ce:=cp2,qn:=some ⟨g1,0,none⟩,cn:=cp1 } o from ⟨(uh HOI).kind,(uh HOI).who,(uh HOI).ck,(uh HOI).id,(uh HOI).text,(uh HOI).ne,(uh HOI).nn,(uh O2).mono (by omega),(uh O3).mono (by omega),(show o.ev.length + 1<=cp2 from (by rw [<- (uh HOI).ne];exact uh LE2)),(show o.nums.length + 2<=cp1 from (by rw [<- (uh HOI).nn];exact uh LE1))⟩);clear l0 l1 l2 l3 l4 l5 l6 lf m0 m1 m2 m3 m4 m5 m6 mf;obtain ⟨l0,l1,l2,l3,l4,l5,l6,lf⟩:=of7z hw2;obtain ⟨m0,m1,m2,m3,m4,m5,m6,mf⟩:=of7z hZ2;obtain ⟨y0,y1,y2,y3,y4,y5,y6,y7,y8,y9,yf⟩:=of10z (uh PZ).box;have d1:¬ wr.heap.size=X.heap.size:=(by omega);have d2:¬ X.heap.size=wr.heap.size:=(by omega);have d3:¬ Z2.heap.size=X.heap.size:=(by omega);have d4:¬ X.heap.size=Z2.heap.size:=(by omega);have d5:X.heap.size < Z2.heap.size:=(by omega);clear hw2 hgz hZ2 bz o2 b2 le2)
    | (go_at_call 23;refine (uh HM1 _ (uh BY)).mono ?_;rintro e w1 ⟨⟨g1,cp1,rfl,o1,le1⟩,b1⟩;obtain ⟨Z1,HZ1⟩:∃ Z,w1.setCell ⟨wr.heap.size,6,none⟩ (.slice (some ⟨g1,0,none⟩) u.nn cp1)=Z:=⟨_,rfl⟩;have hw1:=blk_onS (uh HYB) b1;have hgz:w1.grownBy Z1 (some wr.heap.size):=(by rw [<- HZ1];exact gr_set (gr_refl _ _) _ _);have hZ1:Z1.heap[wr.heap.size]? = some (.cells #[.int .i64 u.kind,.int .i64 u.who,.int .i64 u.ck,.int .i64 u.id,.string u.text,.slice u.qe u.ne u.ce,.slice (some ⟨g1,0,none⟩) u.nn cp1] 42 (0,0)):=(by rw [<- HZ1];exact set7_6 hw1 _);have bz:Below wr.heap.size wr Z1:=below_tr (below_sub (uh BY) b1) (below_gr hgz (heap_lt hw1));have O1:=hide ((o1.mono (uh BY).size).ty hgz hw1 (by decide));have BZ1:=hide bz;have HZB:=hide hZ1;have LE1:=hide le1;clear l0 l1 l2 l3 l4 l5 l6 lf;obtain ⟨l0,l1,l2,l3,l4,l5,l6,lf⟩:=of7z hw1;obtain ⟨m0,m1,m2,m3,m4,m5,m6,mf⟩:=of7z hZ1;clear hw1 hgz hZ1 bz o1 b1 le1))
   go_roundw
   case rel=>exact ⟨k + 1,by omega,by go_num,q5',c5',us' ++ [{ u with qe:=some ⟨g2,0,none⟩,ce:=cp2,qn:=some ⟨g1,0,none⟩,cn:=cp1 }],hide (by have:=uh HL;simp;omega),hide (by rw [uh HTK];exact (uh P7).fin (k + 1))⟩
   case measure=>simp [intOf];omega
  ·obtain rfl:k=us.length:=by omega
   have ki1:¬ (us.length:Int) < (us.length:Int):=by omega
   have hb2:=blk_onS (uh HYB) (uh HP).bl
   obtain ⟨y0,y1,y2,y3,y4,y5,y6,y7,y8,y9,yf⟩:=of10z (uh HP).box
   obtain ⟨z0,z1,z2,z3,z4,z5,z6,z7,z8,z9,zf⟩:=of10z hb2
   have HB2:=hide hb2
   have e11:¬ w.heap.size + 1=X.heap.size:=by have:=uh HSZ;omega
   obtain ⟨hres,hg⟩:=set_ten hb2 (.int .i64 s.cfg.d) (.int .i64 s.cfg.c) (.int .i64 s.cfg.s) (.int .i64 s.cfg.t) (.int .i64 s.cfg.h) (.int .i64 s.cfg.q) (.int .i64 s.cfg.w) (.int .i64 s.cfg.u) (.slice q5 s.attrs.length c5) (.slice qo' us.length co')
   have hrow:=(uh HP).rows.ty hg hb2 (by decide) (by decide) (by decide) (by decide)
   have hbel:Below w.heap.size wr ((((((((((wr.setCell ⟨w.heap.size + 1,0,none⟩ (.int .i64 s.cfg.d)).setCell ⟨w.heap.size + 1,1,none⟩ (.int .i64 s.cfg.c)).setCell ⟨w.heap.size + 1,2,none⟩ (.int .i64 s.cfg.s)).setCell ⟨w.heap.size + 1,3,none⟩ (.int .i64 s.cfg.t)).setCell ⟨w.heap.size + 1,4,none⟩ (.int .i64 s.cfg.h)).setCell ⟨w.heap.size + 1,5,none⟩ (.int .i64 s.cfg.q)).setCell ⟨w.heap.size + 1,6,none⟩ (.int .i64 s.cfg.w)).setCell ⟨w.heap.size + 1,7,none⟩ (.int .i64 s.cfg.u)).setCell ⟨w.heap.size + 1,8,none⟩ (.slice q5 s.attrs.length c5)).setCell ⟨w.heap.size + 1,9,none⟩ (.slice qo' us.length co')):=(below_gr hg (heap_lt hb2)).mono (by omega)
   obtain ⟨W7,HW7⟩:∃ Z,((((((((((wr.setCell ⟨w.heap.size + 1,0,none⟩ (.int .i64 s.cfg.d)).setCell ⟨w.heap.size + 1,1,none⟩ (.int .i64 s.cfg.c)).setCell ⟨w.heap.size + 1,2,none⟩ (.int .i64 s.cfg.s)).setCell ⟨w.heap.size + 1,3,none⟩ (.int .i64 s.cfg.t)).setCell ⟨w.heap.size + 1,4,none⟩ (.int .i64 s.cfg.h)).setCell ⟨w.heap.size + 1,5,none⟩ (.int .i64 s.cfg.q)).setCell ⟨w.heap.size + 1,6,none⟩ (.int .i64 s.cfg.w)).setCell ⟨w.heap.size + 1,7,none⟩ (.int .i64 s.cfg.u)).setCell ⟨w.heap.size + 1,8,none⟩ (.slice q5 s.attrs.length c5)).setCell ⟨w.heap.size + 1,9,none⟩ (.slice qo' us.length co'))=Z:=⟨_,rfl⟩
   rw [HW7] at hres hrow hbel
   have hfull:s.ops.take us.length=s.ops:=List.take_of_length_le (by have:=(uh HIN).len;omega)
   rw [hfull] at hrow
   have HRES:=hide hres
   have HROW:=hide hrow
   have HBEL:=hide hbel
   clear hb2 hres hg hrow hbel hfull
   go_wp2
   refine bodyPost_ret (results_cell_row rfl _ _ (w.heap.size + 1) 29 _ (0,0) _ rfl (uh HRES) Tryz.underlying29 rfl Tryz.info29s) rfl ?_
   refine ⟨⟨_,_,_,_,rfl,us',uh HL, ?_⟩, ?_⟩
   ·have h1:=(uh HROW).mono (B':=w.heap.size) (by have:=uh HSZ;omega)
    exact h1
   ·exact below_tr (below_sub (uh BX) (uh HP).bl) (uh HBEL)
end Go.Proofs.YtdgoibnndfibnaaGreatDoor

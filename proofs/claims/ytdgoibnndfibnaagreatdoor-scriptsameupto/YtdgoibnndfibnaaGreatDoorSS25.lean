/- A line is added: what stands in memory. -/
import Derived.Test.YtdgoibnndfibnaaGreatDoorSZak
namespace Go.Proofs.YtdgoibnndfibnaaGreatDoor
open Go.RowKit Go.Sort
theorem below_none {w w':World} (h:w.grownBy w' none):Below w.heap.size w w':=⟨h.os,h.tape,h.output,h.size,fun k hk=>h.block k hk (by intro e;cases e)⟩
theorem below_gr {w w':World} {sb:Nat} (h:w.grownBy w' (some sb)) (hs:sb < w.heap.size):Below sb w w':=⟨h.os,h.tape,h.output,h.size,fun k hk=>h.block k (by omega) (by intro e;injection e with e;omega)⟩
theorem below_tr {B:Nat} {w w' w'':World} (h:Below B w w') (h2:Below B w' w''):Below B w w'':=h.trans h2
theorem of10s {W:World} {b:Nat} {a0 a1 a2 a3 a4 a5 a6 a7 a8 a9:Value} {T:TypeId} (h:W.heap[b]? = some (.cells #[a0,a1,a2,a3,a4,a5,a6,a7,a8,a9] T (0,0))):W.cell? ⟨b,8,none⟩=some a8/\W.cell? ⟨b,9,none⟩=some a9/\∀ o,W.frozen? ⟨b,o,none⟩=false:=by
 refine ⟨?_, ?_,fun o=>?_⟩
 ·unfold World.cell?;simp [h]
 ·unfold World.cell?;simp [h]
 ·unfold World.frozen?;simp [h]
theorem of8a {W:World} {b:Nat} {a0 a1 a2 a3 a4 a5 a6 a7 a8 a9:Value} {T:TypeId} (h:W.heap[b]? = some (.cells #[a0,a1,a2,a3,a4,a5,a6,a7,a8,a9] T (0,0))):W.cell? ⟨b,0,none⟩=some a0/\W.cell? ⟨b,1,none⟩=some a1/\W.cell? ⟨b,2,none⟩=some a2/\W.cell? ⟨b,3,none⟩=some a3/\W.cell? ⟨b,4,none⟩=some a4/\W.cell? ⟨b,5,none⟩=some a5/\W.cell? ⟨b,6,none⟩=some a6/\W.cell? ⟨b,7,none⟩=some a7:=by
 refine ⟨?_, ?_, ?_, ?_, ?_, ?_, ?_, ?_⟩ <;> (unfold World.cell?;simp [h])
theorem of2s {W:World} {b:Nat} {a0 a1:Value} {T:TypeId} (h:W.heap[b]? = some (.cells #[a0,a1] T (0,0))):W.cell? ⟨b,0,none⟩=some a0/\W.cell? ⟨b,1,none⟩=some a1:=by
 refine ⟨?_, ?_⟩
 ·unfold World.cell?;simp [h]
 ·unfold World.cell?;simp [h]
/-- The box sb of a script that is being read, a box a beside it. -/
structure AdS (w W:World) (sb:Nat) (C:Array Value) (a:Nat) (Z:Array Value) (T:TypeId) (qa:Option Addr) (ca:Nat) (qo:Option Addr) (co:Nat) (us:List Ou) (s:Scr):Prop where
 bl:Below sb w W
 box:W.heap[sb]? = some (.cells C 29 (0,0))
 loc:W.heap[a]? = some (.cells Z T (0,0))
 rows:Rows (sb + 1) W qa ca qo co us s
theorem AdS.below {w W W':World} {sb a:Nat} {C Z:Array Value} {T:TypeId} {qa:Option Addr} {ca:Nat} {qo:Option Addr} {co:Nat} {us:List Ou} {s:Scr} (h:AdS w W sb C a Z T qa ca qo co us s) (hb:Below W.heap.size W W'):AdS w W' sb C a Z T qa ca qo co us s:=⟨below_tr h.bl (hb.mono (Nat.le_of_lt (heap_lt h.box))),blk_onS h.box hb,blk_onS h.loc hb,h.rows.below hb⟩
theorem AdS.like {w W W':World} {sb a:Nat} {C Z:Array Value} {T:TypeId} {qa:Option Addr} {ca:Nat} {qo:Option Addr} {co:Nat} {us:List Ou} {s:Scr} (h:AdS w W sb C a Z T qa ca qo co us s) (e1:W'.heap=W.heap) (e2:W'.os=W.os) (e3:W'.tape=W.tape) (e4:W'.output=W.output):AdS w W' sb C a Z T qa ca qo co us s:=h.below ⟨e2,e3,e4,by rw [e1];exact Nat.le_refl _,fun k _=>by rw [e1]⟩
theorem AdS.set {w W:World} {sb a:Nat} {C Z:Array Value} {T:TypeId} {qa:Option Addr} {ca:Nat} {qo:Option Addr} {co:Nat} {us:List Ou} {s:Scr} (h:AdS w W sb C a Z T qa ca qo co us s) (hne:a ≠ sb) (i:Nat) (v:Value):AdS w (W.setCell ⟨sb,i,none⟩ v) sb (C.set! i v) a Z T qa ca qo co us s:=by
 have hg:W.grownBy (W.setCell ⟨sb,i,none⟩ v) (some sb):=gr_set (gr_refl _ _) i v
 refine ⟨below_tr h.bl (below_gr hg (heap_lt h.box)), ?_,(hg.block a (heap_lt h.loc) (by intro e;injection e with e;exact hne e)).trans h.loc,h.rows.ty hg h.box (by decide) (by decide) (by decide) (by decide)⟩
 have:=h.box
 simp [World.setCell,Array.getElem?_modify,this]
theorem own_lt {α:Type} [Inhabited α] {enc:α->List Value} {e:TypeId} {k B:Nat} {w:World} {q:Option Addr} {c:Nat} {l:List α} (h:OwnK enc e k B w q c l):∀ g,(Value.slice q l.length c).ownBlock=some g->B<=g/\g < w.heap.size:=by
 intro g hg
 rcases h.2 with h0 | ⟨g',cp',cur',hv,hB,hblk,hr⟩
 ·rw [h0.1] at hg;cases hg
 ·rw [hv] at hg
  injection hg with hg
  subst hg
  exact ⟨hB,heap_lt hblk⟩
theorem AdS.appAt {w W W':World} {sb a:Nat} {C Z:Array Value} {T:TypeId} {qa:Option Addr} {ca:Nat} {qo:Option Addr} {co:Nat} {us:List Ou} {s:Scr} {q5:Option Addr} {c5:Nat} {x:ByteArray × Int} (h:AdS w W sb C a Z T qa ca qo co us s) (hg:W.grownBy W' (Value.slice qa s.attrs.length ca).ownBlock) (ho:OwnK encAt 62 2 (sb + 1) W' q5 c5 (s.attrs ++ [x])) (hb:Below (sb + 1) W W') (hne:∀ g,(Value.slice qa s.attrs.length ca).ownBlock=some g->g ≠ a):AdS w W' sb C a Z T q5 c5 qo co us ⟨s.cfg,s.attrs ++ [x],s.ops⟩:=by
 refine ⟨below_tr h.bl (hb.mono (by omega)),(hb.block sb (by omega)).trans h.box,(hg.block a (heap_lt h.loc) (by intro e;exact hne a e.symm rfl)).trans h.loc,ho,h.rows.op.other h.rows.at' hg (by decide),h.rows.ops.map fun _ _ h2=>h2.other h.rows.at' hg (by decide) (by decide)⟩
theorem AdS.appOp {w W W':World} {sb a:Nat} {C Z:Array Value} {T:TypeId} {qa:Option Addr} {ca:Nat} {qo:Option Addr} {co:Nat} {us:List Ou} {s:Scr} {q5:Option Addr} {c5:Nat} {u:Ou} {o:Sop} (h:AdS w W sb C a Z T qa ca qo co us s) (hg:W.grownBy W' (Value.slice qo us.length co).ownBlock) (ho:OwnK encO 42 7 (sb + 1) W' q5 c5 (us ++ [u])) (hb:Below (sb + 1) W W') (hne:∀ g,(Value.slice qo us.length co).ownBlock=some g->g ≠ a) (hu:OpOwn (sb + 1) W u o):AdS w W' sb C a Z T qa ca q5 c5 (us ++ [u]) ⟨s.cfg,s.attrs,s.ops ++ [o]⟩:=by
 refine ⟨below_tr h.bl (hb.mono (by omega)),(hb.block sb (by omega)).trans h.box,(hg.block a (heap_lt h.loc) (by intro e;exact hne a e.symm rfl)).trans h.loc,h.rows.at'.other h.rows.op hg (by decide),ho,OpsO.snoc (h.rows.ops.map fun _ _ h2=>h2.other h.rows.op hg (by decide) (by decide)) (hu.other h.rows.op hg (by decide) (by decide))⟩
/-- A script in the box sb. -/
def InB (w:World) (sb:Nat) (s:Scr):Prop:=∃ (qa:Option Addr) (ca:Nat) (qo:Option Addr) (co:Nat) (us:List Ou),w.heap[sb]? = some (.cells #[.int .i64 s.cfg.d,.int .i64 s.cfg.c,.int .i64 s.cfg.s,.int .i64 s.cfg.t,.int .i64 s.cfg.h,.int .i64 s.cfg.q,.int .i64 s.cfg.w,.int .i64 s.cfg.u,.slice qa s.attrs.length ca,.slice qo us.length co] 29 (0,0))/\Rows (sb + 1) w qa ca qo co us s
/-- What a line that is added leaves. -/
def AddP (w:World) (sb:Nat) (s:Scr) (n:Nat) (L:Bs) (e:Ending) (w':World):Prop :=
 e=.returned (.bool (addS s n L).isSome)/\Below sb w w'/\∀ s',addS s n L=some s'->InB w' sb s'
theorem set_eight {w:World} {b:Nat} {T:TypeId} {a0 a1 a2 a3 a4 a5 a6 a7 a8 a9 v0 v1 v2 v3 v4 v5 v6 v7:Value} (h:w.heap[b]? = some (.cells #[a0,a1,a2,a3,a4,a5,a6,a7,a8,a9] T (0,0))):((((((((w.setCell ⟨b,0,none⟩ v0).setCell ⟨b,1,none⟩ v1).setCell ⟨b,2,none⟩ v2).setCell ⟨b,3,none⟩ v3).setCell ⟨b,4,none⟩ v4).setCell ⟨b,5,none⟩ v5).setCell ⟨b,6,none⟩ v6).setCell ⟨b,7,none⟩ v7).heap[b]? = some (.cells #[v0,v1,v2,v3,v4,v5,v6,v7,a8,a9] T (0,0)):=by
 simp [World.setCell,Array.getElem?_modify,h]
set_option maxHeartbeats 8000000 in
set_option maxRecDepth 100000 in
theorem add_1 (w0:World) (hG:G w0) (sb:Nat) (s:Scr) (L:Bs) (w:World) (hw:Below w0.heap.size w0 w) (h0:w0.heap.size<=sb) (hs:InB w sb s) (hz:L.length<=1000000000000) (line:ByteArray) (hl:line=⟨L.toArray⟩) (b:Bool) (hb:decide (cfgB (rdCfg (nextW L).2)=L)=b) :
  Calls Tryz.prog 41 #[.pointer (some ⟨sb,0,none⟩),.int .i64 1,.string line] w fun e w'=>AddP w sb s 1 L e w':=by
 obtain ⟨qa,ca,qo,co,us,hbx,hrw⟩:=hs
 obtain ⟨X,HX⟩:∃ X,w.alloc (.cells #[.string line] 117)=X:=⟨_,rfl⟩
 have bX:Below w.heap.size w X:=by rw [<- HX];exact (Below.refl _ _).alloc (Nat.le_refl _) _
 have hX:X.heap[w.heap.size]? = some (.cells #[.string line] 117 (0,0)):=by rw [<- HX];exact box_new _ _
 have hRd:Rd X w.heap.size L:=by unfold Rd;rw [<- hl];exact hX
 have hN:=next_any w.heap.size L X hRd (by omega)
 obtain ⟨x,hx⟩:∃ x:ByteArray,(⟨(nextW L).1.toArray⟩:ByteArray)=x:=⟨_,rfl⟩
 rw [hx] at hN
 obtain ⟨cf,hcf⟩:∃ c,rdCfg (nextW L).2=c:=⟨_,rfl⟩
 have hI:∀ n ∈ cf.l,I64 n:=by rw [<- hcf];exact rdCfg_I _
 have hC:=fun W hW hR=>config_any w0 hG w.heap.size (nextW L).2 W hW (Nat.le_trans h0 (Nat.le_of_lt (heap_lt hbx))) hR (by have:=nextW_le L;omega)
 rw [hcf] at hC hb
 unfold Cfg.val at hC
 have hadd:addS s 1 L=if b=true then some ⟨cf,s.attrs,s.ops⟩ else none:=by
  unfold addS
  rw [if_pos rfl,hcf]
  cases b with
  | true=>rw [if_pos (of_decide_eq_true hb),if_pos rfl]
  | false=>rw [if_neg (of_decide_eq_false hb),if_neg (by decide)]
 obtain ⟨A,hA⟩:∃ A:ByteArray,(⟨(cfgB cf).toArray⟩:ByteArray)=A:=⟨_,rfl⟩
 have e2:(A.toList == line.toList)=b:=by
  rw [<- hb]
  by_cases he:cfgB cf=L
  ·rw [decide_eq_true he,<- hA,hl,he];simp
  ·rw [decide_eq_false he,beq_eq_false_iff_ne]
   intro h2
   have h3:=ba_ext h2
   rw [<- hA,hl] at h3
   exact he (by have:=congrArg Lb h3;rwa [lb_mk,lb_mk] at this)
 have hL:=fun W hW=>configLine_any cf W hW hI
 rw [hA] at hL
 unfold Cfg.val at hL
 have hsb:=heap_lt hbx
 have hwg:w0.heap.size<=w.heap.size:=hw.size
 have HN:=hide hN
 have HC:=hide hC
 have HL:=hide hL
 have HADD:=hide hadd
 have HBX:=hide hbx
 have HRW:=hide hrw
 have HB:=hide bX
 have HW:=hide hw
 have HG:=hide hG
 have n1:¬ w.heap.size=sb:=by omega
 clear hN hC hL hX hRd hadd hbx hrw bX hw hG hA hI hb hcf hx hl
 go_enter Tryz.func41,Tryz.ntmps41
 go_wp2_with (first
  | (go_at_call 70;refine (uh HN).mono ?_;rintro e w1 ⟨rfl,s1⟩;have R1:=hide s1;clear s1)
  | (go_at_call 71;refine (uh HC _ ((uh HW).trans ((below_tr (uh HB) (gr_below (uh R1).gr (Nat.le_refl _) (uh HB).size)).mono hwg)) (uh R1).rd).mono ?_;rintro e w2 ⟨rfl,s2⟩;have HT:=hide (below_tr (uh HB) (gr_below ((uh R1).gr.trans s2.gr) (Nat.le_refl _) (uh HB).size));have BX2:=hide (blk_onS (uh HBX) (uh HT));have sf:=(of10s (uh BX2)).2.2;obtain ⟨c0,c1,c2,c3,c4,c5,c6,c7⟩:=of8a (uh BX2);clear s2)
  | (go_at_call 26;refine (uh HL _ (G_below (uh HG) ((uh HW).trans ((below_gr (gr_set (gr_set (gr_set (gr_set (gr_set (gr_set (gr_set (gr_set (gr_of (uh HT) (some sb)) _ _) _ _) _ _) _ _) _ _) _ _) _ _) _ _) hsb).mono h0)))).mono ?_;rintro e w3 ⟨rfl,b3⟩))
 go_ret
 refine ⟨by rw [uh HADD];cases b <;> rfl,below_tr (below_gr (gr_set (gr_set (gr_set (gr_set (gr_set (gr_set (gr_set (gr_set (gr_of (uh HT) (some sb)) _ _) _ _) _ _) _ _) _ _) _ _) _ _) _ _) hsb) (b3.mono ?_), ?_⟩
 ·exact Nat.le_of_lt (heap_lt (set_eight (uh BX2)))
 ·intro s' hs'
  rw [uh HADD] at hs'
  cases b with
  | false=>cases hs'
  | true =>
   injection hs' with hs'
   subst hs'
   have h8:=set_eight (v0:=.int .i64 cf.d) (v1:=.int .i64 cf.c) (v2:=.int .i64 cf.s) (v3:=.int .i64 cf.t) (v4:=.int .i64 cf.h) (v5:=.int .i64 cf.q) (v6:=.int .i64 cf.w) (v7:=.int .i64 cf.u) (uh BX2)
   have r8:=((uh HRW).below (uh HT)).ty (gr_set (gr_set (gr_set (gr_set (gr_set (gr_set (gr_set (gr_set (gr_refl _ _) 0 (.int .i64 cf.d)) 1 (.int .i64 cf.c)) 2 (.int .i64 cf.s)) 3 (.int .i64 cf.t)) 4 (.int .i64 cf.h)) 5 (.int .i64 cf.q)) 6 (.int .i64 cf.w)) 7 (.int .i64 cf.u)) (uh BX2) (by decide) (by decide) (by decide) (by decide)
   have r9:=r8.below b3
   exact ⟨qa,ca,qo,co,us,blk_onS h8 b3,⟨r9.1,r9.2,r9.3⟩⟩
end Go.Proofs.YtdgoibnndfibnaaGreatDoor

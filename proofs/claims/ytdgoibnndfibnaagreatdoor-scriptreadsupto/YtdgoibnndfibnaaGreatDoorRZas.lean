/- A line is added: what stands in memory. -/
import Derived.Test.YtdgoibnndfibnaaGreatDoorRZap
import Derived.Test.YtdgoibnndfibnaaGreatDoorRZaf
import Derived.Shelf.SlLaysF0
import Derived.Shelf.SlicesE.Clone
import Derived.Shelf.SlicesQ.Contains
import Derived.Test.YtdgoibnndfibnaaGreatDoorProg
import Derived.Shelf.SlSortCmp.WholeK
namespace Go.Proofs.YtdgoibnndfibnaaGreatDoor
open Go.RowKit Go.Sort
theorem below_none {w w':World} (h:w.grownBy w' none):Below w.heap.size w w':=⟨h.os,h.tape,h.output,h.size,fun k hk=>h.block k hk (by intro e;cases e)⟩
theorem below_gr {w w':World} {sb:Nat} (h:w.grownBy w' (some sb)) (hs:sb < w.heap.size):Below sb w w':=⟨h.os,h.tape,h.output,h.size,fun k hk=>h.block k (by omega) (by intro e;injection e with e;omega)⟩
theorem below_tr {B:Nat} {w w' w'':World} (h:Below B w w') (h2:Below B w' w''):Below B w w'':=h.trans h2
theorem of10s {W:World} {b:Nat} {a0 a1 a2 a3 a4 a5 a6 a7 a8 a9:Value} {T:TypeId} (h:W.heap[b]? = some (.cells #[a0,a1,a2,a3,a4,a5,a6,a7,a8,a9] T (0,0))):W.cell? ⟨b,8,none⟩=some a8/\W.cell? ⟨b,9,none⟩=some a9/\∀ o,W.frozen? ⟨b,o,none⟩=false:=by
 refine ⟨?_, ?_,fun o=>?_⟩
 ·unfold World.cell?;simp [h]
 ·unfold World.cell?;simp [h]
 ·unfold World.frozen?;simp [h]
theorem of8a {W:World} {b:Nat} {a0 a1 a2 a3 a4 a5 a6 a7 a8 a9:Value} {T:TypeId} (h:W.heap[b]? = some (.cells #[a0,a1,a2,a3,a4,a5,a6,a7,a8,a9] T (0,0))):W.cell? ⟨b,0,none⟩=some a0/\W.cell? ⟨b,1,none⟩=some a1/\W.cell? ⟨b,2,none⟩=some a2/\W.cell? ⟨b,3,none⟩=some a3/\W.cell? ⟨b,4,none⟩=some a4/\W.cell? ⟨b,5,none⟩=some a5/\W.cell? ⟨b,6,none⟩=some a6/\W.cell? ⟨b,7,none⟩=some a7:=by
 refine ⟨?_, ?_, ?_, ?_, ?_, ?_, ?_, ?_⟩ <;> (unfold World.cell?;simp [h])
theorem of2s {W:World} {b:Nat} {a0 a1:Value} {T:TypeId} (h:W.heap[b]? = some (.cells #[a0,a1] T (0,0))):W.cell? ⟨b,0,none⟩=some a0/\W.cell? ⟨b,1,none⟩=some a1:=by
 refine ⟨?_, ?_⟩
 ·unfold World.cell?;simp [h]
 ·unfold World.cell?;simp [h]
/-- The box sb of a script that is being read, a box a beside it. -/
structure AdS (w W:World) (sb:Nat) (C:Array Value) (a:Nat) (Z:Array Value) (T:TypeId) (qa:Option Addr) (ca:Nat) (qo:Option Addr) (co:Nat) (us:List Ou) (s:Scr):Prop where
 bl:Below sb w W
 box:W.heap[sb]? = some (.cells C 29 (0,0))
 loc:W.heap[a]? = some (.cells Z T (0,0))
 rows:Rows (sb + 1) W qa ca qo co us s
theorem AdS.below {w W W':World} {sb a:Nat} {C Z:Array Value} {T:TypeId} {qa:Option Addr} {ca:Nat} {qo:Option Addr} {co:Nat} {us:List Ou} {s:Scr} (h:AdS w W sb C a Z T qa ca qo co us s) (hb:Below W.heap.size W W'):AdS w W' sb C a Z T qa ca qo co us s:=⟨below_tr h.bl (hb.mono (Nat.le_of_lt (heap_lt h.box))),blk_onS h.box hb,blk_onS h.loc hb,h.rows.below hb⟩
theorem AdS.like {w W W':World} {sb a:Nat} {C Z:Array Value} {T:TypeId} {qa:Option Addr} {ca:Nat} {qo:Option Addr} {co:Nat} {us:List Ou} {s:Scr} (h:AdS w W sb C a Z T qa ca qo co us s) (e1:W'.heap=W.heap) (e2:W'.os=W.os) (e3:W'.tape=W.tape) (e4:W'.output=W.output):AdS w W' sb C a Z T qa ca qo co us s:=h.below ⟨e2,e3,e4,by rw [e1];exact Nat.le_refl _,fun k _=>by rw [e1]⟩
theorem AdS.set {w W:World} {sb a:Nat} {C Z:Array Value} {T:TypeId} {qa:Option Addr} {ca:Nat} {qo:Option Addr} {co:Nat} {us:List Ou} {s:Scr} (h:AdS w W sb C a Z T qa ca qo co us s) (hne:a ≠ sb) (i:Nat) (v:Value):AdS w (W.setCell ⟨sb,i,none⟩ v) sb (C.set! i v) a Z T qa ca qo co us s:=by
 have hg:W.grownBy (W.setCell ⟨sb,i,none⟩ v) (some sb):=gr_set (gr_refl _ _) i v
 refine ⟨below_tr h.bl (below_gr hg (heap_lt h.box)), ?_,(hg.block a (heap_lt h.loc) (by intro e;injection e with e;exact hne e)).trans h.loc,h.rows.ty hg h.box (by decide) (by decide) (by decide) (by decide)⟩
 have:=h.box
 simp [World.setCell,Array.getElem?_modify,this]
theorem own_lt {α:Type} [Inhabited α] {enc:α->List Value} {e:TypeId} {k B:Nat} {w:World} {q:Option Addr} {c:Nat} {l:List α} (h:OwnK enc e k B w q c l):∀ g,(Value.slice q l.length c).ownBlock=some g->B<=g/\g < w.heap.size:=by
 intro g hg
 rcases h.2 with h0 | ⟨g',cp',cur',hv,hB,hblk,hr⟩
 ·rw [h0.1] at hg;cases hg
 ·rw [hv] at hg
  injection hg with hg
  subst hg
  exact ⟨hB,heap_lt hblk⟩
theorem AdS.appAt {w W W':World} {sb a:Nat} {C Z:Array Value} {T:TypeId} {qa:Option Addr} {ca:Nat} {qo:Option Addr} {co:Nat} {us:List Ou} {s:Scr} {q5:Option Addr} {c5:Nat} {x:ByteArray × Int} (h:AdS w W sb C a Z T qa ca qo co us s) (hg:W.grownBy W' (Value.slice qa s.attrs.length ca).ownBlock) (ho:OwnK encAt 62 2 (sb + 1) W' q5 c5 (s.attrs ++ [x])) (hb:Below (sb + 1) W W') (hne:∀ g,(Value.slice qa s.attrs.length ca).ownBlock=some g->g ≠ a):AdS w W' sb C a Z T q5 c5 qo co us ⟨s.cfg,s.attrs ++ [x],s.ops⟩:=by
 refine ⟨below_tr h.bl (hb.mono (by omega)),(hb.block sb (by omega)).trans h.box,(hg.block a (heap_lt h.loc) (by intro e;exact hne a e.symm rfl)).trans h.loc,ho,h.rows.op.other h.rows.at' hg (by decide),h.rows.ops.map fun _ _ h2=>h2.other h.rows.at' hg (by decide) (by decide)⟩
theorem AdS.appOp {w W W':World} {sb a:Nat} {C Z:Array Value} {T:TypeId} {qa:Option Addr} {ca:Nat} {qo:Option Addr} {co:Nat} {us:List Ou} {s:Scr} {q5:Option Addr} {c5:Nat} {u:Ou} {o:Sop} (h:AdS w W sb C a Z T qa ca qo co us s) (hg:W.grownBy W' (Value.slice qo us.length co).ownBlock) (ho:OwnK encO 42 7 (sb + 1) W' q5 c5 (us ++ [u])) (hb:Below (sb + 1) W W') (hne:∀ g,(Value.slice qo us.length co).ownBlock=some g->g ≠ a) (hu:OpOwn (sb + 1) W u o):AdS w W' sb C a Z T qa ca q5 c5 (us ++ [u]) ⟨s.cfg,s.attrs,s.ops ++ [o]⟩:=by
 refine ⟨below_tr h.bl (hb.mono (by omega)),(hb.block sb (by omega)).trans h.box,(hg.block a (heap_lt h.loc) (by intro e;exact hne a e.symm rfl)).trans h.loc,h.rows.at'.other h.rows.op hg (by decide),ho,OpsO.snoc (h.rows.ops.map fun _ _ h2=>h2.other h.rows.op hg (by decide) (by decide)) (hu.other h.rows.op hg (by decide) (by decide))⟩
/-- A script in the box sb. -/
def InB (w:World) (sb:Nat) (s:Scr):Prop:=∃ (qa:Option Addr) (ca:Nat) (qo:Option Addr) (co:Nat) (us:List Ou),w.heap[sb]? = some (.cells #[.int .i64 s.cfg.d,.int .i64 s.cfg.c,.int .i64 s.cfg.s,.int .i64 s.cfg.t,.int .i64 s.cfg.h,.int .i64 s.cfg.q,.int .i64 s.cfg.w,.int .i64 s.cfg.u,.slice qa s.attrs.length ca,.slice qo us.length co] 29 (0,0))/\Rows (sb + 1) w qa ca qo co us s
/-- What a line that is added leaves. -/
def AddP (w:World) (sb:Nat) (s:Scr) (n:Nat) (L:Bs) (e:Ending) (w':World):Prop :=
 e=.returned (.bool (addS s n L).isSome)/\Below sb w w'/\∀ s',addS s n L=some s'->InB w' sb s'
theorem set_eight {w:World} {b:Nat} {T:TypeId} {a0 a1 a2 a3 a4 a5 a6 a7 a8 a9 v0 v1 v2 v3 v4 v5 v6 v7:Value} (h:w.heap[b]? = some (.cells #[a0,a1,a2,a3,a4,a5,a6,a7,a8,a9] T (0,0))):((((((((w.setCell ⟨b,0,none⟩ v0).setCell ⟨b,1,none⟩ v1).setCell ⟨b,2,none⟩ v2).setCell ⟨b,3,none⟩ v3).setCell ⟨b,4,none⟩ v4).setCell ⟨b,5,none⟩ v5).setCell ⟨b,6,none⟩ v6).setCell ⟨b,7,none⟩ v7).heap[b]? = some (.cells #[v0,v1,v2,v3,v4,v5,v6,v7,a8,a9] T (0,0)):=by
 simp [World.setCell,Array.getElem?_modify,h]
set_option maxHeartbeats 8000000 in
set_option maxRecDepth 100000 in
theorem add_1 (w0:World) (hG:G w0) (sb:Nat) (s:Scr) (L:Bs) (w:World) (hw:Below w0.heap.size w0 w) (h0:w0.heap.size<=sb) (hs:InB w sb s) (hz:L.length<=1000000000000) (line:ByteArray) (hl:line=⟨L.toArray⟩) (b:Bool) (hb:decide (cfgB (rdCfg (nextW L).2)=L)=b) :
  Calls Tryz.prog 41 #[.pointer (some ⟨sb,0,none⟩),.int .i64 1,.string line] w fun e w'=>AddP w sb s 1 L e w':=by
 obtain ⟨qa,ca,qo,co,us,hbx,hrw⟩:=hs
 obtain ⟨X,HX⟩:∃ X,w.alloc (.cells #[.string line] 117)=X:=⟨_,rfl⟩
 have bX:Below w.heap.size w X:=by rw [<- HX];exact (Below.refl _ _).alloc (Nat.le_refl _) _
 have hX:X.heap[w.heap.size]? = some (.cells #[.string line] 117 (0,0)):=by rw [<- HX];exact box_new _ _
 have hRd:Rd X w.heap.size L:=by unfold Rd;rw [<- hl];exact hX
 have hN:=next_any w.heap.size L X hRd (by omega)
 obtain ⟨x,hx⟩:∃ x:ByteArray,(⟨(nextW L).1.toArray⟩:ByteArray)=x:=⟨_,rfl⟩
 rw [hx] at hN
 obtain ⟨cf,hcf⟩:∃ c,rdCfg (nextW L).2=c:=⟨_,rfl⟩
 have hI:∀ n ∈ cf.l,I64 n:=by rw [<- hcf];exact rdCfg_I _
 have hC:=fun W hW hR=>config_any w0 hG w.heap.size (nextW L).2 W hW (Nat.le_trans h0 (Nat.le_of_lt (heap_lt hbx))) hR (by have:=nextW_le L;omega)
 rw [hcf] at hC hb
 unfold Cfg.val at hC
 have hadd:addS s 1 L=if b=true then some ⟨cf,s.attrs,s.ops⟩ else none:=by
  unfold addS
  rw [if_pos rfl,hcf]
  cases b with
  | true=>rw [if_pos (of_decide_eq_true hb),if_pos rfl]
  | false=>rw [if_neg (of_decide_eq_false hb),if_neg (by decide)]
 obtain ⟨A,hA⟩:∃ A:ByteArray,(⟨(cfgB cf).toArray⟩:ByteArray)=A:=⟨_,rfl⟩
 have e2:(A.toList == line.toList)=b:=by
  rw [<- hb]
  by_cases he:cfgB cf=L
  ·rw [decide_eq_true he,<- hA,hl,he];simp
  ·rw [decide_eq_false he,beq_eq_false_iff_ne]
   intro h2
   have h3:=ba_ext h2
   rw [<- hA,hl] at h3
   exact he (by have:=congrArg Lb h3;rwa [lb_mk,lb_mk] at this)
 have hL:=fun W hW=>configLine_any cf W hW hI
 rw [hA] at hL
 unfold Cfg.val at hL
 have hsb:=heap_lt hbx
 have hwg:w0.heap.size<=w.heap.size:=hw.size
 have HN:=hide hN
 have HC:=hide hC
 have HL:=hide hL
 have HADD:=hide hadd
 have HBX:=hide hbx
 have HRW:=hide hrw
 have HB:=hide bX
 have HW:=hide hw
 have HG:=hide hG
 have n1:¬ w.heap.size=sb:=by omega
 clear hN hC hL hX hRd hadd hbx hrw bX hw hG hA hI hb hcf hx hl
 go_enter Tryz.func41,Tryz.ntmps41
 go_wp2_with (first
  | (go_at_call 70;refine (uh HN).mono ?_;rintro e w1 ⟨rfl,s1⟩;have R1:=hide s1;clear s1)
  | (go_at_call 71;refine (uh HC _ ((uh HW).trans ((below_tr (uh HB) (gr_below (uh R1).gr (Nat.le_refl _) (uh HB).size)).mono hwg)) (uh R1).rd).mono ?_;rintro e w2 ⟨rfl,s2⟩;have HT:=hide (below_tr (uh HB) (gr_below ((uh R1).gr.trans s2.gr) (Nat.le_refl _) (uh HB).size));have BX2:=hide (blk_onS (uh HBX) (uh HT));have sf:=(of10s (uh BX2)).2.2;obtain ⟨c0,c1,c2,c3,c4,c5,c6,c7⟩:=of8a (uh BX2);clear s2)
  | (go_at_call 26;refine (uh HL _ (G_below (uh HG) ((uh HW).trans ((below_gr (gr_set (gr_set (gr_set (gr_set (gr_set (gr_set (gr_set (gr_set (gr_of (uh HT) (some sb)) _ _) _ _) _ _) _ _) _ _) _ _) _ _) _ _) hsb).mono h0)))).mono ?_;rintro e w3 ⟨rfl,b3⟩))
 go_ret
 refine ⟨by rw [uh HADD];cases b <;> rfl,below_tr (below_gr (gr_set (gr_set (gr_set (gr_set (gr_set (gr_set (gr_set (gr_set (gr_of (uh HT) (some sb)) _ _) _ _) _ _) _ _) _ _) _ _) _ _) _ _) hsb) (b3.mono ?_), ?_⟩
 ·exact Nat.le_of_lt (heap_lt (set_eight (uh BX2)))
 ·intro s' hs'
  rw [uh HADD] at hs'
  cases b with
  | false=>cases hs'
  | true =>
   injection hs' with hs'
   subst hs'
   have h8:=set_eight (v0:=.int .i64 cf.d) (v1:=.int .i64 cf.c) (v2:=.int .i64 cf.s) (v3:=.int .i64 cf.t) (v4:=.int .i64 cf.h) (v5:=.int .i64 cf.q) (v6:=.int .i64 cf.w) (v7:=.int .i64 cf.u) (uh BX2)
   have r8:=((uh HRW).below (uh HT)).ty (gr_set (gr_set (gr_set (gr_set (gr_set (gr_set (gr_set (gr_set (gr_refl _ _) 0 (.int .i64 cf.d)) 1 (.int .i64 cf.c)) 2 (.int .i64 cf.s)) 3 (.int .i64 cf.t)) 4 (.int .i64 cf.h)) 5 (.int .i64 cf.q)) 6 (.int .i64 cf.w)) 7 (.int .i64 cf.u)) (uh BX2) (by decide) (by decide) (by decide) (by decide)
   have r9:=r8.below b3
   exact ⟨qa,ca,qo,co,us,blk_onS h8 b3,⟨r9.1,r9.2,r9.3⟩⟩
end Go.Proofs.YtdgoibnndfibnaaGreatDoor
namespace Go.Proofs.YtdgoibnndfibnaaGreatDoor.Sc
open Go.RowKit
/-- The block b holds one value, and may be written. -/
def Box (w:World) (b:Nat) (x:Int × Int × ByteArray):Prop :=
 w.cell? ⟨b,0,none⟩=some (.int .i64 x.1)/\w.cell? ⟨b,1,none⟩=some (.int .i64 x.2.1)/\w.cell? ⟨b,2,none⟩=some (.string x.2.2)/\(∀ o,w.frozen? ⟨b,o,none⟩=false)/\b < w.heap.size
theorem Box.belowAt {B:Nat} {w w':World} {b:Nat} {x:Int × Int × ByteArray} (h:Box w b x) (hb:Below B w w') (hB:b < B):Box w' b x:=by
 obtain ⟨h1,h2,h3,h4,h5⟩:=h
 exact ⟨(hb.cell (by exact hB)).trans h1,(hb.cell (by exact hB)).trans h2,(hb.cell (by exact hB)).trans h3,fun o=>(hb.frozen (by exact hB)).trans (h4 o),Nat.lt_of_lt_of_le h5 hb.size⟩
theorem Box.below {w w':World} {b:Nat} {x:Int × Int × ByteArray} (h:Box w b x) (hb:Below w.heap.size w w'):Box w' b x:=h.belowAt hb h.2.2.2.2
def put3 (w:World) (b:Nat) (y:Int × Int × ByteArray):World:=((w.setCell ⟨b,0,none⟩ (.int .i64 y.1)).setCell ⟨b,1,none⟩ (.int .i64 y.2.1)).setCell ⟨b,2,none⟩ (.string y.2.2)
theorem Box.put {w:World} {b:Nat} {x:Int × Int × ByteArray} (h:Box w b x) (y:Int × Int × ByteArray):Box (put3 w b y) b y:=by
 obtain ⟨h1,h2,h3,h4,h5⟩:=h
 unfold put3
 refine ⟨?_, ?_, ?_,fun o=>?_, ?_⟩
 ·go_simp
 ·go_simp
 ·go_simp
 ·go_simp
 ·simpa [World.setCell] using h5
theorem Box.new (w:World) (x:Int × Int × ByteArray) (t:TypeId):Box (w.alloc (.cells #[.int .i64 x.1,.int .i64 x.2.1,.string x.2.2] t)) w.heap.size x:=by
 refine ⟨?_, ?_, ?_,fun o=>?_,by simp⟩ <;> simp
theorem Box.alloc {w:World} {b:Nat} {x:Int × Int × ByteArray} (h:Box w b x) (o:Obj):Box (w.alloc o) b x:=h.below ((Below.refl _ _).alloc (Nat.le_refl _) _)
end Go.Proofs.YtdgoibnndfibnaaGreatDoor.Sc
namespace Go.Proofs
open Go.Shelf
def Tryz.cloneA_ren:Go.Shelf.Ren:=⟨fun | 41=>80 | n=>n,fun | 22=>26 | 23=>62 | 4=>4 | n=>n,fun | n=>n⟩
theorem Tryz.cloneA:Go.Proofs.SlLaysE0.n41 Tryz.prog Tryz.cloneA_ren:={
 mixed:=by kernel_rfl
 f41:=⟨Tryz.f80.name,by decide,Tryz.func80.trans (congrArg some (by kernel_rfl))⟩
 t4:=Tryz.underlying4
 a4:=Tryz.isAgg4
 z4:=Tryz.sizeOf4
 v4:=Tryz.zeroValue4
 t22:=Tryz.underlying26
 a22:=Tryz.isAgg26
 z22:=Tryz.sizeOf26
 v22:=Tryz.zeroValue26 }
def Tryz.sortA_ren:Go.Shelf.Ren:=⟨fun | 6=>81 | 15=>110 | 14=>109 | 28=>138 | 29=>139 | 20=>130 | 21=>131 | 22=>132 | 23=>133 | 24=>134 | 25=>135 | 26=>136 | 27=>137 | 46=>151 | 47=>152 | 48=>153 | 49=>154 | 50=>155 | 57=>167 | n=>n,fun | 22=>26 | 24=>62 | 25=>126 | 3=>3 | 39=>146 | 0=>0 | 53=>166 | 55=>113 | 4=>4 | 46=>160 | 45=>159 | 50=>155 | 5=>5 | 9=>9 | 66=>172 | 70=>176 | 76=>192 | 77=>193 | n=>n,fun | n=>n⟩
theorem Tryz.sortA:Go.Proofs.SlLaysF0.n6 Tryz.prog Tryz.sortA_ren:={
 mixed:=by kernel_rfl
 f6:=⟨Tryz.f81.name,by decide,Tryz.func81.trans (congrArg some (by kernel_rfl))⟩
 f14:=⟨Tryz.f109.name,by decide,Tryz.func109.trans (congrArg some (by kernel_rfl))⟩
 f15:=Tryz.func110.trans (congrArg some (by kernel_rfl))
 f20:=⟨Tryz.f130.name,by decide,Tryz.func130.trans (congrArg some (by kernel_rfl))⟩
 f21:=⟨Tryz.f131.name,by decide,Tryz.func131.trans (congrArg some (by kernel_rfl))⟩
 f22:=⟨Tryz.f132.name,by decide,Tryz.func132.trans (congrArg some (by kernel_rfl))⟩
 f23:=⟨Tryz.f133.name,by decide,Tryz.func133.trans (congrArg some (by kernel_rfl))⟩
 f24:=⟨Tryz.f134.name,by decide,Tryz.func134.trans (congrArg some (by kernel_rfl))⟩
 f25:=⟨Tryz.f135.name,by decide,Tryz.func135.trans (congrArg some (by kernel_rfl))⟩
 f26:=⟨Tryz.f136.name,by decide,Tryz.func136.trans (congrArg some (by kernel_rfl))⟩
 f27:=⟨Tryz.f137.name,by decide,Tryz.func137.trans (congrArg some (by kernel_rfl))⟩
 f28:=Tryz.func138.trans (congrArg some (by kernel_rfl))
 f29:=Tryz.func139.trans (congrArg some (by kernel_rfl))
 f46:=⟨Tryz.f151.name,by decide,Tryz.func151.trans (congrArg some (by kernel_rfl))⟩
 f47:=Tryz.func152.trans (congrArg some (by kernel_rfl))
 f48:=Tryz.func153.trans (congrArg some (by kernel_rfl))
 f49:=⟨Tryz.f154.name,by decide,Tryz.func154.trans (congrArg some (by kernel_rfl))⟩
 f50:=⟨Tryz.f155.name,by decide,Tryz.func155.trans (congrArg some (by kernel_rfl))⟩
 f57:=⟨Tryz.f167.name,by decide,Tryz.func167.trans (congrArg some (by kernel_rfl))⟩
 t0:=Tryz.underlying0
 a0:=Tryz.isAgg0
 z0:=Tryz.sizeOf0
 v0:=Tryz.zeroValue0
 t3:=Tryz.underlying3
 a3:=Tryz.isAgg3
 z3:=Tryz.sizeOf3
 v3:=Tryz.zeroValue3
 t4:=Tryz.underlying4
 a4:=Tryz.isAgg4
 z4:=Tryz.sizeOf4
 v4:=Tryz.zeroValue4
 t5:=Tryz.underlying5
 a5:=Tryz.isAgg5
 z5:=Tryz.sizeOf5
 v5:=Tryz.zeroValue5
 t9:=Tryz.underlying9
 a9:=Tryz.isAgg9
 z9:=Tryz.sizeOf9
 v9:=Tryz.zeroValue9
 t22:=Tryz.underlying26
 a22:=Tryz.isAgg26
 z22:=Tryz.sizeOf26
 v22:=Tryz.zeroValue26
 t25:=Tryz.underlying126
 a25:=Tryz.isAgg126
 z25:=Tryz.sizeOf126
 v25:=Tryz.zeroValue126
 t39:=Tryz.underlying146
 a39:=Tryz.isAgg146
 z39:=Tryz.sizeOf146
 v39:=Tryz.zeroValue146
 t45:=Tryz.underlying159
 a45:=Tryz.isAgg159
 z45:=Tryz.sizeOf159
 v45:=Tryz.zeroValue159
 t46:=Tryz.underlying160
 a46:=Tryz.isAgg160
 z46:=Tryz.sizeOf160
 v46:=Tryz.zeroValue160
 t50:=Tryz.underlying155
 a50:=Tryz.isAgg155
 z50:=Tryz.sizeOf155
 v50:=Tryz.zeroValue155
 t53:=Tryz.underlying166
 a53:=Tryz.isAgg166
 z53:=Tryz.sizeOf166
 v53:=Tryz.zeroValue166
 t55:=Tryz.underlying113
 a55:=Tryz.isAgg113
 z55:=Tryz.sizeOf113
 v55:=Tryz.zeroValue113
 t66:=Tryz.underlying172
 a66:=Tryz.isAgg172
 z66:=Tryz.sizeOf172
 v66:=Tryz.zeroValue172
 t70:=Tryz.underlying176
 a70:=Tryz.isAgg176
 z70:=Tryz.sizeOf176
 v70:=Tryz.zeroValue176
 t76:=Tryz.underlying192
 a76:=Tryz.isAgg192
 z76:=Tryz.sizeOf192
 v76:=Tryz.zeroValue192
 t77:=Tryz.underlying193
 a77:=Tryz.isAgg193
 z77:=Tryz.sizeOf193
 v77:=Tryz.zeroValue193 }
end Go.Proofs
namespace Go.Proofs.YtdgoibnndfibnaaGreatDoor.Sc
open Go.RowKit Go.Sort Go.Shelf
def encA (x:ByteArray × Int):List Value:=[.string x.1,.int .i64 x.2]
def encP (x:ByteArray × Int × Int × ByteArray):List Value:=[.string x.1,.int .i64 x.2.1,.int .i64 x.2.2.1,.string x.2.2.2]
def cfA (x y:ByteArray × Int):Int:=cmpS x.1.toList y.1.toList
theorem attrName_any (x:ByteArray × Int) (w:World) :
  Calls Tryz.prog 54 #[.agg #[.string x.1,.int .i64 x.2]] w fun e w'=>e=.returned (.string x.1)/\∃ q os',w'=grow (w.drewN q) os':=by
 go_enter Tryz.func54,Tryz.ntmps54
 go_wp2
 go_ret
 exact ⟨rfl,0,_,by rw [alloc_eq_grow];rfl⟩
theorem compare_any (a b:ByteArray) (w:World) :
  Calls Tryz.prog 83 #[.string a,.string b] w fun e w'=>e=.returned (.int .i64 (cmpS a.toList b.toList))/\∃ q os',w'=grow (w.drewN q) os' :=
 (cmpStr_any a b w).mono fun _ _ ⟨he,hw⟩=>⟨he,0,#[],by rw [hw,grow_empty];rfl⟩
set_option maxHeartbeats 1000000 in
theorem closureA (x y:ByteArray × Int) (c:Nat) (W:World) (hc:W.cell? ⟨c,0,none⟩=some (.func (.func 54) #[] #[])) (hb:c < W.heap.size) :
  Calls Tryz.prog 82 #[.agg #[.string x.1,.int .i64 x.2],.agg #[.string y.1,.int .i64 y.2],.pointer (some ⟨c,0,none⟩)] W fun e w'=>e=.returned (.int .i64 (cfA x y))/\∃ q os',w'=grow (W.drewN q) os':=by
 have mixed:Tryz.prog.follows .mixedOrders=true:=by kernel_rfl
 have e30:∀ args w,(callFunc 54 args).run Tryz.prog w=.ok (.enter 54 args) w:=enters_of Tryz.func54 (by kernel_rfl) rfl
 have e42:∀ args w,(callFunc 83 args).run Tryz.prog w=.ok (.enter 83 args) w:=enters_of Tryz.func83 (by kernel_rfl) rfl
 obtain ⟨w0,hw0⟩:∃ w0,w0=(W.alloc (.cells #[.string x.1,.int .i64 x.2] 62)).alloc (.cells #[.string y.1,.int .i64 y.2] 62):=⟨_,rfl⟩
 have c0:∀ n os,(grow (w0.drewN n) os).cell? ⟨c,0,none⟩=some (.func (.func 54) #[] #[]):=cell_grown (by simp [hw0];omega) (by subst hw0;go_simp)
 have x0:∀ n os,(grow (w0.drewN n) os).cell? ⟨W.heap.size,0,none⟩=some (.string x.1):=cell_grown (by simp [hw0];omega) (by subst hw0;go_simp)
 have x1:∀ n os,(grow (w0.drewN n) os).cell? ⟨W.heap.size,1,none⟩=some (.int .i64 x.2):=cell_grown (by simp [hw0];omega) (by subst hw0;go_simp)
 have y0:∀ n os,(grow (w0.drewN n) os).cell? ⟨W.heap.size + 1,0,none⟩=some (.string y.1):=cell_grown (by simp [hw0]) (by subst hw0;go_simp)
 have y1:∀ n os,(grow (w0.drewN n) os).cell? ⟨W.heap.size + 1,1,none⟩=some (.int .i64 y.2):=cell_grown (by simp [hw0]) (by subst hw0;go_simp)
 have Hw0:=hide hw0
 go_enter Tryz.func82,Tryz.ntmps82
 go_wp2
 rw [<- hw0]
 clear hw0
 go_quiet_grown (first
  | (go_at_fn 54;refine Calls.grown_of (attrName_any _ _))
  | (go_at_fn 83;refine Calls.grown_of (compare_any _ _ _)))
 go_wp2
 go_ret
 refine ⟨rfl, ?_⟩
 rw [uh Hw0,alloc_eq_grow,alloc_eq_grow,grow_grow]
 exact ⟨_,_,by rw [show (grow W _).drewN nq=grow (W.drewN nq) _ from rfl,grow_grow]⟩
theorem cmp_lays_cell {α:Type} [Inhabited α] {enc:α->List Value} {k blk off m c:Nat} {dk:Array α} {os:Array Obj} {w:World} {v:Value} (hc:w.cell? ⟨c,0,none⟩=some v) (hb:c < w.heap.size) (hne:c ≠ blk) :
  (sortWorldK enc k w blk off m dk os).cell? ⟨c,0,none⟩=some v/\c < (sortWorldK enc k w blk off m dk os).heap.size:=by
 have hz:(putRowK enc k (Sort.ahead w m) blk off dk).heap.size=w.heap.size:=by
  unfold putRowK;simp
 unfold sortWorldK
 refine ⟨?_, ?_⟩
 ·rw [cell?_grow _ _ _ (by rw [hz];exact hb),cell?_putRowK_other _ _ _ _ _ _ _ (by exact hne)]
  exact hc
 ·simp [grow,hz];omega
theorem lt_cf {a b:List UInt8}:decide (cmpS a b < 0)=Op.bytesLess a b:=by
 rcases cmpS_cases a b with ⟨h1,h2⟩ | ⟨h1,h2⟩ | ⟨h1,h2⟩
 ·rw [h1,h2];decide
 ·rw [h2,h1,less_irrefl];decide
 ·rw [h2,less_asymm _ _ h1];decide
theorem not_less_trans {a b c:List UInt8} (h1:Op.bytesLess a b=false) (h2:Op.bytesLess b c=false):Op.bytesLess a c=false:=by
 cases h:Op.bytesLess a c with
 | false=>rfl
 | true =>
  by_cases e:a=b
  ·rw [e,h2] at h;cases h
  ·have:=less_total _ _ h1 e
   rw [less_trans _ _ _ this h] at h2;cases h2
theorem swoA:SWO (ltOf cfA) where
 irrefl x:=by unfold ltOf cfA;rw [lt_cf];exact less_irrefl _
 trans x y z h1 h2:=by unfold ltOf cfA at *;rw [lt_cf] at *;exact less_trans _ _ _ h1 h2
 ntrans x y z h1 h2:=by unfold ltOf cfA at *;rw [lt_cf] at *;exact not_less_trans h1 h2
theorem cmpLaysA (c blk off size:Nat) (w:World) (hc:w.cell? ⟨c,0,none⟩=some (.func (.func 54) #[] #[])) (hb:c < w.heap.size) (hne:c ≠ blk):CmpLays Tryz.prog 82 #[.pointer (some ⟨c,0,none⟩)] encA 2 cfA blk off size w :=
 fun _ _ _ _ x y=>closureA x y c _ (cmp_lays_cell hc hb hne).1 (cmp_lays_cell hc hb hne).2
end Go.Proofs.YtdgoibnndfibnaaGreatDoor.Sc

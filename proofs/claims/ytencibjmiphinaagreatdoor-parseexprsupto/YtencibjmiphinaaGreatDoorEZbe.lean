/- trommelmem.KeptNode: a copy that is as it was. -/
import Derived.Test.YtencibjmiphinaaGreatDoorEMemNode
import Derived.Test.YtencibjmiphinaaGreatDoorESameNode
import Derived.Test.YtencibjmiphinaaGreatDoorEZbb
import Derived.Test.YtencibjmiphinaaGreatDoorEZbd
import Derived.Test.YtencibjmiphinaaGreatDoorEScRefNew
import Derived.Test.YtencibjmiphinaaGreatDoorEMemNodeAt
namespace Go.Proofs.YtencibjmiphinaaGreatDoor
open Go.RowKit Go.Sort

theorem spAt {w:World} {g:Nat} {l:List Nv} {j:Nat} {v:Nv} (h:LsOf encV 8 w (some ⟨g,0,none⟩) l) (hj:l[j]? = some v):g < w.heap.size∧w.cell? ⟨g,j * 8,none⟩=some (.int .i64 v.kind)∧w.cell? ⟨g,j * 8 + 1,none⟩=some (.string v.attr)∧w.cell? ⟨g,j * 8 + 2,none⟩=some (.slice v.qi v.ni v.ci)∧w.cell? ⟨g,j * 8 + 3,none⟩=some (.slice v.qw v.nw v.cw)∧w.cell? ⟨g,j * 8 + 4,none⟩=some (.int .i64 v.lo)∧w.cell? ⟨g,j * 8 + 5,none⟩=some (.int .i64 v.hi)∧w.cell? ⟨g,j * 8 + 6,none⟩=some (.int .i64 v.op)∧w.cell? ⟨g,j * 8 + 7,none⟩=some (.slice v.qk v.nk v.ck):=by
 obtain ⟨b,off,hq,hB,hc⟩:=h.at hj
 cases hq
 have:=cells8 hc
 simp only [Nat.zero_add] at this
 exact ⟨hB,this⟩
def KeptP (x:Nd):Prop:=∀ (B:Nat) (v v':Nv) (w:World),SpIn w B v x→NdIn w v' x→wtN x≤1000000000→Calls Tryz.prog 20 #[v.val,v'.val] w fun e w'=>e=.returned (.bool true)∧Below w.heap.size w w'
set_option maxRecDepth 100000 in
set_option maxHeartbeats 4000000 in
theorem kept_at (kind:Int) (attr:ByteArray) (ints:List Int) (words:List ByteArray) (lo hi op:Int) (kids:List Nd) (B g1 k1 g2 k2 g3 k3:Nat) (vs:List Nv) (qi:Option Addr) (ci:Nat) (qw:Option Addr) (cw:Nat) (qk:Option Addr) (ck:Nat) (w:World)
  (s1:LsOf encI 1 w (some ⟨g1,0,none⟩) (ints ++ spI)) (r1:ints.length + 2≤k1) (z1:k1≤maxLen) (t1:LsOf encS 1 w (some ⟨g2,0,none⟩) (words ++ spS)) (r2:words.length + 2≤k2) (z2:k2≤maxLen) (u1:LsOf encV 8 w (some ⟨g3,0,none⟩) (vs ++ [spV])) (r3:kids.length + 1≤k3) (_:k3≤maxLen) (hl:vs.length=kids.length) (hs:∀ (j:Nat) (v:Nv) (x:Nd),vs[j]? = some v→kids[j]? = some x→SpIn w B v x)
  (s2:SlOf encI 1 w qi ci ints) (t2:SlOf encS 1 w qw cw words) (n2:NdsOf w qk ck kids) (ih:∀ x ∈ kids,KeptP x) (l1:ints.length≤1000000000) (l2:words.length≤1000000000) (l3:wtL kids≤1000000000) :
  Calls Tryz.prog 20 #[.agg #[.int .i64 kind,.string attr,.slice (some ⟨g1,0,none⟩) ints.length k1,.slice (some ⟨g2,0,none⟩) words.length k2,.int .i64 lo,.int .i64 hi,.int .i64 op,.slice (some ⟨g3,0,none⟩) kids.length k3],.agg #[.int .i64 kind,.string attr,.slice qi ints.length ci,.slice qw words.length cw,.int .i64 lo,.int .i64 hi,.int .i64 op,.slice qk kids.length ck]] w fun e w'=>e=.returned (.bool true)∧Below w.heap.size w w':=by
 have hlen:=Nat.le_trans (Nat.le_trans (len_size kids) (sizeL_wt kids)) l3
 obtain ⟨X,HX⟩:∃ X,(w.alloc (.cells #[.int .i64 kind,.string attr,.slice (some ⟨g1,0,none⟩) ints.length k1,.slice (some ⟨g2,0,none⟩) words.length k2,.int .i64 lo,.int .i64 hi,.int .i64 op,.slice (some ⟨g3,0,none⟩) kids.length k3] 29)).alloc (.cells #[.int .i64 kind,.string attr,.slice qi ints.length ci,.slice qw words.length cw,.int .i64 lo,.int .i64 hi,.int .i64 op,.slice qk kids.length ck] 29)=X:=⟨_,rfl⟩
 obtain ⟨hX0,hX1,hwX,hXs⟩:=two HX
 obtain ⟨x0,x1,x2,x3,x4,x5,x6,x7⟩:=of8' hX0
 obtain ⟨y0,y1,y2,y3,y4,y5,y6,y7⟩:=of8' hX1
 have HX0:=hide hX0
 have HX1:=hide hX1
 have HWX:=hide hwX
 have eq0:(op != op)=false:=by simp
 have eq1:((kids.length:Int) != (kids.length:Int))=false:=by simp
 have a0:(kids.length:Int)≤1000000000:=by omega
 have a1:(0:Int)≤(kids.length:Int):=by omega
 have a2:(kids.length:Int) + 1≤(k3:Int):=by omega
 have a3:(kids.length:Int) < (kids.length:Int) + 1:=by omega
 have c0:=keptPred_any kind attr ints words lo hi g1 k1 g2 k2 qi ci qw cw X (s1.below hwX) r1 z1 (s2.below hwX) (t1.below hwX) r2 z2 (t2.below hwX) (by omega) (by omega)
 have U1:=hide u1
 have N2:=hide n2
 have IH:=hide ih
 have HS:=hide hs
 have HL:=hide hl
 have mixed:Tryz.prog.follows .mixedOrders=true:=by kernel_rfl
 have en20:∀ args w,(callFunc 20 args).run Tryz.prog w=.ok (.enter 20 args) w:=enters_of Tryz.func20 (by kernel_rfl) rfl
 clear hwX hX0 hX1 s1 s2 t1 t2 n2 u1 hs ih hl
 go_enter Tryz.func20,Tryz.ntmps20
 go_wp2_with (go_at_call 42;refine c0.mono ?_;rintro e u1 ⟨rfl,b1⟩;obtain ⟨d0,d1,d2,d3,d4,d5,d6,d7⟩:=of8' ((b1.block _ (heap_lt (uh HX0))).trans (uh HX0));obtain ⟨e0,e1,e2,e3,e4,e5,e6,e7⟩:=of8' ((b1.block _ (heap_lt (uh HX1))).trans (uh HX1));obtain ⟨gl,p0,p1,p2,p3,p4,p5,p6,p7⟩:=spAt (j:=kids.length) (v:=spV) ((uh U1).below (below_sub (uh HWX) b1)) (by rw [List.getElem?_append_right (by have:=uh HL;omega),uh HL,Nat.sub_self];rfl);simp only [spV] at p6;have B1:=hide b1;clear b1 p0 p1 p2 p3 p4 p5 p7)
 go_loopw [47] (fun i wr=>∃ k:Nat,k≤kids.length∧i=.int .i64 k∧Below X.heap.size X wr) (fun i _=>kids.length - (intOf i).toNat)
 case atStart=>exact ⟨0,by omega,rfl,uh B1⟩
 case round =>
  obtain ⟨k,hk,rfl,hbel⟩:=hrel
  clear d0 d1 d2 d3 d4 d5 d6 d7 e0 e1 e2 e3 e4 e5 e6 e7 x0 x1 x2 x3 x4 x5 x6 x7 y0 y1 y2 y3 y4 y5 y6 y7 p6
  obtain ⟨f0,f1,f2,f3,f4,f5,f6,f7⟩:=of8' ((hbel.block _ (heap_lt (uh HX0))).trans (uh HX0))
  obtain ⟨j0,j1,j2,j3,j4,j5,j6,j7⟩:=of8' ((hbel.block _ (heap_lt (uh HX1))).trans (uh HX1))
  have HB:=hide hbel
  by_cases hlt:k < kids.length
  ·obtain ⟨y,hy,_⟩:=get_at hlt
   obtain ⟨v1,hv1,_⟩:=get_at (l:=vs) (k:=k) (by have:=uh HL;omega)
   have hw:=below_sub (uh HWX) hbel
   obtain ⟨gl2,q0,q1,q2,q3,q4,q5,q6,q7⟩:=spAt (j:=k) (v:=v1) ((uh U1).below hw) (by rw [List.getElem?_append_left (by have:=uh HL;omega)];exact hv1)
   obtain ⟨b',off',v2,hq',hb',hin2,z0,z1,z2,z3,z4,z5,z6,z7⟩:=(uh N2).cells hy hw
   subst hq'
   have hin1:=(uh HS k v1 y hv1 hy).keep hw
   have ki0:(0:Int)≤(k:Int):=by omega
   have ki1:(k:Int) < (kids.length:Int):=by omega
   have hxm:y ∈ kids:=List.mem_of_getElem? hy
   have q20:=fun (n:Nat) (os:Array Obj)=>uh IH y hxm B v1 v2 (grow (redrawn wr n) os) (hin1.keep (below_regrown wr n os)) (hin2.keep (below_regrown wr n os)) (Nat.le_trans (wtL_mem hxm) l3)
   simp only [Nv.val] at q20
   have F7:∀ n os,(grow (redrawn wr n) os).cell? ⟨w.heap.size,7,none⟩=some _:=cell_regrown f7
   have J7:∀ n os,(grow (redrawn wr n) os).cell? ⟨w.heap.size + 1,7,none⟩=some _:=cell_regrown j7
   have G0:∀ n os,(grow (redrawn wr n) os).cell? ⟨g3,k * 8,none⟩=some _:=cell_regrown q0
   have G1:∀ n os,(grow (redrawn wr n) os).cell? ⟨g3,k * 8 + 1,none⟩=some _:=cell_regrown q1
   have G2:∀ n os,(grow (redrawn wr n) os).cell? ⟨g3,k * 8 + 2,none⟩=some _:=cell_regrown q2
   have G3:∀ n os,(grow (redrawn wr n) os).cell? ⟨g3,k * 8 + 3,none⟩=some _:=cell_regrown q3
   have G4:∀ n os,(grow (redrawn wr n) os).cell? ⟨g3,k * 8 + 4,none⟩=some _:=cell_regrown q4
   have G5:∀ n os,(grow (redrawn wr n) os).cell? ⟨g3,k * 8 + 5,none⟩=some _:=cell_regrown q5
   have G6:∀ n os,(grow (redrawn wr n) os).cell? ⟨g3,k * 8 + 6,none⟩=some _:=cell_regrown q6
   have G7:∀ n os,(grow (redrawn wr n) os).cell? ⟨g3,k * 8 + 7,none⟩=some _:=cell_regrown q7
   have Z0:∀ n os,(grow (redrawn wr n) os).cell? ⟨b',off' + k * 8,none⟩=some _:=cell_regrown z0
   have Z1:∀ n os,(grow (redrawn wr n) os).cell? ⟨b',off' + k * 8 + 1,none⟩=some _:=cell_regrown z1
   have Z2:∀ n os,(grow (redrawn wr n) os).cell? ⟨b',off' + k * 8 + 2,none⟩=some _:=cell_regrown z2
   have Z3:∀ n os,(grow (redrawn wr n) os).cell? ⟨b',off' + k * 8 + 3,none⟩=some _:=cell_regrown z3
   have Z4:∀ n os,(grow (redrawn wr n) os).cell? ⟨b',off' + k * 8 + 4,none⟩=some _:=cell_regrown z4
   have Z5:∀ n os,(grow (redrawn wr n) os).cell? ⟨b',off' + k * 8 + 5,none⟩=some _:=cell_regrown z5
   have Z6:∀ n os,(grow (redrawn wr n) os).cell? ⟨b',off' + k * 8 + 6,none⟩=some _:=cell_regrown z6
   have Z7:∀ n os,(grow (redrawn wr n) os).cell? ⟨b',off' + k * 8 + 7,none⟩=some _:=cell_regrown z7
   clear hin1 hin2 hw f0 f1 f2 f3 f4 f5 f6 j0 j1 j2 j3 j4 j5 j6 q0 q1 q2 q3 q4 q5 q6 q7 z0 z1 z2 z3 z4 z5 z6 z7 hv1 hy hbel hxm
   go_wp2
   refine wp_region_quiet_below (by assumption) (by kernel_rfl) ?_
   repeat (go_big_quiet_step (first
    | (go_at_fn 20;refine Calls.regrown_of (q20 _ _))))
   refine wpQuiet_nil ?_
   intro _ hw'
   obtain ⟨⟨dq,osq⟩,hw''⟩:=hw'
   subst hw''
   go_wp2
   exact ⟨⟨k + 1,by omega,congrArg (Value.int .i64) (by omega),below_sub (uh HB) (below_regrown _ _ _)⟩,by simp [intOf];omega⟩
  ·have ki1:¬ (k:Int) < (kids.length:Int):=by omega
   go_wp2
   go_ret
   exact ⟨rfl,below_sub (uh HWX) (uh HB)⟩
theorem kept_any:∀ x,KeptP x:=by
 intro x
 induction x using Nd.ind with
 | h kind attr ints words lo hi op kids ih =>
  intro B v v' w hsp hin hwt
  obtain ⟨qi,ci,qw,cw,qk,ck,rfl,h1,h2,hk⟩:=hin.parts
  simp only [wtN] at hwt
  have hwl:=words_len words
  cases hsp with
  | mk a1 a2 a3 b1 b2 b3 c1 c2 c3 hl hr d1 d2 d3=>exact kept_at kind attr ints words lo hi op kids B _ _ _ _ _ _ _ qi ci qw cw qk ck w a1 a2 a3 b1 b2 b3 c1 c2 c3 hl hr h1 h2 hk ih (by omega) (by omega) (by omega)
end Go.Proofs.YtencibjmiphinaaGreatDoor
namespace Go.Proofs.YtencibjmiphinaaGreatDoor
open Go.RowKit Go.Sort

theorem exT_ok (ats:List (ByteArray × Int)) (d:Int) (s:ByteArray):OkN (prT (exL ats d s)):=by
 unfold exL
 cases h:parL s with
 | bad q=>exact zOk
 | ok y r =>
  simp only
  split
  ·exact zOk
  ·split
   ·exact OkN.of_wt y (parL_wt h)
   ·exact zOk
def exC:Rs Nd→Int
 | .bad c=>c
 | .ok _ _=>0
theorem ExR.said {w w':World} {x:Rs Nd} {e:Ending} (h:ExR w x e w'):∃ v,e=.returned (.tuple #[v.val,.int .i64 (exC x)])∧NdIn w' v (prT x)∧Below w.heap.size w w':=by
 cases x with
 | bad q=>exact ⟨zNv,h.1,zIn _,h.2⟩
 | ok y r =>
  obtain ⟨⟨v,he,hv⟩,hb⟩:=h
  exact ⟨v,he,hv.toIn,hb⟩
set_option maxHeartbeats 4000000 in
theorem exprs_big (p:Option Addr) (cap:Nat) (l:List (ByteArray × Int)) (d:Int) (s:ByteArray) (v:Nv) (w:World) (hG:Lx.G w) (hl:l.length * 24≤140737488355328) (hp:p=none→l.length=0∧cap=0) (hA:Sc.AtsOf w p l) (hq:64 < l.length) :
  Calls Tryz.prog 4 #[.slice p l.length cap,.int .i64 d,.string s,v.val] w fun e w'=>e=.returned (.bool true)∧Below w.heap.size w w':=by
 obtain ⟨X,HX⟩:∃ X,w.alloc (.cells #[.int .i64 v.kind,.string v.attr,.slice v.qi v.ni v.ci,.slice v.qw v.nw v.cw,.int .i64 v.lo,.int .i64 v.hi,.int .i64 v.op,.slice v.qk v.nk v.ck] 29)=X:=⟨_,rfl⟩
 have hwX:Below w.heap.size w X:=by rw [← HX];exact (Below.refl _ _).alloc (Nat.le_refl _) _
 have hfx:=fixed_any5 X (G_on hG hwX)
 have hN:∀ W,Below X.heap.size X W→Calls Tryz.prog 13 #[.slice p l.length cap] W fun e w'=>e=.returned (.tuple #[.pointer none,.int .i64 2])∧Below W.heap.size W w':=fun W hW=>by
  refine (Sc.new_any p cap l W hl hp ((hA.below hwX).below hW)).mono ?_
  rintro e w' ⟨hr,hb⟩
  rcases hr with ⟨_,rfl⟩ | ⟨h1,_⟩ | ⟨h1,_⟩
  ·exact ⟨rfl,hb⟩
  ·omega
  ·omega
 have hR:∀ W,Below X.heap.size X W→Calls Tryz.prog 14 #[.slice p l.length cap] W fun e w'=>e=.returned (.tuple #[.slice none 0 0,.int .i64 2])∧Below W.heap.size W w':=fun W hW=>by
  refine (Sc.refNew_any p cap l W hl ((hA.below hwX).below hW)).mono ?_
  rintro e w' ⟨hr,hb⟩
  rcases hr with ⟨_,rfl⟩ | ⟨h1,_⟩ | ⟨h1,_⟩
  ·exact ⟨rfl,hb⟩
  ·omega
  ·omega
 have HWX:=hide hwX
 clear hA hG hwX
 simp only [Nv.val]
 go_enter Tryz.func4,Tryz.ntmps4
 go_wp2_with (first
  | (go_at_call 9;refine hfx.mono ?_;rintro e w1 ⟨rfl,g1⟩;have B1:=hide g1;clear g1)
  | (go_at_call 13;refine (hN _ (uh B1)).mono ?_;rintro e w2 ⟨rfl,g2⟩;have B2:=hide (below_sub (uh B1) g2);clear g2)
  | (go_at_call 14;refine (hR _ (uh B2)).mono ?_;rintro e w3 ⟨rfl,g3⟩;have B3:=hide (below_sub (uh B2) g3);clear g3))
 go_ret
 exact ⟨rfl,below_sub (uh HWX) (uh B3)⟩
set_option maxHeartbeats 4000000 in
theorem exprs_bad (p:Option Addr) (cap:Nat) (l:List (ByteArray × Int)) (d:Int) (s:ByteArray) (v:Nv) (w:World) (hG:Lx.G w) (hl:l.length * 24≤140737488355328) (hp:p=none→l.length=0∧cap=0) (hA:Sc.AtsOf w p l) (hq:l.length≤64) (hn:¬ (l.all Sc.atOk=true∧(l.map Sc.nmA).Nodup)) :
  Calls Tryz.prog 4 #[.slice p l.length cap,.int .i64 d,.string s,v.val] w fun e w'=>e=.returned (.bool true)∧Below w.heap.size w w':=by
 obtain ⟨X,HX⟩:∃ X,w.alloc (.cells #[.int .i64 v.kind,.string v.attr,.slice v.qi v.ni v.ci,.slice v.qw v.nw v.cw,.int .i64 v.lo,.int .i64 v.hi,.int .i64 v.op,.slice v.qk v.nk v.ck] 29)=X:=⟨_,rfl⟩
 have hwX:Below w.heap.size w X:=by rw [← HX];exact (Below.refl _ _).alloc (Nat.le_refl _) _
 have hfx:=fixed_any5 X (G_on hG hwX)
 have hN:∀ W,Below X.heap.size X W→Calls Tryz.prog 13 #[.slice p l.length cap] W fun e w'=>e=.returned (.tuple #[.pointer none,.int .i64 1])∧Below W.heap.size W w':=fun W hW=>by
  refine (Sc.new_any p cap l W hl hp ((hA.below hwX).below hW)).mono ?_
  rintro e w' ⟨hr,hb⟩
  rcases hr with ⟨h1,_⟩ | ⟨_,_,rfl⟩ | ⟨_,h1,h2,_⟩
  ·omega
  ·exact ⟨rfl,hb⟩
  ·exact absurd ⟨h1,h2⟩ hn
 have hR:∀ W,Below X.heap.size X W→Calls Tryz.prog 14 #[.slice p l.length cap] W fun e w'=>e=.returned (.tuple #[.slice none 0 0,.int .i64 1])∧Below W.heap.size W w':=fun W hW=>by
  refine (Sc.refNew_any p cap l W hl ((hA.below hwX).below hW)).mono ?_
  rintro e w' ⟨hr,hb⟩
  rcases hr with ⟨h1,_⟩ | ⟨_,_,rfl⟩ | ⟨_,h1,h2,_⟩
  ·omega
  ·exact ⟨rfl,hb⟩
  ·exact absurd ⟨h1,h2⟩ hn
 have HWX:=hide hwX
 clear hA hG hwX
 simp only [Nv.val]
 go_enter Tryz.func4,Tryz.ntmps4
 go_wp2_with (first
  | (go_at_call 9;refine hfx.mono ?_;rintro e w1 ⟨rfl,g1⟩;have B1:=hide g1;clear g1)
  | (go_at_call 13;refine (hN _ (uh B1)).mono ?_;rintro e w2 ⟨rfl,g2⟩;have B2:=hide (below_sub (uh B1) g2);clear g2)
  | (go_at_call 14;refine (hR _ (uh B2)).mono ?_;rintro e w3 ⟨rfl,g3⟩;have B3:=hide (below_sub (uh B2) g3);clear g3))
 go_ret
 exact ⟨rfl,below_sub (uh HWX) (uh B3)⟩
set_option maxRecDepth 100000 in
set_option maxHeartbeats 8000000 in
theorem exprs_good (p:Option Addr) (cap:Nat) (l:List (ByteArray × Int)) (d:Int) (s:ByteArray) (t:Nd) (v:Nv) (w:World) (hG:Lx.G w) (hl:l.length * 24≤140737488355328) (hp:p=none→l.length=0∧cap=0) (hA:Sc.AtsOf w p l) (hin:NdIn w v t) (hwt:wtN t≤1000000000) (hq:l.length≤64) (h1:l.all Sc.atOk=true) (h2:(l.map Sc.nmA).Nodup) :
  Calls Tryz.prog 4 #[.slice p l.length cap,.int .i64 d,.string s,v.val] w fun e w'=>e=.returned (.bool true)∧Below w.heap.size w w':=by
 obtain ⟨X,HX⟩:∃ X,w.alloc (.cells #[.int .i64 v.kind,.string v.attr,.slice v.qi v.ni v.ci,.slice v.qw v.nw v.cw,.int .i64 v.lo,.int .i64 v.hi,.int .i64 v.op,.slice v.qk v.nk v.ck] 29)=X:=⟨_,rfl⟩
 have xa:X.heap[w.heap.size]? = some (.cells #[.int .i64 v.kind,.string v.attr,.slice v.qi v.ni v.ci,.slice v.qw v.nw v.cw,.int .i64 v.lo,.int .i64 v.hi,.int .i64 v.op,.slice v.qk v.nk v.ck] 29):=by rw [← HX];exact box_nw _ _
 have hwX:Below w.heap.size w X:=by rw [← HX];exact (Below.refl _ _).alloc (Nat.le_refl _) _
 have mixed:Tryz.prog.follows .mixedOrders=true:=by kernel_rfl
 have hfx:=fixed_any5 X (G_on hG hwX)
 have hN:∀ W,Below X.heap.size X W→Calls Tryz.prog 13 #[.slice p l.length cap] W fun e w'=>(∃ b L,e=.returned (.tuple #[.pointer (some ⟨b,0,none⟩),.int .i64 0])∧L.Perm l∧Sc.Strict Sc.nmA L∧Sc.SchAt w' b L)∧Below W.heap.size W w':=fun W hW=>by
  refine (Sc.new_any p cap l W hl hp ((hA.below hwX).below hW)).mono ?_
  rintro e w' ⟨hr,hb⟩
  rcases hr with ⟨h3,_⟩ | ⟨_,h3,_⟩ | ⟨_,_,_,b,L,rfl,hp',hs',hsc⟩
  ·omega
  ·exact absurd ⟨h1,h2⟩ h3
  ·exact ⟨⟨b,L,rfl,hp',hs',hsc.at⟩,hb⟩
 have hR:∀ W,Below X.heap.size X W→Calls Tryz.prog 14 #[.slice p l.length cap] W fun e w'=>(∃ q cq L,e=.returned (.tuple #[.slice q L.length cq,.int .i64 0])∧L.Perm l∧Sc.Strict Sc.nmA L∧Sc.AtsOf w' q L)∧Below W.heap.size W w':=fun W hW=>by
  refine (Sc.refNew_any p cap l W hl ((hA.below hwX).below hW)).mono ?_
  rintro e w' ⟨hr,hb⟩
  rcases hr with ⟨h3,_⟩ | ⟨_,h3,_⟩ | ⟨_,_,_,q,cq,L,rfl,hp',hs',hn⟩
  ·omega
  ·exact absurd ⟨h1,h2⟩ h3
  ·exact ⟨⟨q,cq,L,rfl,hp',hs',hn.of⟩,hb⟩
 have hM:=fun W (hW:Below X.heap.size X W)=>node_any t v W (hin.keep (below_sub hwX hW)) hwt
 have HWX:=hide hwX
 have HG:=hide (G_on hG hwX)
 have HIN:=hide (hin.keep hwX)
 have XA:=hide xa
 have HQ:=hide hq
 simp only [Nv.val] at hM ⊢
 clear hG hin hwX xa hA hp hl h1 h2 hq
 go_enter Tryz.func4,Tryz.ntmps4
 go_wp2_with (first
  | (go_at_call 9;refine hfx.mono ?_;rintro e w1 ⟨rfl,g1⟩;have B1:=hide g1;clear g1)
  | (go_at_call 13;refine (hN _ (uh B1)).mono ?_;rintro e w2 ⟨⟨b,L,rfl,hpl,hsl,hsc⟩,g2⟩;have B2:=hide (below_sub (uh B1) g2);have HPL:=hide hpl;have HSL:=hide hsl;have SC2:=hide hsc;have HM:=hide (show L.length≤140737488355328 by have:=uh HQ;rw [hpl.length_eq];omega);clear hpl hsl hsc g2)
  | (go_at_call 14;refine (hR _ (uh B2)).mono ?_;rintro e w3 ⟨⟨q,cq,L2,rfl,hpl,hsl,haq⟩,g3⟩;obtain rfl:L=L2:=(Sc.strict_one hsl (uh HSL) (hpl.trans (uh HPL).symm)).symm;have B3:=hide (below_sub (uh B2) g3);have SC:=hide ((uh SC2).below g3);have AQ:=hide haq;clear hpl hsl haq g3)
  | (go_at_call 15;refine (expr_any b L (uh HM) d s _ (G_on (uh HG) (uh B3)) (uh SC)).mono ?_;intro e w4 h;obtain ⟨E,hE⟩:∃ E,exL L d s=E:=⟨_,rfl⟩;have HOK:=hide (show OkN (prT E) by rw [← hE];exact exT_ok L d s);rw [hE] at h;have HE:=hide hE;clear hE;obtain ⟨x,rfl,hx,hb⟩:=h.said;obtain ⟨c,hc⟩:∃ c,exC E=c:=⟨_,rfl⟩;rw [hc];have HC:=hide hc;clear hc h;obtain ⟨Y,HY⟩:∃ Y,w4.alloc (.cells #[.int .i64 x.kind,.string x.attr,.slice x.qi x.ni x.ci,.slice x.qw x.nw x.cw,.int .i64 x.lo,.int .i64 x.hi,.int .i64 x.op,.slice x.qk x.nk x.ck] 29)=Y:=⟨_,rfl⟩;have yY:Y.heap[w4.heap.size]? = some (.cells #[.int .i64 x.kind,.string x.attr,.slice x.qi x.ni x.ci,.slice x.qw x.nw x.cw,.int .i64 x.lo,.int .i64 x.hi,.int .i64 x.op,.slice x.qk x.nk x.ck] 29):=(by rw [← HY];exact box_nw _ _);have bY:Below w4.heap.size w4 Y:=(by rw [← HY];exact (Below.refl _ _).alloc (Nat.le_refl _) _);have B4:=hide (below_sub (uh B3) (below_sub hb bY));have YY:=hide yY;have XI:=hide (hx.keep bY);have AQ4:=hide ((uh AQ).below (below_sub hb bY));have SC4:=hide ((uh SC).below (below_sub hb bY));clear hx hb yY bY;unfold Nv.val)
  | (go_at_call 16;refine (refExpr_any q cq L (uh HM) d s _ (uh AQ4)).mono ?_;intro e w5 h;rw [uh HE] at h;obtain ⟨y,rfl,hy,hb⟩:=h.said;rw [uh HC];obtain ⟨Z,HZ⟩:∃ Z,w5.alloc (.cells #[.int .i64 y.kind,.string y.attr,.slice y.qi y.ni y.ci,.slice y.qw y.nw y.cw,.int .i64 y.lo,.int .i64 y.hi,.int .i64 y.op,.slice y.qk y.nk y.ck] 29)=Z:=⟨_,rfl⟩;have yZ:Z.heap[w5.heap.size]? = some (.cells #[.int .i64 y.kind,.string y.attr,.slice y.qi y.ni y.ci,.slice y.qw y.nw y.cw,.int .i64 y.lo,.int .i64 y.hi,.int .i64 y.op,.slice y.qk y.nk y.ck] 29):=(by rw [← HZ];exact box_nw _ _);have bZ:Below w5.heap.size w5 Z:=(by rw [← HZ];exact (Below.refl _ _).alloc (Nat.le_refl _) _);have B5:=hide (below_sub (uh B4) (below_sub hb bZ));have YZ:=hide (bl_on (uh YY) (below_sub hb bZ));have ZZ:=hide yZ;have XI5:=hide ((uh XI).keep (below_sub hb bZ));have YI:=hide (hy.keep bZ);have AQ5:=hide ((uh AQ4).below (below_sub hb bZ));have SC5:=hide ((uh SC4).below (below_sub hb bZ));obtain ⟨a0,a1,a2,a3,a4,a5,a6,a7⟩:=of8' (bl_on (uh XA) (uh B5));clear h hy hb yZ bZ;unfold Nv.val)
  | (go_at_call 17;refine (hM _ (uh B5)).mono ?_;rintro e w6 ⟨⟨z,rfl,sp⟩,hb⟩;simp only;obtain ⟨T,HT⟩:∃ T,w6.alloc (.cells #[.int .i64 z.kind,.string z.attr,.slice z.qi z.ni z.ci,.slice z.qw z.nw z.cw,.int .i64 z.lo,.int .i64 z.hi,.int .i64 z.op,.slice z.qk z.nk z.ck] 29)=T:=⟨_,rfl⟩;have yT:T.heap[w6.heap.size]? = some (.cells #[.int .i64 z.kind,.string z.attr,.slice z.qi z.ni z.ci,.slice z.qw z.nw z.cw,.int .i64 z.lo,.int .i64 z.hi,.int .i64 z.op,.slice z.qk z.nk z.ck] 29):=(by rw [← HT];exact box_nw _ _);have bT:Below w6.heap.size w6 T:=(by rw [← HT];exact (Below.refl _ _).alloc (Nat.le_refl _) _);have B6:=hide (below_sub (uh B5) (below_sub hb bT));have YT:=hide (bl_on (uh YZ) (below_sub hb bT));have ZT:=hide (bl_on (uh ZZ) (below_sub hb bT));have TT:=hide yT;have XI6:=hide ((uh XI5).keep (below_sub hb bT));have YI6:=hide ((uh YI).keep (below_sub hb bT));have AQ6:=hide ((uh AQ5).below (below_sub hb bT));have SC6:=hide ((uh SC5).below (below_sub hb bT));have SP:=hide (sp.keep bT);clear a0 a1 a2 a3 a4 a5 a6 a7 sp hb yT bT))
 have en12:∀ args w,(callFunc 12 args).run Tryz.prog w=.ok (.enter 12 args) w:=enters_of Tryz.func12 (by kernel_rfl) rfl
 have en18:∀ args w,(callFunc 18 args).run Tryz.prog w=.ok (.enter 18 args) w:=enters_of Tryz.func18 (by kernel_rfl) rfl
 have en19:∀ args w,(callFunc 19 args).run Tryz.prog w=.ok (.enter 19 args) w:=enters_of Tryz.func19 (by kernel_rfl) rfl
 have en20:∀ args w,(callFunc 20 args).run Tryz.prog w=.ok (.enter 20 args) w:=enters_of Tryz.func20 (by kernel_rfl) rfl
 obtain ⟨a0,a1,a2,a3,a4,a5,a6,a7⟩:=of8' (bl_on (uh XA) (uh B6))
 have a0r:∀ n os,(grow (redrawn T n) os).cell? ⟨w.heap.size,0,none⟩=some (.int .i64 v.kind):=cell_regrown a0
 have a1r:∀ n os,(grow (redrawn T n) os).cell? ⟨w.heap.size,1,none⟩=some (.string v.attr):=cell_regrown a1
 have a2r:∀ n os,(grow (redrawn T n) os).cell? ⟨w.heap.size,2,none⟩=some (.slice v.qi v.ni v.ci):=cell_regrown a2
 have a3r:∀ n os,(grow (redrawn T n) os).cell? ⟨w.heap.size,3,none⟩=some (.slice v.qw v.nw v.cw):=cell_regrown a3
 have a4r:∀ n os,(grow (redrawn T n) os).cell? ⟨w.heap.size,4,none⟩=some (.int .i64 v.lo):=cell_regrown a4
 have a5r:∀ n os,(grow (redrawn T n) os).cell? ⟨w.heap.size,5,none⟩=some (.int .i64 v.hi):=cell_regrown a5
 have a6r:∀ n os,(grow (redrawn T n) os).cell? ⟨w.heap.size,6,none⟩=some (.int .i64 v.op):=cell_regrown a6
 have a7r:∀ n os,(grow (redrawn T n) os).cell? ⟨w.heap.size,7,none⟩=some (.slice v.qk v.nk v.ck):=cell_regrown a7
 obtain ⟨b0,b1,b2,b3,b4,b5,b6,b7⟩:=of8' (uh YT)
 have b0r:∀ n os,(grow (redrawn T n) os).cell? ⟨w4.heap.size,0,none⟩=some (.int .i64 x.kind):=cell_regrown b0
 have b1r:∀ n os,(grow (redrawn T n) os).cell? ⟨w4.heap.size,1,none⟩=some (.string x.attr):=cell_regrown b1
 have b2r:∀ n os,(grow (redrawn T n) os).cell? ⟨w4.heap.size,2,none⟩=some (.slice x.qi x.ni x.ci):=cell_regrown b2
 have b3r:∀ n os,(grow (redrawn T n) os).cell? ⟨w4.heap.size,3,none⟩=some (.slice x.qw x.nw x.cw):=cell_regrown b3
 have b4r:∀ n os,(grow (redrawn T n) os).cell? ⟨w4.heap.size,4,none⟩=some (.int .i64 x.lo):=cell_regrown b4
 have b5r:∀ n os,(grow (redrawn T n) os).cell? ⟨w4.heap.size,5,none⟩=some (.int .i64 x.hi):=cell_regrown b5
 have b6r:∀ n os,(grow (redrawn T n) os).cell? ⟨w4.heap.size,6,none⟩=some (.int .i64 x.op):=cell_regrown b6
 have b7r:∀ n os,(grow (redrawn T n) os).cell? ⟨w4.heap.size,7,none⟩=some (.slice x.qk x.nk x.ck):=cell_regrown b7
 obtain ⟨c0,c1,c2,c3,c4,c5,c6,c7⟩:=of8' (uh ZT)
 have c0r:∀ n os,(grow (redrawn T n) os).cell? ⟨w5.heap.size,0,none⟩=some (.int .i64 y.kind):=cell_regrown c0
 have c1r:∀ n os,(grow (redrawn T n) os).cell? ⟨w5.heap.size,1,none⟩=some (.string y.attr):=cell_regrown c1
 have c2r:∀ n os,(grow (redrawn T n) os).cell? ⟨w5.heap.size,2,none⟩=some (.slice y.qi y.ni y.ci):=cell_regrown c2
 have c3r:∀ n os,(grow (redrawn T n) os).cell? ⟨w5.heap.size,3,none⟩=some (.slice y.qw y.nw y.cw):=cell_regrown c3
 have c4r:∀ n os,(grow (redrawn T n) os).cell? ⟨w5.heap.size,4,none⟩=some (.int .i64 y.lo):=cell_regrown c4
 have c5r:∀ n os,(grow (redrawn T n) os).cell? ⟨w5.heap.size,5,none⟩=some (.int .i64 y.hi):=cell_regrown c5
 have c6r:∀ n os,(grow (redrawn T n) os).cell? ⟨w5.heap.size,6,none⟩=some (.int .i64 y.op):=cell_regrown c6
 have c7r:∀ n os,(grow (redrawn T n) os).cell? ⟨w5.heap.size,7,none⟩=some (.slice y.qk y.nk y.ck):=cell_regrown c7
 obtain ⟨e0,e1,e2,e3,e4,e5,e6,e7⟩:=of8' (uh TT)
 have e0r:∀ n os,(grow (redrawn T n) os).cell? ⟨w6.heap.size,0,none⟩=some (.int .i64 z.kind):=cell_regrown e0
 have e1r:∀ n os,(grow (redrawn T n) os).cell? ⟨w6.heap.size,1,none⟩=some (.string z.attr):=cell_regrown e1
 have e2r:∀ n os,(grow (redrawn T n) os).cell? ⟨w6.heap.size,2,none⟩=some (.slice z.qi z.ni z.ci):=cell_regrown e2
 have e3r:∀ n os,(grow (redrawn T n) os).cell? ⟨w6.heap.size,3,none⟩=some (.slice z.qw z.nw z.cw):=cell_regrown e3
 have e4r:∀ n os,(grow (redrawn T n) os).cell? ⟨w6.heap.size,4,none⟩=some (.int .i64 z.lo):=cell_regrown e4
 have e5r:∀ n os,(grow (redrawn T n) os).cell? ⟨w6.heap.size,5,none⟩=some (.int .i64 z.hi):=cell_regrown e5
 have e6r:∀ n os,(grow (redrawn T n) os).cell? ⟨w6.heap.size,6,none⟩=some (.int .i64 z.op):=cell_regrown e6
 have e7r:∀ n os,(grow (redrawn T n) os).cell? ⟨w6.heap.size,7,none⟩=some (.slice z.qk z.nk z.ck):=cell_regrown e7
 have q12:=fun (n:Nat) (os:Array Obj)=>sameM_all _ _ x y (grow (redrawn T n) os) ((uh XI6).keep (below_regrown T n os)) ((uh YI6).keep (below_regrown T n os)) (uh HOK)
 rw [sameT_yes rfl] at q12
 have q18:=fun (n:Nat) (os:Array Obj)=>kinds_any b L (uh HM) t z (grow (redrawn T n) os) ((uh SP).toIn.keep (below_regrown T n os)) ((uh SC6).below (below_regrown T n os)) hwt
 have q19:=fun (n:Nat) (os:Array Obj)=>refKinds_any q cq L (uh HM) t v (grow (redrawn T n) os) ((uh HIN).keep (below_sub (uh B6) (below_regrown T n os))) ((uh AQ6).below (below_regrown T n os)) hwt
 have q20:=fun (n:Nat) (os:Array Obj)=>kept_any t _ z v (grow (redrawn T n) os) ((uh SP).keep (below_regrown T n os)) ((uh HIN).keep (below_sub (uh B6) (below_regrown T n os))) hwt
 simp only [Nv.val] at q12 q18 q19 q20
 clear a0 a1 a2 a3 a4 a5 a6 a7 b0 b1 b2 b3 b4 b5 b6 b7 c0 c1 c2 c3 c4 c5 c6 c7 e0 e1 e2 e3 e4 e5 e6 e7
 generalize kndE L t=kk at *
 refine wp_region_quiet_below (by assumption) (by kernel_rfl) ?_
 repeat (go_big_quiet_step (first | (go_at_fn 12;refine Calls.regrown_of (q12 _ _)) | (go_at_fn 18;refine Calls.regrown_of (q18 _ _)) | (go_at_fn 19;refine Calls.regrown_of (q19 _ _)) | (go_at_fn 20;refine Calls.regrown_of (q20 _ _))))
 refine wpQuiet_nil ?_
 intro _ hw'
 obtain ⟨⟨dq,osq⟩,hw''⟩:=hw'
 subst hw''
 go_wp2
 go_ret
 exact ⟨rfl,below_sub (uh HWX) (below_sub (uh B6) (below_regrown T dq osq))⟩
theorem parseExprs_any (p:Option Addr) (cap:Nat) (l:List (ByteArray × Int)) (d:Int) (s:ByteArray) (t:Nd) (v:Nv) (w:World) (hG:Lx.G w) (hl:l.length * 24≤140737488355328) (hp:p=none→l.length=0∧cap=0) (hA:Sc.AtsOf w p l) (hin:NdIn w v t) (hwt:wtN t≤1000000000) :
  Calls Tryz.prog 4 #[.slice p l.length cap,.int .i64 d,.string s,v.val] w fun e w'=>e=.returned (.bool true)∧Below w.heap.size w w':=by
 by_cases h64:64 < l.length
 ·exact exprs_big p cap l d s v w hG hl hp hA h64
 ·by_cases hn:l.all Sc.atOk=true∧(l.map Sc.nmA).Nodup
  ·exact exprs_good p cap l d s t v w hG hl hp hA hin hwt (by omega) hn.1 hn.2
  ·exact exprs_bad p cap l d s v w hG hl hp hA (by omega) hn
end Go.Proofs.YtencibjmiphinaaGreatDoor

/- What the helpers that compare predicates and trees return, of any two. -/
import Derived.Test.YtikhopiegaoacacDKept
import Derived.Test.YtikhopiegaoacacDZac
import Derived.Test.YtikhopiegaoacacDCloneTree
import Derived.Lib.QuietBelow
import Derived.BigQuiet
import Derived.Shelf.Abstract
import Derived.Test.YtikhopiegaoacacDMemNode
namespace Go.Proofs.Ytikhopiegaoacac
open Go.RowKit Go.Sort

end Go.Proofs.Ytikhopiegaoacac
namespace Go.Proofs.Ytikhopiegaoacac
open Go.RowKit Go.Sort

end Go.Proofs.Ytikhopiegaoacac
namespace Go.Proofs.Ytikhopiegaoacac
open Go.RowKit Go.Sort

theorem spAt {w:World} {g:Nat} {l:List Nv} {j:Nat} {v:Nv} (h:LsOf encV 8 w (some ⟨g,0,none⟩) l) (hj:l[j]? = some v):g < w.heap.size∧w.cell? ⟨g,j * 8,none⟩=some (.int .i64 v.kind)∧w.cell? ⟨g,j * 8 + 1,none⟩=some (.string v.attr)∧w.cell? ⟨g,j * 8 + 2,none⟩=some (.slice v.qi v.ni v.ci)∧w.cell? ⟨g,j * 8 + 3,none⟩=some (.slice v.qw v.nw v.cw)∧w.cell? ⟨g,j * 8 + 4,none⟩=some (.int .i64 v.lo)∧w.cell? ⟨g,j * 8 + 5,none⟩=some (.int .i64 v.hi)∧w.cell? ⟨g,j * 8 + 6,none⟩=some (.int .i64 v.op)∧w.cell? ⟨g,j * 8 + 7,none⟩=some (.slice v.qk v.nk v.ck):=by
 obtain ⟨b,off,hq,hB,hc⟩:=h.at hj
 cases hq
 have:=cells8 hc
 simp only [Nat.zero_add] at this
 exact ⟨hB,this⟩
def KeptP (x:Nd):Prop:=∀ (B:Nat) (v v':Nv) (w:World),SpIn w B v x→NdIn w v' x→wtN x≤1000000000→Calls Try.prog 10 #[v.val,v'.val] w fun e w'=>e=.returned (.bool true)∧Below w.heap.size w w'
set_option maxRecDepth 100000 in
set_option maxHeartbeats 4000000 in
theorem kept_at (kind:Int) (attr:ByteArray) (ints:List Int) (words:List ByteArray) (lo hi op:Int) (kids:List Nd) (B g1 k1 g2 k2 g3 k3:Nat) (vs:List Nv) (qi:Option Addr) (ci:Nat) (qw:Option Addr) (cw:Nat) (qk:Option Addr) (ck:Nat) (w:World)
  (s1:LsOf encI 1 w (some ⟨g1,0,none⟩) (ints ++ spI)) (r1:ints.length + 2≤k1) (z1:k1≤maxLen) (t1:LsOf encS 1 w (some ⟨g2,0,none⟩) (words ++ spS)) (r2:words.length + 2≤k2) (z2:k2≤maxLen) (u1:LsOf encV 8 w (some ⟨g3,0,none⟩) (vs ++ [spV])) (r3:kids.length + 1≤k3) (_:k3≤maxLen) (hl:vs.length=kids.length) (hs:∀ (j:Nat) (v:Nv) (x:Nd),vs[j]? = some v→kids[j]? = some x→SpIn w B v x)
  (s2:SlOf encI 1 w qi ci ints) (t2:SlOf encS 1 w qw cw words) (n2:NdsOf w qk ck kids) (ih:∀ x ∈ kids,KeptP x) (l1:ints.length≤1000000000) (l2:words.length≤1000000000) (l3:wtL kids≤1000000000) :
  Calls Try.prog 10 #[.agg #[.int .i64 kind,.string attr,.slice (some ⟨g1,0,none⟩) ints.length k1,.slice (some ⟨g2,0,none⟩) words.length k2,.int .i64 lo,.int .i64 hi,.int .i64 op,.slice (some ⟨g3,0,none⟩) kids.length k3],.agg #[.int .i64 kind,.string attr,.slice qi ints.length ci,.slice qw words.length cw,.int .i64 lo,.int .i64 hi,.int .i64 op,.slice qk kids.length ck]] w fun e w'=>e=.returned (.bool true)∧Below w.heap.size w w':=by
 have hlen:=Nat.le_trans (Nat.le_trans (len_size kids) (sizeL_wt kids)) l3
 obtain ⟨X,HX⟩:∃ X,(w.alloc (.cells #[.int .i64 kind,.string attr,.slice (some ⟨g1,0,none⟩) ints.length k1,.slice (some ⟨g2,0,none⟩) words.length k2,.int .i64 lo,.int .i64 hi,.int .i64 op,.slice (some ⟨g3,0,none⟩) kids.length k3] 28)).alloc (.cells #[.int .i64 kind,.string attr,.slice qi ints.length ci,.slice qw words.length cw,.int .i64 lo,.int .i64 hi,.int .i64 op,.slice qk kids.length ck] 28)=X:=⟨_,rfl⟩
 obtain ⟨hX0,hX1,hwX,hXs⟩:=twoM HX
 obtain ⟨x0,x1,x2,x3,x4,x5,x6,x7⟩:=of8' hX0
 obtain ⟨y0,y1,y2,y3,y4,y5,y6,y7⟩:=of8' hX1
 have HX0:=hide hX0
 have HX1:=hide hX1
 have HWX:=hide hwX
 have eq0:(op != op)=false:=by simp
 have eq1:((kids.length:Int) != (kids.length:Int))=false:=by simp
 have a0:(kids.length:Int)≤1000000000:=by omega
 have a1:(0:Int)≤(kids.length:Int):=by omega
 have a2:(kids.length:Int) + 1≤(k3:Int):=by omega
 have a3:(kids.length:Int) < (kids.length:Int) + 1:=by omega
 have c0:=keptPred_any kind attr ints words lo hi g1 k1 g2 k2 qi ci qw cw X (s1.below hwX) r1 z1 (s2.below hwX) (t1.below hwX) r2 z2 (t2.below hwX) (by omega) (by omega)
 have U1:=hide u1
 have N2:=hide n2
 have IH:=hide ih
 have HS:=hide hs
 have HL:=hide hl
 have mixed:Try.prog.follows .mixedOrders=true:=by kernel_rfl
 have en20:∀ args w,(callFunc 10 args).run Try.prog w=.ok (.enter 10 args) w:=enters_of Try.func10 (by kernel_rfl) rfl
 clear hwX hX0 hX1 s1 s2 t1 t2 n2 u1 hs ih hl
 go_enter Try.func10,Try.ntmps10
 go_wp2_with (go_at_call 28;refine c0.mono ?_;rintro e u1 ⟨rfl,b1⟩;obtain ⟨d0,d1,d2,d3,d4,d5,d6,d7⟩:=of8' ((b1.block _ (heap_lt (uh HX0))).trans (uh HX0));obtain ⟨e0,e1,e2,e3,e4,e5,e6,e7⟩:=of8' ((b1.block _ (heap_lt (uh HX1))).trans (uh HX1));obtain ⟨gl,p0,p1,p2,p3,p4,p5,p6,p7⟩:=spAt (j:=kids.length) (v:=spV) ((uh U1).below (below_sub (uh HWX) b1)) (by rw [List.getElem?_append_right (by have:=uh HL;omega),uh HL,Nat.sub_self];rfl);simp only [spV] at p6;have B1:=hide b1;clear b1 p0 p1 p2 p3 p4 p5 p7)
 go_loopw [47] (fun i wr=>∃ k:Nat,k≤kids.length∧i=.int .i64 k∧Below X.heap.size X wr) (fun i _=>kids.length - (intOf i).toNat)
 case atStart=>exact ⟨0,by omega,rfl,uh B1⟩
 case round =>
  obtain ⟨k,hk,rfl,hbel⟩:=hrel
  clear d0 d1 d2 d3 d4 d5 d6 d7 e0 e1 e2 e3 e4 e5 e6 e7 x0 x1 x2 x3 x4 x5 x6 x7 y0 y1 y2 y3 y4 y5 y6 y7 p6
  obtain ⟨f0,f1,f2,f3,f4,f5,f6,f7⟩:=of8' ((hbel.block _ (heap_lt (uh HX0))).trans (uh HX0))
  obtain ⟨j0,j1,j2,j3,j4,j5,j6,j7⟩:=of8' ((hbel.block _ (heap_lt (uh HX1))).trans (uh HX1))
  have HB:=hide hbel
  by_cases hlt:k < kids.length
  ·obtain ⟨y,hy,_⟩:=get_at hlt
   obtain ⟨v1,hv1,_⟩:=get_at (l:=vs) (k:=k) (by have:=uh HL;omega)
   have hw:=below_sub (uh HWX) hbel
   obtain ⟨gl2,q0,q1,q2,q3,q4,q5,q6,q7⟩:=spAt (j:=k) (v:=v1) ((uh U1).below hw) (by rw [List.getElem?_append_left (by have:=uh HL;omega)];exact hv1)
   obtain ⟨b',off',v2,hq',hb',hin2,z0,z1,z2,z3,z4,z5,z6,z7⟩:=(uh N2).cells hy hw
   subst hq'
   have hin1:=(uh HS k v1 y hv1 hy).keep hw
   have ki0:(0:Int)≤(k:Int):=by omega
   have ki1:(k:Int) < (kids.length:Int):=by omega
   have hxm:y ∈ kids:=List.mem_of_getElem? hy
   have q20:=fun (n:Nat) (os:Array Obj)=>uh IH y hxm B v1 v2 (grow (redrawn wr n) os) (hin1.keep (below_regrown wr n os)) (hin2.keep (below_regrown wr n os)) (Nat.le_trans (wtL_mem hxm) l3)
   simp only [Nv.val] at q20
   have F7:∀ n os,(grow (redrawn wr n) os).cell? ⟨w.heap.size,7,none⟩=some _:=cell_regrown f7
   have J7:∀ n os,(grow (redrawn wr n) os).cell? ⟨w.heap.size + 1,7,none⟩=some _:=cell_regrown j7
   have G0:∀ n os,(grow (redrawn wr n) os).cell? ⟨g3,k * 8,none⟩=some _:=cell_regrown q0
   have G1:∀ n os,(grow (redrawn wr n) os).cell? ⟨g3,k * 8 + 1,none⟩=some _:=cell_regrown q1
   have G2:∀ n os,(grow (redrawn wr n) os).cell? ⟨g3,k * 8 + 2,none⟩=some _:=cell_regrown q2
   have G3:∀ n os,(grow (redrawn wr n) os).cell? ⟨g3,k * 8 + 3,none⟩=some _:=cell_regrown q3
   have G4:∀ n os,(grow (redrawn wr n) os).cell? ⟨g3,k * 8 + 4,none⟩=some _:=cell_regrown q4
   have G5:∀ n os,(grow (redrawn wr n) os).cell? ⟨g3,k * 8 + 5,none⟩=some _:=cell_regrown q5
   have G6:∀ n os,(grow (redrawn wr n) os).cell? ⟨g3,k * 8 + 6,none⟩=some _:=cell_regrown q6
   have G7:∀ n os,(grow (redrawn wr n) os).cell? ⟨g3,k * 8 + 7,none⟩=some _:=cell_regrown q7
   have Z0:∀ n os,(grow (redrawn wr n) os).cell? ⟨b',off' + k * 8,none⟩=some _:=cell_regrown z0
   have Z1:∀ n os,(grow (redrawn wr n) os).cell? ⟨b',off' + k * 8 + 1,none⟩=some _:=cell_regrown z1
   have Z2:∀ n os,(grow (redrawn wr n) os).cell? ⟨b',off' + k * 8 + 2,none⟩=some _:=cell_regrown z2
   have Z3:∀ n os,(grow (redrawn wr n) os).cell? ⟨b',off' + k * 8 + 3,none⟩=some _:=cell_regrown z3
   have Z4:∀ n os,(grow (redrawn wr n) os).cell? ⟨b',off' + k * 8 + 4,none⟩=some _:=cell_regrown z4
   have Z5:∀ n os,(grow (redrawn wr n) os).cell? ⟨b',off' + k * 8 + 5,none⟩=some _:=cell_regrown z5
   have Z6:∀ n os,(grow (redrawn wr n) os).cell? ⟨b',off' + k * 8 + 6,none⟩=some _:=cell_regrown z6
   have Z7:∀ n os,(grow (redrawn wr n) os).cell? ⟨b',off' + k * 8 + 7,none⟩=some _:=cell_regrown z7
   clear hin1 hin2 hw f0 f1 f2 f3 f4 f5 f6 j0 j1 j2 j3 j4 j5 j6 q0 q1 q2 q3 q4 q5 q6 q7 z0 z1 z2 z3 z4 z5 z6 z7 hv1 hy hbel hxm
   go_wp2
   refine wp_region_quiet_below (by assumption) (by kernel_rfl) ?_
   repeat (go_big_quiet_step (first
    | (go_at_fn 10;refine Calls.regrown_of (q20 _ _))))
   refine wpQuiet_nil ?_
   intro _ hw'
   obtain ⟨⟨dq,osq⟩,hw''⟩:=hw'
   subst hw''
   go_wp2
   exact ⟨⟨k + 1,by omega,congrArg (Value.int .i64) (by omega),below_sub (uh HB) (below_regrown _ _ _)⟩,by simp [intOf];omega⟩
  ·have ki1:¬ (k:Int) < (kids.length:Int):=by omega
   go_wp2
   go_ret
   exact ⟨rfl,below_sub (uh HWX) (uh HB)⟩
theorem kept_any:∀ x,KeptP x:=by
 intro x
 induction x using Nd.ind with
 | h kind attr ints words lo hi op kids ih =>
  intro B v v' w hsp hin hwt
  obtain ⟨qi,ci,qw,cw,qk,ck,rfl,h1,h2,hk⟩:=hin.parts
  simp only [wtN] at hwt
  have hwl:=words_len words
  cases hsp with
  | mk a1 a2 a3 b1 b2 b3 c1 c2 c3 hl hr d1 d2 d3=>exact kept_at kind attr ints words lo hi op kids B _ _ _ _ _ _ _ qi ci qw cw qk ck w a1.1 a2 a3 b1.1 b2 b3 c1.1 c2 c3 hl hr h1 h2 hk ih (by omega) (by omega) (by omega)
end Go.Proofs.Ytikhopiegaoacac

/- push.widthOf: how many conjunctions a pushed tree comes to, cut behind most. -/
import Derived.Test.YtimklglliffpcaaGreatQPushDown
import Derived.Test.YtimklglliffpcaaGreatQZag
import Derived.Test.YtimklglliffpcaaGreatQZab
import Derived.Lib.QuietBelow
import Derived.BigQuiet
import Derived.Shelf.Abstract
namespace Go.Proofs.YtimklglliffpcaaGreat
open Go.RowKit Go.Sort

mutual
/-- The width of a pushed tree. -/
def widN (m:Int):Nd→Int
 | .mk _ _ _ _ _ _ op ks=>if op=4 then sumB m (widL m ks) else if op=3 then prodB m (widL m ks) else 1
def widL (m:Int):List Nd→List Int
 | []=>[]
 | x :: xs=>widN m x :: widL m xs
end
theorem widL_map (m:Int) (l:List Nd):widL m l=l.map (widN m):=by
 induction l with
 | nil=>simp [widL]
 | cons x l ih=>simp [widL,ih]
theorem widL_len (m:Int) (l:List Nd):(widL m l).length=l.length:=by rw [widL_map];simp
theorem flatW_map (l:List Int):(flatK encI 1 l.toArray).toList=l.map (fun x=>Value.int .i64 x):=by
 apply List.ext_getElem?
 intro j
 by_cases hj:j < l.length
 ·obtain ⟨x,hx,_⟩:=get_at hj
  have:=flat_at (enc:=encI) (k:=1) hx 0 (by omega)
  rw [Nat.mul_one,Nat.add_zero] at this
  rw [this,List.getElem?_map,hx];rfl
 ·rw [List.getElem?_eq_none (by simp;omega),List.getElem?_eq_none (by simp;omega)]
theorem makeIn (n:Nat) (h:n * 8≤140737488355328):∃ cur:Array Value,cur.size=n * 1∧∀ W:World,(Instr.makeSlice 23 (.int .i64 (n:Int)) (.int .i64 (n:Int))).run Tryz.prog W=.ok (.slice (some ⟨W.heap.size,0,none⟩) n n) (W.alloc (.cells cur 3)):=by
 obtain ⟨i0,hi,hz0,hz1,hz2⟩:=info_parts Tryz.info3
 refine ⟨madeCells (Value.cells (.int .i64 0)) (n * i0.size),by rw [size_madeCells,hz1],fun W=>?_⟩
 have:=run_make (P:=Tryz.prog) W 23 3 i0 _ Tryz.underlying23 hi hz0 .i64 .i64 (n:Int) (n:Int) (by omega) (by omega) (by rw [hz2];omega) (by omega)
 simpa only [Int.toNat_natCast] using this
theorem ownsRow_free {w:World} {B n c g k:Nat} {e:TypeId} {xs:List Value} (h:w.ownsRow B e k (.slice (some ⟨g,0,none⟩) n c) n xs):∀ o,w.frozen? ⟨g,o,none⟩=false:=by
 rcases h.2 with ⟨h0,_⟩ | ⟨g',cp,cur',h0,_,hg',_⟩
 ·simp at h0
 ·simp only [Value.slice.injEq,Option.some.injEq,Addr.mk.injEq,and_true,true_and] at h0
  rw [h0.1]
  exact fun o=>frozen_free hg'
def WidP (x:Nd):Prop:=∀ (m:Int) (v:Nv) (w:World),NdIn w v x→wtN x≤1000000000→Calls Tryz.prog 170 #[v.val,.int .i64 m] w fun e w'=>e=.returned (.int .i64 (widN m x))∧Below w.heap.size w w'
set_option maxRecDepth 100000 in
set_option maxHeartbeats 4000000 in
theorem kidWidths_any (kind:Int) (attr:ByteArray) (qi:Option Addr) (ci:Nat) (ints:List Int) (qw:Option Addr) (cw:Nat) (words:List ByteArray) (lo hi op:Int) (qk:Option Addr) (ck:Nat) (kids:List Nd) (m:Int) (w:World) (hk:NdsOf w qk ck kids) (ih:∀ x ∈ kids,WidP x) (l3:wtL kids≤1000000000) :
  Calls Tryz.prog 201 #[.agg #[.int .i64 kind,.string attr,.slice qi ints.length ci,.slice qw words.length cw,.int .i64 lo,.int .i64 hi,.int .i64 op,.slice qk kids.length ck],.int .i64 m] w fun e w'=>(∃ q c,e=.returned (.slice q kids.length c)∧SlOf encI 1 w' q c (widL m kids))∧Below w.heap.size w w':=by
 have hlen:=Nat.le_trans (Nat.le_trans (len_size kids) (sizeL_wt kids)) l3
 have a0:(kids.length:Int)≤1000000000:=by omega
 have a1:(0:Int)≤(kids.length:Int):=by omega
 obtain ⟨cur,hcs,hmk⟩:=makeIn kids.length (by omega)
 obtain ⟨X,HX⟩:∃ X,w.alloc (.cells #[.int .i64 kind,.string attr,.slice qi ints.length ci,.slice qw words.length cw,.int .i64 lo,.int .i64 hi,.int .i64 op,.slice qk kids.length ck] 56)=X:=⟨_,rfl⟩
 have hX0:X.heap[w.heap.size]? = some (.cells #[.int .i64 kind,.string attr,.slice qi ints.length ci,.slice qw words.length cw,.int .i64 lo,.int .i64 hi,.int .i64 op,.slice qk kids.length ck] 56 (0,0)):=by rw [← HX];exact box_nw _ _
 have hwX:Below w.heap.size w X:=by rw [← HX];exact (Below.refl _ _).alloc (Nat.le_refl _) _
 have hXs:X.heap.size=w.heap.size + 1:=by rw [← HX];simp
 obtain ⟨x0,x1,x2,x3,x4,x5,x6,x7⟩:=of8' hX0
 obtain ⟨Y,HY⟩:∃ Y,X.alloc (.cells cur 3)=Y:=⟨_,rfl⟩
 have hY0:Y.heap[w.heap.size + 1]? = some (.cells cur 3 (0,0)):=by rw [← HY,← hXs];exact box_nw _ _
 have hXY:Below X.heap.size X Y:=by rw [← HY];exact (Below.refl _ _).alloc (Nat.le_refl _) _
 have hYs:Y.heap.size=w.heap.size + 2:=by rw [← HY];simp [hXs]
 obtain ⟨y0,y1,y2,y3,y4,y5,y6,y7⟩:=of8' ((hXY.block _ (by omega)).trans hX0)
 have hOwn:Y.ownsRow (w.heap.size + 1) 3 1 (.slice (some ⟨w.heap.size + 1,0,none⟩) kids.length kids.length) kids.length cur.toList :=
  ⟨by simp [hcs],.inr ⟨w.heap.size + 1,kids.length,cur,rfl,Nat.le_refl _,hY0,Nat.le_refl _,by unfold maxLen;omega,hcs,by rw [List.take_of_length_le (by simp [hcs])]⟩⟩
 have HOW:=hide hOwn
 have HK:=hide hk
 have IH:=hide ih
 have HWX:=hide hwX
 have HXY:=hide hXY
 have HCS:=hide hcs
 clear hk ih hwX hX0 hXY hOwn hY0 hcs
 go_enter Tryz.func201,Tryz.ntmps201
 go_wp2
 go_loopw [15] (fun i wr=>∃ k:Nat,k≤kids.length∧i=.int .i64 k∧wr.ownsRow (w.heap.size + 1) 3 1 (.slice (some ⟨w.heap.size + 1,0,none⟩) kids.length kids.length) kids.length ((widL m (kids.take k)).map (fun x=>Value.int .i64 x) ++ cur.toList.drop k)∧Below (w.heap.size + 1) Y wr∧w.heap.size + 2≤wr.heap.size) (fun i _=>kids.length - (intOf i).toNat)
 case atStart=>exact ⟨0,by omega,rfl,by simpa [widL] using uh HOW,Below.refl _ _,by omega⟩
 case round =>
  obtain ⟨k,hkk,rfl,hown,hbel,hsz⟩:=hrel
  have BW:=hide (show Below w.heap.size w wr from ((below_sub (uh HWX) (uh HXY)).trans (hbel.mono (by omega))))
  have HB:=hide hbel
  have HO:=hide hown
  by_cases hlt:k < kids.length
  ·obtain ⟨x,hx,hxd⟩:=get_at hlt
   clear hxd
   obtain ⟨b,off,v,hq,hin,g0,g1,g2,g3,g4,g5,g6,g7⟩:=(uh HK).on hx (uh BW)
   subst hq
   have hxm:x ∈ kids:=List.mem_of_getElem? hx
   have hxw:=wtL_mem hxm
   have ki0:(0:Int)≤(k:Int):=by omega
   have ki1:(k:Int) < (kids.length:Int):=by omega
   obtain ⟨Z,HZ⟩:∃ Z,wr.alloc (.cells #[.int .i64 v.kind,.string v.attr,.slice v.qi v.ni v.ci,.slice v.qw v.nw v.cw,.int .i64 v.lo,.int .i64 v.hi,.int .i64 v.op,.slice v.qk v.nk v.ck] 56)=Z:=⟨_,rfl⟩
   have bZ:Below wr.heap.size wr Z:=by rw [← HZ];exact (Below.refl _ _).alloc (Nat.le_refl _) _
   have zk:Z.heap[wr.heap.size]? = some (.cells #[.int .i64 v.kind,.string v.attr,.slice v.qi v.ni v.ci,.slice v.qw v.nw v.cw,.int .i64 v.lo,.int .i64 v.hi,.int .i64 v.op,.slice v.qk v.nk v.ck] 56 (0,0)):=by rw [← HZ];exact box_nw _ _
   obtain ⟨z0,z1,z2,z3,z4,z5,z6,z7⟩:=of8' zk
   have hW:=uh IH x hxm m v Z (hin.keep bZ) (by omega)
   simp only [Nv.val] at hW
   obtain ⟨N,hN⟩:∃ N,widN m x=N:=⟨_,rfl⟩
   have HSN:=hide (show widL m (kids.take (k + 1))=widL m (kids.take k) ++ [N] by rw [take_snoc_of hx,widL_map,widL_map,List.map_append,← hN];rfl)
   rw [hN] at hW
   have hlk:((widL m (kids.take k)).map (fun x=>Value.int .i64 x)).length=k:=by rw [List.length_map,widL_len,List.length_take];omega
   have hck:k < cur.size:=by have:=uh HCS;omega
   have BZ:=hide bZ
   clear hin hx hxm hown hbel bZ zk hN
   go_wp2_with (go_at_call 170;refine hW.mono ?_;rintro e w2 ⟨rfl,b2⟩;have B2:=hide b2;have b3:=hide (below_sub (uh BZ) b2);have HO2:=hide (World.ownsRow.kept (uh HO) (row:=none) ⟨(uh b3).os,(uh b3).tape,(uh b3).output,(uh b3).size,fun j hj _=>(uh b3).block j hj⟩ (Or.inr (by simp [Value.ownBlock])));have cg:w2.cell? ⟨w.heap.size + 1,k,none⟩=some (cur.toList[k]'(by simpa using hck)):=(by rw [World.ownsRow.cellAt (uh HO2) k (by omega),List.getElem?_append_right (by omega),hlk,Nat.sub_self,List.getElem?_drop,Nat.add_zero,List.getElem?_eq_getElem (by simpa using hck)]);have cf:∀ o,w2.frozen? ⟨w.heap.size + 1,o,none⟩=false:=ownsRow_free (uh HO2);clear b2)
   go_roundw
   case rel =>
    have st:=World.ownsRow.stored (uh HO2) k (.int .i64 N)
    refine ⟨k + 1,by omega,by go_num, ?_, ?_, ?_⟩
    ·have e:((widL m (kids.take k)).map (fun x=>Value.int .i64 x) ++ cur.toList.drop k).set k (.int .i64 N)=(widL m (kids.take (k + 1))).map (fun x=>Value.int .i64 x) ++ cur.toList.drop (k + 1):=by
      rw [uh HSN,List.map_append,List.set_append_right _ _ (by omega),hlk,Nat.sub_self,List.drop_eq_getElem_cons (by simpa using hck)]
      simp
     rw [← e];exact st.1
    ·exact ((uh HB).trans ((uh b3).mono (by omega))).setCell (Nat.le_refl _) _
    ·have:=(uh b3).size;simp;omega
   case measure=>simp [intOf];omega
  ·have hkl:k=kids.length:=by omega
   subst hkl
   have ki1:¬ (kids.length:Int) < (kids.length:Int):=by omega
   clear hown hbel
   go_wp2
   go_ret
   refine ⟨⟨some ⟨w.heap.size + 1,0,none⟩,kids.length,rfl, ?_⟩,uh BW⟩
   have h:=uh HO
   rw [List.take_of_length_le (Nat.le_refl _),List.drop_of_length_le (by have:=uh HCS;simp;omega),List.append_nil,← flatW_map] at h
   have h2:OwnK encI 3 1 (w.heap.size + 1) wr (some ⟨w.heap.size + 1,0,none⟩) kids.length (widL m kids):=by
    unfold OwnK;rw [widL_len];exact h
   exact h2.ls
set_option maxRecDepth 100000 in
set_option maxHeartbeats 4000000 in
theorem width_at (kind:Int) (attr:ByteArray) (qi:Option Addr) (ci:Nat) (ints:List Int) (qw:Option Addr) (cw:Nat) (words:List ByteArray) (lo hi op:Int) (qk:Option Addr) (ck:Nat) (kids:List Nd) (m:Int) (w:World) (hk:NdsOf w qk ck kids) (ih:∀ x ∈ kids,WidP x) (l3:wtL kids≤1000000000) :
  Calls Tryz.prog 170 #[.agg #[.int .i64 kind,.string attr,.slice qi ints.length ci,.slice qw words.length cw,.int .i64 lo,.int .i64 hi,.int .i64 op,.slice qk kids.length ck],.int .i64 m] w fun e w'=>e=.returned (.int .i64 (widN m (.mk kind attr ints words lo hi op kids)))∧Below w.heap.size w w':=by
 have hlen:=Nat.le_trans (Nat.le_trans (len_size kids) (sizeL_wt kids)) l3
 obtain ⟨X,HX⟩:∃ X,w.alloc (.cells #[.int .i64 kind,.string attr,.slice qi ints.length ci,.slice qw words.length cw,.int .i64 lo,.int .i64 hi,.int .i64 op,.slice qk kids.length ck] 56)=X:=⟨_,rfl⟩
 have hX0:X.heap[w.heap.size]? = some (.cells #[.int .i64 kind,.string attr,.slice qi ints.length ci,.slice qw words.length cw,.int .i64 lo,.int .i64 hi,.int .i64 op,.slice qk kids.length ck] 56 (0,0)):=by rw [← HX];exact box_nw _ _
 have hwX:Below w.heap.size w X:=by rw [← HX];exact (Below.refl _ _).alloc (Nat.le_refl _) _
 obtain ⟨x0,x1,x2,x3,x4,x5,x6,x7⟩:=of8' hX0
 have hW:=kidWidths_any kind attr qi ci ints qw cw words lo hi op qk ck kids m X (hk.below hwX) ih l3
 have hS:=fun (q:Option Addr) (c:Nat) (W:World) (h:SlOf encI 1 W q c (widL m kids))=>sum_any m q c (widL m kids) W h (by rw [widL_len];omega)
 have hP:=fun (q:Option Addr) (c:Nat) (W:World) (h:SlOf encI 1 W q c (widL m kids))=>prod_any m q c (widL m kids) W h (by rw [widL_len];omega)
 rw [widL_len] at hS hP
 have HWX:=hide hwX
 clear hk ih hwX hX0
 by_cases h4:op=4
 ·subst h4
  simp only [widN,if_true]
  go_enter Tryz.func170,Tryz.ntmps170
  go_wp2_with (first
   | (go_at_call 201;refine hW.mono ?_;rintro e w1 ⟨⟨q,c,rfl,hs⟩,b1⟩;have HS:=hide hs;have B1:=hide b1;clear hs b1)
   | (go_at_call 172;refine (hS _ _ _ (uh HS)).mono ?_;rintro e w2 ⟨rfl,b2⟩;have B2:=hide b2;clear b2))
  go_ret
  exact ⟨rfl,below_sub (below_sub (uh HWX) (uh B1)) (uh B2)⟩
 ·by_cases h3:op=3
  ·subst h3
   simp only [widN,if_neg h4,if_true]
   clear h4
   go_enter Tryz.func170,Tryz.ntmps170
   go_wp2_with (first
    | (go_at_call 201;refine hW.mono ?_;rintro e w1 ⟨⟨q,c,rfl,hs⟩,b1⟩;have HS:=hide hs;have B1:=hide b1;clear hs b1)
    | (go_at_call 173;refine (hP _ _ _ (uh HS)).mono ?_;rintro e w2 ⟨rfl,b2⟩;have B2:=hide b2;clear b2))
   go_ret
   exact ⟨rfl,below_sub (below_sub (uh HWX) (uh B1)) (uh B2)⟩
  ·simp only [widN,if_neg h4,if_neg h3]
   go_enter Tryz.func170,Tryz.ntmps170
   go_wp2
   go_ret
   exact ⟨rfl,uh HWX⟩
theorem width_any:∀ x,WidP x:=by
 intro t
 induction t using Nd.ind with
 | h kind attr ints words lo hi op kids ih =>
  intro m v w hin hwt
  obtain ⟨qi,ci,qw,cw,qk,ck,rfl,h1,h2,hk⟩:=hin.parts
  simp only [wtN] at hwt
  have:=width_at kind attr qi ci ints qw cw words lo hi op qk ck kids m w hk ih (by omega)
  simpa only [Nv.val] using this
end Go.Proofs.YtimklglliffpcaaGreat
namespace Go.Proofs.YtimklglliffpcaaGreat
open Go.RowKit Go.Sort

def opN:Nd→Int
 | .mk _ _ _ _ _ _ op _=>op
def headPred:List Nd→Bool
 | []=>false
 | x :: _=>decide (opN x=1)
mutual
/-- Do negations stand at predicates alone? -/
def atN:Nd→Bool
 | .mk _ _ _ _ _ _ op ks=>if op=2 then headPred ks else atL ks
def atL:List Nd→Bool
 | []=>true
 | x :: xs=>atN x && atL xs
end
/-- What Push answers. -/
def PushT (x:Nd):Nd:=if chkN x then downN x false else zeroT
set_option maxRecDepth 100000 in
set_option maxHeartbeats 4000000 in
theorem push_any (x:Nd) (v:Nv) (w:World) (hin:NdIn w v x) (hwt:wtN x≤1000000000) :
  Calls Tryz.prog 135 #[v.val] w fun e w'=>(∃ v',e=.returned (.tuple #[v'.val,.int .i64 (code (chkN x))])∧NdFrom w' w.heap.size v' (PushT x))∧Below w.heap.size w w':=by
 obtain ⟨X,HX⟩:∃ X,(w.alloc (.cells #[.int .i64 v.kind,.string v.attr,.slice v.qi v.ni v.ci,.slice v.qw v.nw v.cw,.int .i64 v.lo,.int .i64 v.hi,.int .i64 v.op,.slice v.qk v.nk v.ck] 56)).alloc (.cells #[.int .i64 0,.string ⟨#[]⟩,.slice none 0 0,.slice none 0 0,.int .i64 0,.int .i64 0,.int .i64 0,.slice none 0 0] 56)=X:=⟨_,rfl⟩
 obtain ⟨hX0,hX1,hwX,hXs⟩:=twoM HX
 obtain ⟨x0,x1,x2,x3,x4,x5,x6,x7⟩:=of8' hX0
 obtain ⟨y0,y1,y2,y3,y4,y5,y6,y7⟩:=of8' hX1
 have yf:∀ o,X.frozen? ⟨w.heap.size + 1,o,none⟩=false:=fun o=>frozen_free hX1
 have hz1:w.heap.size + 1 < X.heap.size:=by omega
 have hz0:w.heap.size < X.heap.size:=by omega
 have hc:=checkT_any x v X (hin.keep hwX) hwt
 have HWX:=hide hwX
 have HX0:=hide hX0
 unfold PushT
 cases hx:chkN x
 ·rw [hx,show code false=1 from rfl] at hc
  simp only [Nv.val] at hc
  simp only [Bool.false_eq_true,if_false]
  simp only [show code false=1 from rfl,Nv.val]
  clear hin hwX hX0 hX1
  go_enter Tryz.func135,Tryz.ntmps135
  go_wp2_with (go_at_call 91;refine hc.mono ?_;rintro e w1 ⟨rfl,b1⟩;obtain ⟨r0,r1,r2,r3,r4,r5,r6,r7⟩:w1.cell? ⟨w.heap.size + 1,0,none⟩=some (.int .i64 0)∧w1.cell? ⟨w.heap.size + 1,1,none⟩=some (.string ⟨#[]⟩)∧w1.cell? ⟨w.heap.size + 1,2,none⟩=some (.slice none 0 0)∧w1.cell? ⟨w.heap.size + 1,3,none⟩=some (.slice none 0 0)∧w1.cell? ⟨w.heap.size + 1,4,none⟩=some (.int .i64 0)∧w1.cell? ⟨w.heap.size + 1,5,none⟩=some (.int .i64 0)∧w1.cell? ⟨w.heap.size + 1,6,none⟩=some (.int .i64 0)∧w1.cell? ⟨w.heap.size + 1,7,none⟩=some (.slice none 0 0):=⟨(b1.cell (by exact hz1)).trans y0,(b1.cell (by exact hz1)).trans y1,(b1.cell (by exact hz1)).trans y2,(b1.cell (by exact hz1)).trans y3,(b1.cell (by exact hz1)).trans y4,(b1.cell (by exact hz1)).trans y5,(b1.cell (by exact hz1)).trans y6,(b1.cell (by exact hz1)).trans y7⟩;have rf:∀ o,w1.frozen? ⟨w.heap.size + 1,o,none⟩=false:=(fun o=>(b1.frozen (by exact hz1)).trans (yf o));have rz:w.heap.size + 1 < w1.heap.size:=(by have:=b1.size;omega);have B1:=hide b1;clear b1)
  refine bodyPost_ret (v:=.tuple #[.agg #[.int .i64 0,.string ⟨#[]⟩,.slice none 0 0,.slice none 0 0,.int .i64 0,.int .i64 0,.int .i64 0,.slice none 0 0],.int .i64 1]) (by simp [results,Tryz.results135,go_sem, *]) rfl ⟨⟨⟨0,⟨#[]⟩,none,0,0,none,0,0,0,0,0,none,0,0⟩,rfl, ?_⟩,set8_below (g:=w.heap.size + 1) (below_sub (uh HWX) (uh B1)) (Nat.le_succ _) _ _ _ _ _ _ _ _⟩
  exact NdFrom.make (ints:=[]) (words:=[]) (kids:=[]) (vs:=[]) (SlOf.none _) no_from (SlOf.none _) no_from (SlOf.none _) no_from rfl (fun j v x h=>by simp at h)
 ·have hD:=fun (W:World) (hW:Below X.heap.size X W)=>down_any x false v W ((hin.keep hwX).keep hW) hx hwt
  rw [hx,show code true=0 from rfl] at hc
  simp only [Nv.val] at hc hD
  simp only [if_true]
  simp only [show code true=0 from rfl,Nv.val]
  clear hin hwX hX0 hX1
  go_enter Tryz.func135,Tryz.ntmps135
  go_wp2_with (first
   | (go_at_call 91;refine hc.mono ?_;rintro e w1 ⟨rfl,b1⟩;obtain ⟨s0,s1,s2,s3,s4,s5,s6,s7⟩:=of8' ((b1.block _ hz0).trans (uh HX0));have B1:=hide b1;clear b1)
   | (go_at_call 171;refine (hD _ (uh B1)).mono ?_;rintro e w2 ⟨⟨u,rfl,hu⟩,b2'⟩;simp only [Nv.val];have b2:=below_sub (uh B1) b2';obtain ⟨r0,r1,r2,r3,r4,r5,r6,r7⟩:w2.cell? ⟨w.heap.size + 1,0,none⟩=some (.int .i64 0)∧w2.cell? ⟨w.heap.size + 1,1,none⟩=some (.string ⟨#[]⟩)∧w2.cell? ⟨w.heap.size + 1,2,none⟩=some (.slice none 0 0)∧w2.cell? ⟨w.heap.size + 1,3,none⟩=some (.slice none 0 0)∧w2.cell? ⟨w.heap.size + 1,4,none⟩=some (.int .i64 0)∧w2.cell? ⟨w.heap.size + 1,5,none⟩=some (.int .i64 0)∧w2.cell? ⟨w.heap.size + 1,6,none⟩=some (.int .i64 0)∧w2.cell? ⟨w.heap.size + 1,7,none⟩=some (.slice none 0 0):=⟨(b2.cell (by exact hz1)).trans y0,(b2.cell (by exact hz1)).trans y1,(b2.cell (by exact hz1)).trans y2,(b2.cell (by exact hz1)).trans y3,(b2.cell (by exact hz1)).trans y4,(b2.cell (by exact hz1)).trans y5,(b2.cell (by exact hz1)).trans y6,(b2.cell (by exact hz1)).trans y7⟩;have rf:∀ o,w2.frozen? ⟨w.heap.size + 1,o,none⟩=false:=(fun o=>(b2.frozen (by exact hz1)).trans (yf o));have rz:w.heap.size + 1 < w2.heap.size:=(by have:=b2.size;omega);have HU:=hide hu;have B2:=hide b2;have S1:=hide (uh B1).size;clear hu b2 b2'))
  refine bodyPost_ret (v:=.tuple #[.agg #[.int .i64 u.kind,.string u.attr,.slice u.qi u.ni u.ci,.slice u.qw u.nw u.cw,.int .i64 u.lo,.int .i64 u.hi,.int .i64 u.op,.slice u.qk u.nk u.ck],.int .i64 0]) (by simp [results,Tryz.results135,go_sem, *]) rfl ⟨⟨u,rfl,((uh HU).up (set8_up (g:=w.heap.size + 1) w2 (by have:=uh S1;omega) _ _ _ _ _ _ _ _)).mono (by have:=uh S1;omega)⟩,set8_below (g:=w.heap.size + 1) (below_sub (uh HWX) (uh B2)) (Nat.le_succ _) _ _ _ _ _ _ _ _⟩
/-- What Width answers: the number and the code. -/
def WidthA (x:Nd) (m:Int):Int:=if chkN x then (if 1≤m∧m≤64 then widN m (downN x false) else 0) else 0
def WidthE (x:Nd) (m:Int):Int:=if chkN x then (if 1≤m∧m≤64 then 0 else 2) else 1
set_option maxRecDepth 100000 in
set_option maxHeartbeats 4000000 in
theorem pushWidth_any (x:Nd) (m:Int) (v:Nv) (w:World) (hin:NdIn w v x) (hwt:wtN x≤1000000000) (hwd:wtN (downN x false)≤1000000000) :
  Calls Tryz.prog 134 #[v.val,.int .i64 m] w fun e w'=>e=.returned (.tuple #[.int .i64 (WidthA x m),.int .i64 (WidthE x m)])∧Below w.heap.size w w':=by
 obtain ⟨X,HX⟩:∃ X,w.alloc (.cells #[.int .i64 v.kind,.string v.attr,.slice v.qi v.ni v.ci,.slice v.qw v.nw v.cw,.int .i64 v.lo,.int .i64 v.hi,.int .i64 v.op,.slice v.qk v.nk v.ck] 56)=X:=⟨_,rfl⟩
 have hX0:X.heap[w.heap.size]? = some (.cells #[.int .i64 v.kind,.string v.attr,.slice v.qi v.ni v.ci,.slice v.qw v.nw v.cw,.int .i64 v.lo,.int .i64 v.hi,.int .i64 v.op,.slice v.qk v.nk v.ck] 56 (0,0)):=by rw [← HX];exact box_nw _ _
 have hwX:Below w.heap.size w X:=by rw [← HX];exact (Below.refl _ _).alloc (Nat.le_refl _) _
 obtain ⟨x0,x1,x2,x3,x4,x5,x6,x7⟩:=of8' hX0
 have hp:=push_any x v X (hin.keep hwX) hwt
 have HWX:=hide hwX
 clear hin hwX hX0
 unfold WidthA WidthE
 cases hx:chkN x
 ·rw [hx,show code false=1 from rfl] at hp
  simp only [Nv.val] at hp
  simp only [Nv.val,Bool.false_eq_true,if_false]
  go_enter Tryz.func134,Tryz.ntmps134
  go_wp2_with (go_at_call 135;refine hp.mono ?_;rintro e w1 ⟨⟨u,rfl,hu⟩,b1⟩;have B1:=hide b1;clear b1 hu)
  refine bodyPost_ret (v:=.tuple #[.int .i64 0,.int .i64 1]) (by simp [results,Tryz.results134,go_sem]) rfl ⟨rfl,(below_sub (uh HWX) (uh B1)).alloc (below_sub (uh HWX) (uh B1)).size _⟩
 ·rw [hx,show code true=0 from rfl] at hp
  simp only [PushT,hx,if_true] at hp
  have hW:=fun (u:Nv) (W:World) (hW:NdIn W u (downN x false))=>width_any (downN x false) m u W hW hwd
  simp only [Nv.val] at hp hW
  simp only [Nv.val,if_true]
  by_cases hm:1≤m∧m≤64
  ·rw [if_pos hm,if_pos hm]
   obtain ⟨m1,m2⟩:=hm
   have f1:¬ m < 1:=by omega
   have f2:¬ 64 < m:=by omega
   go_enter Tryz.func134,Tryz.ntmps134
   go_wp2_with (first
    | (go_at_call 135;refine hp.mono ?_;rintro e w1 ⟨⟨u,rfl,hu⟩,b1⟩;have B1:=hide b1;have HU:=hide (hu.toIn.keep ((Below.refl w1.heap.size w1).alloc (Nat.le_refl _) (.cells #[.int .i64 u.kind,.string u.attr,.slice u.qi u.ni u.ci,.slice u.qw u.nw u.cw,.int .i64 u.lo,.int .i64 u.hi,.int .i64 u.op,.slice u.qk u.nk u.ck] 56)));clear b1 hu)
    | (go_at_call 170;refine (hW _ _ (uh HU)).mono ?_;rintro e w2 ⟨rfl,b2⟩;have B2:=hide b2;clear b2))
   refine bodyPost_ret (v:=.tuple #[.int .i64 (widN m (downN x false)),.int .i64 0]) (by simp [results,Tryz.results134,go_sem]) rfl ⟨rfl,below_sub ((below_sub (uh HWX) (uh B1)).alloc (below_sub (uh HWX) (uh B1)).size _) (uh B2)⟩
  ·rw [if_neg hm,if_neg hm]
   by_cases f1:m < 1
   ·clear hm
    go_enter Tryz.func134,Tryz.ntmps134
    go_wp2_with (go_at_call 135;refine hp.mono ?_;rintro e w1 ⟨⟨u,rfl,hu⟩,b1⟩;have B1:=hide b1;clear b1 hu)
    refine bodyPost_ret (v:=.tuple #[.int .i64 0,.int .i64 2]) (by simp [results,Tryz.results134,go_sem]) rfl ⟨rfl,(below_sub (uh HWX) (uh B1)).alloc (below_sub (uh HWX) (uh B1)).size _⟩
   ·have f2:64 < m:=by omega
    clear hm
    go_enter Tryz.func134,Tryz.ntmps134
    go_wp2_with (go_at_call 135;refine hp.mono ?_;rintro e w1 ⟨⟨u,rfl,hu⟩,b1⟩;have B1:=hide b1;clear b1 hu)
    refine bodyPost_ret (v:=.tuple #[.int .i64 0,.int .i64 2]) (by simp [results,Tryz.results134,go_sem]) rfl ⟨rfl,(below_sub (uh HWX) (uh B1)).alloc (below_sub (uh HWX) (uh B1)).size _⟩
end Go.Proofs.YtimklglliffpcaaGreat
namespace Go.Proofs.YtimklglliffpcaaGreat
open Go.RowKit Go.Sort

theorem zero8:zeroB 0 ⟨#[]⟩ 0 0 0 0=true:=by decide +kernel
theorem chk_lit {kind:Int} {attr:ByteArray} {ints:List Int} {words:List ByteArray} {lo hi:Int} (neg:Bool) (h:predB kind attr ints words lo hi=true):chkN (litT kind attr ints words lo hi neg)=true:=by
 have h1:chkN (.mk kind attr ints words lo hi 1 [])=true:=by simp [chkN,nodeB,h,chkL]
 cases neg
 ·simpa [litT] using h1
 ·simp [litT,notT,chkN,nodeB,chkL,h,zero8]
theorem downL_mem {l:List Nd} {neg:Bool} {y:Nd} (h:y ∈ downL l neg):∃ x ∈ l,y=downN x neg:=by
 rw [downL_map] at h
 obtain ⟨x,hx,rfl⟩:=List.mem_map.1 h
 exact ⟨x,hx,rfl⟩
theorem chkL_of {l:List Nd} (h:∀ x ∈ l,chkN x=true):chkL l=true:=by
 induction l with
 | nil=>rfl
 | cons x l ih=>simp [chkL,h x (by simp),ih fun y hy=>h y (by simp [hy])]
theorem atL_of {l:List Nd} (h:∀ x ∈ l,atN x=true):atL l=true:=by
 induction l with
 | nil=>rfl
 | cons x l ih=>simp [atL,h x (by simp),ih fun y hy=>h y (by simp [hy])]
theorem op2_34 {op:Int} (h:op=3 ∨ op=4) (neg:Bool):((if neg then otherI op else op)=3 ∨ (if neg then otherI op else op)=4):=by
 rcases h with rfl | rfl <;> cases neg <;> simp [otherI]
theorem down_34 {kind lo hi op:Int} {attr:ByteArray} {ints:List Int} {words:List ByteArray} {kids:List Nd} (ho:op=3 ∨ op=4) (neg:Bool):downN (.mk kind attr ints words lo hi op kids) neg=.mk 0 ⟨#[]⟩ [] [] 0 0 (if neg then otherI op else op) (downL kids neg):=by
 have n1:¬ op=1:=by omega
 have n2:¬ op=2:=by omega
 simp only [downN,if_neg n1,if_neg n2]
theorem chk_down:∀ (t:Nd) (neg:Bool),chkN t=true→chkN (downN t neg)=true:=by
 intro t
 induction t using Nd.ind with
 | h kind attr ints words lo hi op kids ih =>
  intro neg hc
  rcases chk_parts hc with ⟨rfl,rfl,hp⟩ | ⟨rfl,⟨x,rfl,hx⟩,_⟩ | ⟨ho,h2,hl,_⟩
  ·simpa [downN] using chk_lit neg hp
  ·simpa [downN,downH] using ih x (by simp) (!neg) hx
  ·rw [down_34 ho]
   have h3:=op2_34 ho neg
   generalize (if neg=true then otherI op else op)=op2 at h3
   have hL:chkL (downL kids neg)=true:=chkL_of fun y hy=>by
    obtain ⟨x,hx,rfl⟩:=downL_mem hy
    exact ih x hx neg (chkL_all hl x hx)
   have hlen:2≤(downL kids neg).length:=by rw [downL_len];exact h2
   rcases h3 with rfl | rfl <;> simp [chkN,nodeB,zero8,hL,hlen]
theorem op_lit {kind:Int} {attr:ByteArray} {ints:List Int} {words:List ByteArray} {lo hi:Int} (neg:Bool):atN (litT kind attr ints words lo hi neg)=true:=by
 cases neg <;> simp [litT,notT,atN,atL,headPred,opN]
theorem at_down:∀ (t:Nd) (neg:Bool),chkN t=true→atN (downN t neg)=true:=by
 intro t
 induction t using Nd.ind with
 | h kind attr ints words lo hi op kids ih =>
  intro neg hc
  rcases chk_parts hc with ⟨rfl,rfl,hp⟩ | ⟨rfl,⟨x,rfl,hx⟩,_⟩ | ⟨ho,h2,hl,_⟩
  ·simpa [downN] using op_lit neg
  ·simpa [downN,downH] using ih x (by simp) (!neg) hx
  ·rw [down_34 ho]
   have h3:=op2_34 ho neg
   generalize (if neg=true then otherI op else op)=op2 at h3
   have n2:¬ op2=2:=by omega
   simp only [atN,if_neg n2]
   exact atL_of fun y hy=>by
    obtain ⟨x,hx,rfl⟩:=downL_mem hy
    exact ih x hx neg (chkL_all hl x hx)
theorem wt_down:∀ (t:Nd) (neg:Bool),chkN t=true→wtN (downN t neg)≤2 * wtN t:=by
 intro t
 induction t using Nd.ind with
 | h kind attr ints words lo hi op kids ih =>
  intro neg hc
  have e:(⟨#[]⟩:ByteArray).size=0:=rfl
  rcases chk_parts hc with ⟨rfl,rfl,hp⟩ | ⟨rfl,⟨x,rfl,hx⟩,_⟩ | ⟨ho,h2,hl,_⟩
  ·cases neg <;> simp only [downN,litT,notT,wtN,wtL,wordsWt,List.length_nil,e,if_true,if_false,Bool.false_eq_true] <;> omega
  ·have:=ih x (by simp) (!neg) hx
   simp only [downN,downH,wtN,wtL,if_true]
   rw [if_neg (by omega)]
   omega
  ·rw [down_34 ho]
   have hL:wtL (downL kids neg)≤2 * wtL kids:=by
    have hh:∀ x ∈ kids,wtN (downN x neg)≤2 * wtN x:=fun x hx=>ih x hx neg (chkL_all hl x hx)
    clear ih hl h2 hc ho
    induction kids with
    | nil=>simp [downL,wtL]
    | cons x l ih2 =>
     have h1:=hh x (by simp)
     have h3:=ih2 fun y hy=>hh y (by simp [hy])
     simp only [downL,wtL];omega
   simp only [wtN,wordsWt,List.length_nil,e]
   omega
end Go.Proofs.YtimklglliffpcaaGreat
namespace Go.Proofs.YtimklglliffpcaaGreat
open Go.RowKit Go.Sort

mutual
/-- The width, as a whole number. -/
def wN:Nd→Int
 | .mk _ _ _ _ _ _ op ks=>if op=4 then wSum ks else if op=3 then wProd ks else 1
def wSum:List Nd→Int
 | []=>0
 | x :: xs=>wN x + wSum xs
def wProd:List Nd→Int
 | []=>1
 | x :: xs=>wN x * wProd xs
end
def lsum:List Int→Int
 | []=>0
 | x :: xs=>x + lsum xs
def lprod:List Int→Int
 | []=>1
 | x :: xs=>x * lprod xs
theorem wSum_l (l:List Nd):wSum l=lsum (l.map wN):=by
 induction l with
 | nil=>rfl
 | cons x l ih=>simp [wSum,lsum,ih]
theorem wProd_l (l:List Nd):wProd l=lprod (l.map wN):=by
 induction l with
 | nil=>rfl
 | cons x l ih=>simp [wProd,lprod,ih]
theorem lsum_ge {l:List Int} (h:∀ x ∈ l,1≤x):0≤lsum l:=by
 induction l with
 | nil=>simp [lsum]
 | cons x l ih=>have:=h x (by simp);have:=ih fun y hy=>h y (by simp [hy]);simp only [lsum];omega
theorem mul_ge {a b:Int} (ha:1≤a) (hb:1≤b):a≤a * b∧b≤a * b∧1≤a * b:=by
 have h1:=Int.mul_le_mul_of_nonneg_left hb (show (0:Int)≤a by omega)
 have h2:=Int.mul_le_mul_of_nonneg_right ha (show (0:Int)≤b by omega)
 omega
theorem lprod_ge {l:List Int} (h:∀ x ∈ l,1≤x):1≤lprod l:=by
 induction l with
 | nil=>simp [lprod]
 | cons x l ih=>have h1:=h x (by simp);have h2:=ih fun y hy=>h y (by simp [hy]);simp only [lprod];exact (mul_ge h1 h2).2.2
theorem sumGo_min (M:Int):∀ (ws:List Int) (s:Int),0≤s→s≤M→(∀ x ∈ ws,1≤x)→sumGo M (ws.map (fun x=>min x (M + 1))) s=min (s + lsum ws) (M + 1):=by
 intro ws
 induction ws with
 | nil=>intro s h0 h1 _;simp only [List.map_nil,sumGo,lsum];omega
 | cons x l ih =>
  intro s h0 h1 h
  have hx:=h x (by simp)
  have hl:∀ y ∈ l,1≤y:=fun y hy=>h y (by simp [hy])
  have hg:=lsum_ge hl
  simp only [List.map_cons,sumGo,lsum]
  by_cases hc:M - s < min x (M + 1)
  ·rw [if_pos hc];omega
  ·rw [if_neg hc,ih _ (by omega) (by omega) hl];omega
theorem prodGo_min (M:Int):∀ (ws:List Int) (p:Int),1≤p→p≤M→(∀ x ∈ ws,1≤x)→prodGo M (ws.map (fun x=>min x (M + 1))) p=min (p * lprod ws) (M + 1):=by
 intro ws
 induction ws with
 | nil=>intro p h0 h1 _;simp only [List.map_nil,prodGo,lprod,Int.mul_one];omega
 | cons x l ih =>
  intro p h0 h1 h
  have hx:=h x (by simp)
  have hl:∀ y ∈ l,1≤y:=fun y hy=>h y (by simp [hy])
  have hg:=lprod_ge hl
  have hm:1≤min x (M + 1):=by omega
  simp only [List.map_cons,prodGo,lprod]
  have hM:0≤M:=by omega
  by_cases hc:M.tdiv (min x (M + 1)) < p
  ·rw [if_pos hc]
   rw [Int.tdiv_eq_ediv_of_nonneg hM,Int.ediv_lt_iff_lt_mul (by omega)] at hc
   have h2:p * min x (M + 1)≤p * x:=Int.mul_le_mul_of_nonneg_left (by omega) (by omega)
   have h3:=(mul_ge (mul_ge h0 hx).2.2 hg).1
   rw [Int.mul_assoc] at h3
   omega
  ·rw [if_neg hc]
   have hs:=prod_step hM h0 (by omega) hc
   have h4:min x (M + 1)≤p * min x (M + 1):=(mul_ge h0 hm).2.1
   have h5:min x (M + 1)=x:=by omega
   rw [h5] at hs ⊢
   rw [ih _ (by omega) (by omega) hl,Int.mul_assoc]
theorem bnd_id {m:Int} (h1:1≤m) (h2:m≤64):bnd m=m:=by unfold bnd;omega
theorem wid_min {m:Int} (h1:1≤m) (h2:m≤64):∀ t,chkN t=true→widN m t=min (wN t) (m + 1)∧1≤wN t:=by
 intro t
 induction t using Nd.ind with
 | h kind attr ints words lo hi op kids ih =>
  intro hc
  have hl:chkL kids=true:=by simp only [chkN,Bool.and_eq_true] at hc;exact hc.2
  have hall:∀ x ∈ kids,widN m x=min (wN x) (m + 1)∧1≤wN x:=fun x hx=>ih x hx (chkL_all hl x hx)
  have hmap:widL m kids=(kids.map wN).map (fun x=>min x (m + 1)):=by
   rw [widL_map,List.map_map]
   exact List.map_congr_left fun x hx=>(hall x hx).1
  have hge:∀ y ∈ kids.map wN,1≤y:=fun y hy=>by
   obtain ⟨x,hx,rfl⟩:=List.mem_map.1 hy
   exact (hall x hx).2
  simp only [widN,wN]
  by_cases h4:op=4
  ·rw [if_pos h4,if_pos h4,wSum_l,hmap]
   unfold sumB
   rw [bnd_id h1 h2,sumGo_min m _ 0 (by omega) (by omega) hge]
   refine ⟨by omega, ?_⟩
   rcases chk_parts hc with ⟨h,_⟩ | ⟨h,_⟩ | ⟨_,hk,_⟩
   ·omega
   ·omega
   ·match kids,hk with
    | x :: l,_ =>
     have hx:=hge (wN x) (by simp)
     have:=lsum_ge fun y (hy:y ∈ l.map wN)=>hge y (by simp at hy ⊢;exact Or.inr hy)
     simp only [List.map_cons,lsum];omega
  ·rw [if_neg h4,if_neg h4]
   by_cases h3:op=3
   ·rw [if_pos h3,if_pos h3,wProd_l,hmap]
    have hg:=lprod_ge hge
    refine ⟨?_,hg⟩
    have hany:((kids.map wN).map (fun x=>min x (m + 1))).any (fun x=>decide (x≤0))=false:=by
     rw [List.any_eq_false]
     intro y hy
     obtain ⟨z,hz,rfl⟩:=List.mem_map.1 hy
     have:=hge z hz
     simp;omega
    unfold prodB
    rw [hany,bnd_id h1 h2,prodGo_min m _ 1 (by omega) h1 hge]
    simp
   ·rw [if_neg h3,if_neg h3];omega
end Go.Proofs.YtimklglliffpcaaGreat
namespace Go.Proofs.YtimklglliffpcaaGreat
open Go.RowKit Go.Sort

/-- A literal. -/
structure Lt where
 kind:Int
 attr:ByteArray
 ints:List Int
 words:List ByteArray
 lo:Int
 hi:Int
 neg:Bool
def crossL (a b:List (List Lt)):List (List Lt):=a.flatMap (fun x=>b.map (fun y=>x ++ y))
def negLit:List Nd→List (List Lt)
 | []=>[]
 | .mk kind attr ints words lo hi _ _ :: _=>[[⟨kind,attr,ints,words,lo,hi,true⟩]]
mutual
/-- The conjunctions of a pushed tree, in their order. -/
def cjN:Nd→List (List Lt)
 | .mk kind attr ints words lo hi op ks=>if op=4 then cjSum ks else if op=3 then cjProd ks else if op=2 then negLit ks else [[⟨kind,attr,ints,words,lo,hi,false⟩]]
def cjSum:List Nd→List (List Lt)
 | []=>[]
 | x :: xs=>cjN x ++ cjSum xs
def cjProd:List Nd→List (List Lt)
 | []=>[[]]
 | x :: xs=>crossL (cjN x) (cjProd xs)
end
theorem cross_len (a b:List (List Lt)):(crossL a b).length=a.length * b.length:=by
 induction a with
 | nil=>simp [crossL]
 | cons x a ih =>
  have:crossL (x :: a) b=b.map (fun y=>x ++ y) ++ crossL a b:=by simp [crossL]
  rw [this,List.length_append,List.length_map,ih,List.length_cons,Nat.add_mul,Nat.one_mul,Nat.add_comm]
/-- What stands at a place of a choice. -/
theorem cross_get (a b:List (List Lt)) (i j:Nat) (x y:List Lt) (hi:a[i]? = some x) (hj:b[j]? = some y):(crossL a b)[i * b.length + j]? = some (x ++ y):=by
 induction a generalizing i with
 | nil=>simp at hi
 | cons z a ih =>
  have hc:crossL (z :: a) b=b.map (fun y=>z ++ y) ++ crossL a b:=by simp [crossL]
  have hjl:=(List.getElem?_eq_some_iff.1 hj).1
  rw [hc]
  cases i with
  | zero =>
   simp only [List.getElem?_cons_zero,Option.some.injEq] at hi
   subst hi
   rw [Nat.zero_mul,Nat.zero_add,List.getElem?_append_left (by rw [List.length_map];exact hjl),List.getElem?_map,hj]
   rfl
  | succ i =>
   rw [List.getElem?_append_right (by rw [List.length_map,Nat.add_mul];omega),List.length_map,show (i + 1) * b.length + j - b.length=i * b.length + j by rw [Nat.add_mul];omega]
   exact ih i (by simpa using hi)
def ltH (ev:List Pr) (l:Lt):Bool:=holdsB l.kind l.attr l.ints l.words l.lo l.hi ev != l.neg
/-- Does one of the conjunctions hold? -/
def anyC (ev:List Pr) (cs:List (List Lt)):Bool:=cs.any (fun c=>c.all (ltH ev))
theorem anyC_app (ev:List Pr) (a b:List (List Lt)):anyC ev (a ++ b)=(anyC ev a || anyC ev b):=by simp [anyC]
theorem anyC_map (ev:List Pr) (x:List Lt) (b:List (List Lt)):anyC ev (b.map (fun y=>x ++ y))=(x.all (ltH ev) && anyC ev b):=by
 induction b with
 | nil=>simp [anyC]
 | cons y b ih =>
  simp only [anyC,List.map_cons,List.any_cons] at ih ⊢
  rw [ih,List.all_append]
  cases x.all (ltH ev) <;> simp
theorem anyC_cross (ev:List Pr) (a b:List (List Lt)):anyC ev (crossL a b)=(anyC ev a && anyC ev b):=by
 induction a with
 | nil=>simp [crossL,anyC]
 | cons x a ih =>
  have hc:crossL (x :: a) b=b.map (fun y=>x ++ y) ++ crossL a b:=by simp [crossL]
  rw [hc,anyC_app,anyC_map,ih]
  have:anyC ev (x :: a)=(x.all (ltH ev) || anyC ev a):=by simp [anyC]
  rw [this]
  cases x.all (ltH ev) <;> cases anyC ev a <;> cases anyC ev b <;> rfl
theorem atL_all {l:List Nd} (h:atL l=true):∀ x ∈ l,atN x=true:=by
 induction l with
 | nil=>intro x hx;simp at hx
 | cons y l ih =>
  simp only [atL,Bool.and_eq_true] at h
  intro x hx
  rcases List.mem_cons.1 hx with rfl | hx
  ·exact h.1
  ·exact ih h.2 x hx
/-- As many as the width, and true just where the tree is. -/
theorem cj_all (ev:List Pr):∀ t,chkN t=true→atN t=true→((cjN t).length:Int)=wN t∧anyC ev (cjN t)=truN ev t:=by
 intro t
 induction t using Nd.ind with
 | h kind attr ints words lo hi op kids ih =>
  intro hc ha
  rcases chk_parts hc with ⟨rfl,rfl,hp⟩ | ⟨rfl,⟨x,rfl,hx⟩,_⟩ | ⟨ho,h2,hl,_⟩
  ·simp [cjN,wN,truN,anyC,ltH]
  ·have h1:opN x=1:=by
    simpa [atN,headPred] using ha
   cases x with
   | mk k1 a1 i1 w1 l1 h1' o1 ks1 =>
    simp only [opN] at h1
    subst h1
    simp [cjN,negLit,wN,truN,anyT,anyC,ltH]
  ·have n2:¬ op=2:=by omega
   have hall:∀ x ∈ kids,((cjN x).length:Int)=wN x∧anyC ev (cjN x)=truN ev x:=by
    simp only [atN,if_neg n2] at ha
    exact fun x hx=>ih x hx (chkL_all hl x hx) (atL_all ha x hx)
   have hs:((cjSum kids).length:Int)=wSum kids∧anyC ev (cjSum kids)=anyT ev kids∧((cjProd kids).length:Int)=wProd kids∧anyC ev (cjProd kids)=allT ev kids:=by
    clear ih hc ha h2 hl
    induction kids with
    | nil=>simp [cjSum,cjProd,wSum,wProd,anyC,anyT,allT]
    | cons x l ih2 =>
     obtain ⟨i1,i2,i3,i4⟩:=ih2 fun y hy=>hall y (by simp [hy])
     obtain ⟨j1,j2⟩:=hall x (by simp)
     refine ⟨?_, ?_, ?_, ?_⟩
     ·simp only [cjSum,wSum,List.length_append,Int.natCast_add,i1,j1]
     ·simp only [cjSum,anyT,anyC_app,i2,j2]
     ·simp only [cjProd,wProd,cross_len,Int.natCast_mul,i3,j1]
     ·simp only [cjProd,allT,anyC_cross,i4,j2]
   rcases ho with rfl | rfl
   ·have n34:¬ (3:Int)=4:=by decide
    have n32:¬ (3:Int)=2:=by decide
    simp only [cjN,wN,truN,if_neg n34,if_neg n32,if_true]
    exact ⟨hs.2.2.1,hs.2.2.2⟩
   ·have n42:¬ (4:Int)=2:=by decide
    have n43:¬ (4:Int)=3:=by decide
    simp only [cjN,wN,truN,if_neg n42,if_neg n43,if_true]
    exact ⟨hs.1,hs.2.1⟩
/-- The place of a conjunction of an Or. -/
theorem sum_get (x:Nd) (l:List Nd) (p:Nat):(cjSum (x :: l))[p]? = if p < (cjN x).length then (cjN x)[p]? else (cjSum l)[p - (cjN x).length]?:=by
 simp only [cjSum]
 by_cases h:p < (cjN x).length
 ·rw [if_pos h,List.getElem?_append_left h]
 ·rw [if_neg h,List.getElem?_append_right (by omega)]
/-- The place of a conjunction of an And. -/
theorem prod_get (x:Nd) (l:List Nd) (p:Nat) (hp:p < (cjN x).length * (cjProd l).length):∃ c d,(cjN x)[p / (cjProd l).length]? = some c∧(cjProd l)[p % (cjProd l).length]? = some d∧(cjProd (x :: l))[p]? = some (c ++ d):=by
 have hpos:0 < (cjProd l).length:=by
  rcases Nat.eq_zero_or_pos (cjProd l).length with h | h
  ·rw [h,Nat.mul_zero] at hp;omega
  ·exact h
 have h1:p / (cjProd l).length < (cjN x).length:=(Nat.div_lt_iff_lt_mul hpos).2 hp
 have h2:p % (cjProd l).length < (cjProd l).length:=Nat.mod_lt _ hpos
 refine ⟨_,_,List.getElem?_eq_getElem h1,List.getElem?_eq_getElem h2, ?_⟩
 have:=cross_get (cjN x) (cjProd l) _ _ _ _ (List.getElem?_eq_getElem h1) (List.getElem?_eq_getElem h2)
 simp only [cjProd]
 rw [Nat.mul_comm,Nat.div_add_mod] at this
 exact this
end Go.Proofs.YtimklglliffpcaaGreat
namespace Go.Proofs.YtimklglliffpcaaGreat
open Go.RowKit Go.Sort

/-- A literal as it lies in memory. -/
structure Lv where
 kind:Int
 attr:ByteArray
 qi:Option Addr
 ni:Nat
 ci:Nat
 qw:Option Addr
 nw:Nat
 cw:Nat
 lo:Int
 hi:Int
 neg:Bool
instance:Inhabited Lv:=⟨⟨0,⟨#[]⟩,none,0,0,none,0,0,0,0,false⟩⟩
def encL (u:Lv):List Value:=[.int .i64 u.kind,.string u.attr,.slice u.qi u.ni u.ci,.slice u.qw u.nw u.cw,.int .i64 u.lo,.int .i64 u.hi,.bool u.neg]
def LitIn (w:World) (u:Lv) (l:Lt):Prop:=u.kind=l.kind∧u.attr=l.attr∧u.ni=l.ints.length∧u.nw=l.words.length∧u.lo=l.lo∧u.hi=l.hi∧u.neg=l.neg∧SlOf encI 1 w u.qi u.ci l.ints∧SlOf encS 1 w u.qw u.cw l.words
theorem LitIn.keep {w w':World} {u:Lv} {l:Lt} (h:LitIn w u l) (hb:Below w.heap.size w w'):LitIn w' u l:=by
 obtain ⟨h1,h2,h3,h4,h5,h6,h7,h8,h9⟩:=h
 exact ⟨h1,h2,h3,h4,h5,h6,h7,h8.below hb,h9.below hb⟩
/-- A list of literals in memory. -/
def LitsOf (w:World) (q:Option Addr) (c:Nat) (ls:List Lt):Prop:=∃ us,SlOf encL 7 w q c us∧us.length=ls.length∧∀ (j:Nat) (u:Lv) (l:Lt),us[j]? = some u→ls[j]? = some l→LitIn w u l
theorem LitsOf.below {w w':World} {q:Option Addr} {c:Nat} {ls:List Lt} (h:LitsOf w q c ls) (hb:Below w.heap.size w w'):LitsOf w' q c ls:=by
 obtain ⟨us,h1,h2,h3⟩:=h
 exact ⟨us,h1.below hb,h2,fun j u l hj hl=>(h3 j u l hj hl).keep hb⟩
theorem LitsOf.at {w:World} {q:Option Addr} {c:Nat} {ls:List Lt} {j:Nat} {l:Lt} (h:LitsOf w q c ls) (hj:ls[j]? = some l) :
  ∃ b off u,q=some ⟨b,off,none⟩∧b < w.heap.size∧LitIn w u l∧w.cell? ⟨b,off + j * 7,none⟩=some (.int .i64 u.kind)∧w.cell? ⟨b,off + j * 7 + 1,none⟩=some (.string u.attr)∧w.cell? ⟨b,off + j * 7 + 2,none⟩=some (.slice u.qi u.ni u.ci)∧w.cell? ⟨b,off + j * 7 + 3,none⟩=some (.slice u.qw u.nw u.cw)∧w.cell? ⟨b,off + j * 7 + 4,none⟩=some (.int .i64 u.lo)∧w.cell? ⟨b,off + j * 7 + 5,none⟩=some (.int .i64 u.hi)∧w.cell? ⟨b,off + j * 7 + 6,none⟩=some (.bool u.neg):=by
 obtain ⟨us,h1,h2,h3⟩:=h
 have hl:j < ls.length:=(List.getElem?_eq_some_iff.1 hj).1
 obtain ⟨u,hu,_⟩:=get_at (l:=us) (k:=j) (by omega)
 obtain ⟨b,off,hq,hb,hc⟩:=h1.2.2.2.at hu
 exact ⟨b,off,u,hq,hb,h3 j u l hu hj,hc 0 (by omega),hc 1 (by omega),hc 2 (by omega),hc 3 (by omega),hc 4 (by omega),hc 5 (by omega),hc 6 (by omega)⟩
def litBound (ls:List Lt):Prop:=∀ l ∈ ls,l.ints.length≤1000000000∧l.words.length≤1000000000
theorem of7' {w:World} {M:Nat} {a0 a1 a2 a3 a4 a5 a6:Value} {T:TypeId} (h:w.heap[M]? = some (.cells #[a0,a1,a2,a3,a4,a5,a6] T (0,0))):w.cell? ⟨M,0,none⟩=some a0∧w.cell? ⟨M,1,none⟩=some a1∧w.cell? ⟨M,2,none⟩=some a2∧w.cell? ⟨M,3,none⟩=some a3∧w.cell? ⟨M,4,none⟩=some a4∧w.cell? ⟨M,5,none⟩=some a5∧w.cell? ⟨M,6,none⟩=some a6:=by
 refine ⟨?_, ?_, ?_, ?_, ?_, ?_, ?_⟩ <;> (unfold World.cell?;simp [h])
theorem holds_lit (u:Lv) (l:Lt) (qe:Option Addr) (ce:Nat) (ev:List Pr) (w:World) (h:LitIn w u l) (h3:SlOf encP 4 w qe ce ev) (l1:l.ints.length≤1000000000) (l2:l.words.length≤1000000000) (l3:ev.length≤100000000000000) :
  Calls Tryz.prog 37 #[.agg #[.int .i64 u.kind,.string u.attr,.slice u.qi u.ni u.ci,.slice u.qw u.nw u.cw,.int .i64 u.lo,.int .i64 u.hi],.slice qe ev.length ce] w fun e w'=>e=.returned (.bool (holdsB l.kind l.attr l.ints l.words l.lo l.hi ev))∧Below w.heap.size w w':=by
 obtain ⟨a1,a2,a3,a4,a5,a6,a7,a8,a9⟩:=h
 rw [a1,a2,a3,a4,a5,a6]
 exact holds_any l.kind l.attr u.qi u.ci l.ints u.qw u.cw l.words l.lo l.hi qe ce ev w a8 a9 h3 (by omega) (by omega) l3
set_option maxRecDepth 100000 in
set_option maxHeartbeats 8000000 in
theorem dnfHolds_any (qe:Option Addr) (ce:Nat) (ev:List Pr) (q:Option Addr) (c:Nat) (ls:List Lt) (w:World) (he:SlOf encP 4 w qe ce ev) (hl:LitsOf w q c ls) (hb:litBound ls) (l3:ev.length≤100000000000000) (ln:ls.length≤1000000000) :
  Calls Tryz.prog 36 #[.slice qe ev.length ce,.slice q ls.length c] w fun e w'=>e=.returned (.bool (ls.all (ltH ev)))∧Below w.heap.size w w':=by
 have mixed:Tryz.prog.follows .mixedOrders=true:=by kernel_rfl
 have en23:∀ args w,(callFunc 37 args).run Tryz.prog w=.ok (.enter 37 args) w:=enters_of Tryz.func37 (by kernel_rfl) rfl
 have a0:(ls.length:Int)≤1000000000:=by omega
 have HE:=hide he
 have HL:=hide hl
 have HBD:=hide hb
 clear he hl hb
 go_enter Tryz.func36,Tryz.ntmps36
 go_wp2
 go_loopw [9] (fun i wr=>∃ k:Nat,k≤ls.length∧i=.int .i64 k∧(∀ (j:Nat) (l:Lt),j < k→ls[j]? = some l→ltH ev l=true)∧Below w.heap.size w wr) (fun i _=>ls.length - (intOf i).toNat)
 case atStart=>exact ⟨0,by omega,rfl,fun j l h=>absurd h (by omega),Below.refl _ _⟩
 case round =>
  obtain ⟨k,hkk,rfl,hall,hbel⟩:=hrel
  have HB:=hide hbel
  have HALL:=hide hall
  by_cases hlt:k < ls.length
  ·obtain ⟨l,hl,hld⟩:=get_at hlt
   clear hld
   obtain ⟨b,off,u,hq,hbb,hin,g0,g1,g2,g3,g4,g5,g6⟩:=((uh HL).below hbel).at hl
   subst hq
   have hbd:=uh HBD l (List.mem_of_getElem? hl)
   have ki0:(0:Int)≤(k:Int):=by omega
   have ki1:(k:Int) < (ls.length:Int):=by omega
   obtain ⟨G,hG⟩:∃ G,u.neg=G:=⟨_,rfl⟩
   rw [hG] at g6
   obtain ⟨Z,HZ⟩:∃ Z,wr.alloc (.cells #[.int .i64 u.kind,.string u.attr,.slice u.qi u.ni u.ci,.slice u.qw u.nw u.cw,.int .i64 u.lo,.int .i64 u.hi,.bool G] 64)=Z:=⟨_,rfl⟩
   have bZ:Below wr.heap.size wr Z:=by rw [← HZ];exact (Below.refl _ _).alloc (Nat.le_refl _) _
   have zk:Z.heap[wr.heap.size]? = some (.cells #[.int .i64 u.kind,.string u.attr,.slice u.qi u.ni u.ci,.slice u.qw u.nw u.cw,.int .i64 u.lo,.int .i64 u.hi,.bool G] 64 (0,0)):=by rw [← HZ];exact box_nw _ _
   obtain ⟨zc0,zc1,zc2,zc3,zc4,zc5,zc6⟩:=of7' zk
   have hneg:G=l.neg:=by rw [← hG];exact hin.2.2.2.2.2.2.1
   obtain ⟨H,hH⟩:∃ H,holdsB l.kind l.attr l.ints l.words l.lo l.hi ev=H:=⟨_,rfl⟩
   have q23:=fun (n:Nat) (os:Array Obj)=>holds_lit u l qe ce ev (grow (redrawn Z n) os) (hin.keep (below_sub bZ (below_regrown Z n os))) ((uh HE).below (below_sub hbel (below_sub bZ (below_regrown Z n os)))) hbd.1 hbd.2 l3
   rw [hH] at q23
   have HLT:=hide (show ltH ev l=(H != G) by unfold ltH;rw [hH,hneg])
   have HLL:=hide hl
   have z0:∀ n os,(grow (redrawn Z n) os).cell? ⟨wr.heap.size,0,none⟩=some (.int .i64 u.kind):=cell_regrown zc0
   have z1:∀ n os,(grow (redrawn Z n) os).cell? ⟨wr.heap.size,1,none⟩=some (.string u.attr):=cell_regrown zc1
   have z2:∀ n os,(grow (redrawn Z n) os).cell? ⟨wr.heap.size,2,none⟩=some (.slice u.qi u.ni u.ci):=cell_regrown zc2
   have z3:∀ n os,(grow (redrawn Z n) os).cell? ⟨wr.heap.size,3,none⟩=some (.slice u.qw u.nw u.cw):=cell_regrown zc3
   have z4:∀ n os,(grow (redrawn Z n) os).cell? ⟨wr.heap.size,4,none⟩=some (.int .i64 u.lo):=cell_regrown zc4
   have z5:∀ n os,(grow (redrawn Z n) os).cell? ⟨wr.heap.size,5,none⟩=some (.int .i64 u.hi):=cell_regrown zc5
   have z6:∀ n os,(grow (redrawn Z n) os).cell? ⟨wr.heap.size,6,none⟩=some (.bool G):=cell_regrown zc6
   have BZ:=hide bZ
   clear hin hl hbel hall zk zc0 zc1 zc2 zc3 zc4 zc5 zc6 bZ hneg hH hbd hG
   go_wp2
   refine wp_region_quiet_below (by assumption) (by kernel_rfl) ?_
   repeat (go_big_quiet_step (first | (go_at_fn 37;refine Calls.regrown_of (q23 _ _))))
   refine wpQuiet_nil ?_
   intro _ hw'
   obtain ⟨⟨dq,osq⟩,hw''⟩:=hw'
   subst hw''
   clear q23 z0 z1 z2 z3 z4 z5 z6 g0 g1 g2 g3 g4 g5 g6 HZ
   have BF:=hide (below_sub (uh HB) (below_sub (uh BZ) (below_regrown Z dq osq)))
   by_cases hc:H=G
   ·subst hc
    have HF:=hide (show ls.all (ltH ev)=false by
     rw [List.all_eq_false]
     exact ⟨l,List.mem_of_getElem? (uh HLL),by rw [uh HLT];simp⟩)
    cases H
    all_goals
     go_wp2
     go_ret
     exact ⟨by rw [uh HF];rfl,uh BF⟩
   ·have HT:=hide (show ltH ev l=true by rw [uh HLT];simp [hc])
    cases H <;> cases G
    all_goals first | (exact absurd rfl hc) | skip
    all_goals
     clear hc
     go_wp2
     go_roundw
     case rel =>
      refine ⟨k + 1,by omega,by go_num,fun j y hj hy=>?_,uh BF⟩
      by_cases e:j=k
      ·subst e;rw [uh HLL] at hy;cases hy;exact uh HT
      ·exact uh HALL j y (by omega) hy
     case measure=>simp [intOf];omega
  ·have ki1:¬ (k:Int) < (ls.length:Int):=by omega
   clear hall hbel
   go_wp2
   go_ret
   refine ⟨?_,uh HB⟩
   have:ls.all (ltH ev)=true:=by
    rw [List.all_eq_true]
    intro l hl
    obtain ⟨j,hj⟩:=List.getElem?_of_mem hl
    exact uh HALL j l (by have:=(List.getElem?_eq_some_iff.1 hj).1;omega) hj
   rw [this];rfl
/-- A list of lists of literals in memory. -/
def encQ (s:Option Addr × Nat × Nat):List Value:=[.slice s.1 s.2.1 s.2.2]
def CjsOf (w:World) (q:Option Addr) (c:Nat) (cs:List (List Lt)):Prop:=∃ us:List (Option Addr × Nat × Nat),SlOf encQ 1 w q c us∧us.length=cs.length∧∀ (j:Nat) (u:Option Addr × Nat × Nat) (ls:List Lt),us[j]? = some u→cs[j]? = some ls→u.2.1=ls.length∧LitsOf w u.1 u.2.2 ls
theorem CjsOf.below {w w':World} {q:Option Addr} {c:Nat} {cs:List (List Lt)} (h:CjsOf w q c cs) (hb:Below w.heap.size w w'):CjsOf w' q c cs:=by
 obtain ⟨us,h1,h2,h3⟩:=h
 exact ⟨us,h1.below hb,h2,fun j u l hj hl=>⟨(h3 j u l hj hl).1,(h3 j u l hj hl).2.below hb⟩⟩
theorem CjsOf.at {w:World} {q:Option Addr} {c:Nat} {cs:List (List Lt)} {j:Nat} {ls:List Lt} (h:CjsOf w q c cs) (hj:cs[j]? = some ls) :
  ∃ b off q1 c1,q=some ⟨b,off,none⟩∧b < w.heap.size∧LitsOf w q1 c1 ls∧w.cell? ⟨b,off + j,none⟩=some (.slice q1 ls.length c1):=by
 obtain ⟨us,h1,h2,h3⟩:=h
 have hl:j < cs.length:=(List.getElem?_eq_some_iff.1 hj).1
 obtain ⟨u,hu,_⟩:=get_at (l:=us) (k:=j) (by omega)
 obtain ⟨b,off,hq,hb,hc⟩:=h1.2.2.2.at hu
 obtain ⟨e1,e2⟩:=h3 j u ls hu hj
 have h0:=hc 0 (by omega)
 rw [Nat.mul_one,Nat.add_zero] at h0
 refine ⟨b,off,u.1,u.2.2,hq,hb,e2, ?_⟩
 rw [← e1];exact h0
end Go.Proofs.YtimklglliffpcaaGreat

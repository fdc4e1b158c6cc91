/- push.widthOf: how many conjunctions a pushed tree comes to, cut behind most. -/
import Derived.Test.YtimklglliffpcaaGreatQPushDown
import Derived.Test.YtimklglliffpcaaGreatQZad
import Derived.Test.YtimklglliffpcaaGreatQZab
import Derived.Lib.QuietBelow
import Derived.BigQuiet
import Derived.Shelf.Abstract
namespace Go.Proofs.YtimklglliffpcaaGreat
open Go.RowKit Go.Sort
mutual
/-- The width of a pushed tree. -/
def Dp (m:Int):Nd->Int
 | .mk _ _ _ _ _ _ op ks=>if op=4 then Vt m (yo m ks) else if op=3 then En m (yo m ks) else 1
def yo (m:Int):List Nd->List Int
 | []=>[]
 | x :: xs=>Dp m x :: yo m xs
end
theorem vv (m:Int) (l:List Nd):yo m l=l.map (Dp m):=by
 induction l with
 | nil=>simp [yo]
 | cons x l ih=>simp [yo,ih]
theorem vu (m:Int) (l:List Nd):(yo m l).length=l.length:=by rw [vv];simp
theorem zb (l:List Int):(flatK jq 1 l.toArray).toList=l.map (fun x=>Value.int .i64 x):=by
 apply List.ext_getElem?
 intro j
 by_cases hj:j < l.length
 ·obtain ⟨x,hx,_⟩:=je hj
  have:=lj (enc:=jq) (k:=1) hx 0 (by omega)
  rw [Nat.mul_one,Nat.add_zero] at this
  rw [this,List.getElem?_map,hx];rfl
 ·rw [List.getElem?_eq_none (by simp;omega),List.getElem?_eq_none (by simp;omega)]
theorem Qc (n:Nat) (h:n * 8<=140737488355328):∃ cur:Array Value,cur.size=n * 1/\∀ W:World,(Instr.makeSlice 23 (.int .i64 (n:Int)) (.int .i64 (n:Int))).run Tryz.prog W=.ok (.slice (some ⟨W.heap.size,0,none⟩) n n) (W.alloc (.cells cur 3)):=by
 obtain ⟨i0,hi,hz0,hz1,hz2⟩:=info_parts Tryz.info3
 refine ⟨madeCells (Value.cells (.int .i64 0)) (n * i0.size),by rw [size_madeCells,hz1],fun W=>?_⟩
 have:=run_make (P:=Tryz.prog) W 23 3 i0 _ Tryz.underlying23 hi hz0 .i64 .i64 (n:Int) (n:Int) (by omega) (by omega) (by rw [hz2];omega) (by omega)
 simpa only [Int.toNat_natCast] using this
theorem lq {w:World} {B n c g k:Nat} {e:TypeId} {xs:List Value} (h:w.ownsRow B e k (.slice (some ⟨g,0,none⟩) n c) n xs):∀ o,w.frozen? ⟨g,o,none⟩=false:=by
 rcases h.2 with ⟨h0,_⟩ | ⟨g',cp,cur',h0,_,hg',_⟩
 ·simp at h0
 ·simp only [Value.slice.injEq,Option.some.injEq,Addr.mk.injEq,and_true,true_and] at h0
  rw [h0.1]
  exact fun o=>gy hg'
def zb2 (x:Nd):Prop:=∀ (m:Int) (v:Nv) (w:World),NdIn w v x->wtN x<=1000000000->Calls Tryz.prog 170 #[v.val,.int .i64 m] w fun e w'=>e=.returned (.int .i64 (Dp m x))/\Below w.heap.size w w'
set_option maxRecDepth 100000 in
set_option maxHeartbeats 4000000 in
theorem C7 (kind:Int) (attr:ByteArray) (qi:Option Addr) (ci:Nat) (ints:List Int) (qw:Option Addr) (cw:Nat) (words:List ByteArray) (lo hi op:Int) (qk:Option Addr) (ck:Nat) (kids:List Nd) (m:Int) (w:World) (hk:NdsOf w qk ck kids) (ih:∀ x ∈ kids,zb2 x) (l3:wtL kids<=1000000000) :
  Calls Tryz.prog 201 #[.agg #[.int .i64 kind,.string attr,.slice qi ints.length ci,.slice qw words.length cw,.int .i64 lo,.int .i64 hi,.int .i64 op,.slice qk kids.length ck],.int .i64 m] w fun e w'=>(∃ q c,e=.returned (.slice q kids.length c)/\SlOf jq 1 w' q c (yo m kids))/\Below w.heap.size w w':=by
 have hlen:=Nat.le_trans (Nat.le_trans (pl kids) (po kids)) l3
 have a0:(kids.length:Int)<=1000000000:=by omega
 have a1:(0:Int)<=(kids.length:Int):=by omega
 obtain ⟨cur,hcs,hmk⟩:=Qc kids.length (by omega)
 obtain ⟨X,HX⟩:∃ X,w.alloc (.cells #[.int .i64 kind,.string attr,.slice qi ints.length ci,.slice qw words.length cw,.int .i64 lo,.int .i64 hi,.int .i64 op,.slice qk kids.length ck] 56)=X:=⟨_,rfl⟩
 have hX0:X.heap[w.heap.size]? = some (.cells #[.int .i64 kind,.string attr,.slice qi ints.length ci,.slice qw words.length cw,.int .i64 lo,.int .i64 hi,.int .i64 op,.slice qk kids.length ck] 56 (0,0)):=by rw [<- HX];exact jf _ _
 have hwX:Below w.heap.size w X:=by rw [<- HX];exact (Below.refl _ _).alloc (Nat.le_refl _) _
 have hXs:X.heap.size=w.heap.size + 1:=by rw [<- HX];simp
 obtain ⟨x0,x1,x2,x3,x4,x5,x6,x7⟩:=rj hX0
 obtain ⟨Y,HY⟩:∃ Y,X.alloc (.cells cur 3)=Y:=⟨_,rfl⟩
 have hY0:Y.heap[w.heap.size + 1]? = some (.cells cur 3 (0,0)):=by rw [<- HY,<- hXs];exact jf _ _
 have hXY:Below X.heap.size X Y:=by rw [<- HY];exact (Below.refl _ _).alloc (Nat.le_refl _) _
 have hYs:Y.heap.size=w.heap.size + 2:=by rw [<- HY];simp [hXs]
 obtain ⟨y0,y1,y2,y3,y4,y5,y6,y7⟩:=rj ((hXY.block _ (by omega)).trans hX0)
 have hOwn:Y.ownsRow (w.heap.size + 1) 3 1 (.slice (some ⟨w.heap.size + 1,0,none⟩) kids.length kids.length) kids.length cur.toList :=
  ⟨by simp [hcs],.inr ⟨w.heap.size + 1,kids.length,cur,rfl,Nat.le_refl _,hY0,Nat.le_refl _,by unfold maxLen;omega,hcs,by rw [List.take_of_length_le (by simp [hcs])]⟩⟩
 have HOW:=d9 hOwn
 have HK:=d9 hk
 have IH:=d9 ih
 have HWX:=d9 hwX
 have HXY:=d9 hXY
 have HCS:=d9 hcs
 clear hk ih hwX hX0 hXY hOwn hY0 hcs
 go_enter Tryz.func201,Tryz.ntmps201
 go_wp2
 go_loopw [15] (fun i wr=>∃ k:Nat,k<=kids.length/\i=.int .i64 k/\wr.ownsRow (w.heap.size + 1) 3 1 (.slice (some ⟨w.heap.size + 1,0,none⟩) kids.length kids.length) kids.length ((yo m (kids.take k)).map (fun x=>Value.int .i64 x) ++ cur.toList.drop k)/\Below (w.heap.size + 1) Y wr/\w.heap.size + 2<=wr.heap.size) (fun i _=>kids.length - (intOf i).toNat)
 case atStart=>exact ⟨0,by omega,rfl,by simpa [yo] using uh HOW,Below.refl _ _,by omega⟩
 case round =>
  obtain ⟨k,hkk,rfl,hown,hbel,hsz⟩:=hrel
  have BW:=d9 (show Below w.heap.size w wr from ((d8 (uh HWX) (uh HXY)).trans (hbel.mono (by omega))))
  have HB:=d9 hbel
  have HO:=d9 hown
  by_cases hlt:k < kids.length
  ·obtain ⟨x,hx,hxd⟩:=je hlt
   clear hxd
   obtain ⟨b,off,v,hq,hin,g0,g1,g2,g3,g4,g5,g6,g7⟩:=(uh HK).on hx (uh BW)
   subst hq
   have hxm:x ∈ kids:=List.mem_of_getElem? hx
   have hxw:=qc hxm
   have ki0:(0:Int)<=(k:Int):=by omega
   have ki1:(k:Int) < (kids.length:Int):=by omega
   obtain ⟨Z,HZ⟩:∃ Z,wr.alloc (.cells #[.int .i64 v.kind,.string v.attr,.slice v.qi v.ni v.ci,.slice v.qw v.nw v.cw,.int .i64 v.lo,.int .i64 v.hi,.int .i64 v.op,.slice v.qk v.nk v.ck] 56)=Z:=⟨_,rfl⟩
   have bZ:Below wr.heap.size wr Z:=by rw [<- HZ];exact (Below.refl _ _).alloc (Nat.le_refl _) _
   have zk:Z.heap[wr.heap.size]? = some (.cells #[.int .i64 v.kind,.string v.attr,.slice v.qi v.ni v.ci,.slice v.qw v.nw v.cw,.int .i64 v.lo,.int .i64 v.hi,.int .i64 v.op,.slice v.qk v.nk v.ck] 56 (0,0)):=by rw [<- HZ];exact jf _ _
   obtain ⟨z0,z1,z2,z3,z4,z5,z6,z7⟩:=rj zk
   have hW:=uh IH x hxm m v Z (hin.keep bZ) (by omega)
   simp only [Nv.val] at hW
   obtain ⟨N,hN⟩:∃ N,Dp m x=N:=⟨_,rfl⟩
   have HSN:=d9 (show yo m (kids.take (k + 1))=yo m (kids.take k) ++ [N] by rw [jh hx,vv,vv,List.map_append,<- hN];rfl)
   rw [hN] at hW
   have hlk:((yo m (kids.take k)).map (fun x=>Value.int .i64 x)).length=k:=by rw [List.length_map,vu,List.length_take];omega
   have hck:k < cur.size:=by have:=uh HCS;omega
   have BZ:=d9 bZ
   clear hin hx hxm hown hbel bZ zk hN
   go_wp2_with (go_at_call 170;refine hW.mono ?_;rintro e w2 ⟨rfl,b2⟩;have B2:=d9 b2;have b3:=d9 (d8 (uh BZ) b2);have HO2:=d9 (World.ownsRow.kept (uh HO) (row:=none) ⟨(uh b3).os,(uh b3).tape,(uh b3).output,(uh b3).size,fun j hj _=>(uh b3).block j hj⟩ (Or.inr (by simp [Value.ownBlock])));have cg:w2.cell? ⟨w.heap.size + 1,k,none⟩=some (cur.toList[k]'(by simpa using hck)):=(by rw [World.ownsRow.cellAt (uh HO2) k (by omega),List.getElem?_append_right (by omega),hlk,Nat.sub_self,List.getElem?_drop,Nat.add_zero,List.getElem?_eq_getElem (by simpa using hck)]);have cf:∀ o,w2.frozen? ⟨w.heap.size + 1,o,none⟩=false:=lq (uh HO2);clear b2)
   go_roundw
   case rel =>
    have st:=World.ownsRow.stored (uh HO2) k (.int .i64 N)
    refine ⟨k + 1,by omega,by go_num, ?_, ?_, ?_⟩
    ·have e:((yo m (kids.take k)).map (fun x=>Value.int .i64 x) ++ cur.toList.drop k).set k (.int .i64 N)=(yo m (kids.take (k + 1))).map (fun x=>Value.int .i64 x) ++ cur.toList.drop (k + 1):=by
      rw [uh HSN,List.map_append,List.set_append_right _ _ (by omega),hlk,Nat.sub_self,List.drop_eq_getElem_cons (by simpa using hck)]
      simp
     rw [<- e];exact st.1
    ·exact ((uh HB).trans ((uh b3).mono (by omega))).setCell (Nat.le_refl _) _
    ·have:=(uh b3).size;simp;omega
   case measure=>simp [intOf];omega
  ·have hkl:k=kids.length:=by omega
   subst hkl
   have ki1:¬ (kids.length:Int) < (kids.length:Int):=by omega
   clear hown hbel
   go_wp2
   go_ret
   refine ⟨⟨some ⟨w.heap.size + 1,0,none⟩,kids.length,rfl, ?_⟩,uh BW⟩
   have h:=uh HO
   rw [List.take_of_length_le (Nat.le_refl _),List.drop_of_length_le (by have:=uh HCS;simp;omega),List.append_nil,<- zb] at h
   have h2:OwnK jq 3 1 (w.heap.size + 1) wr (some ⟨w.heap.size + 1,0,none⟩) kids.length (yo m kids):=by
    unfold OwnK;rw [vu];exact h
   exact h2.ls
set_option maxRecDepth 100000 in
set_option maxHeartbeats 4000000 in
theorem Rm (kind:Int) (attr:ByteArray) (qi:Option Addr) (ci:Nat) (ints:List Int) (qw:Option Addr) (cw:Nat) (words:List ByteArray) (lo hi op:Int) (qk:Option Addr) (ck:Nat) (kids:List Nd) (m:Int) (w:World) (hk:NdsOf w qk ck kids) (ih:∀ x ∈ kids,zb2 x) (l3:wtL kids<=1000000000) :
  Calls Tryz.prog 170 #[.agg #[.int .i64 kind,.string attr,.slice qi ints.length ci,.slice qw words.length cw,.int .i64 lo,.int .i64 hi,.int .i64 op,.slice qk kids.length ck],.int .i64 m] w fun e w'=>e=.returned (.int .i64 (Dp m (.mk kind attr ints words lo hi op kids)))/\Below w.heap.size w w':=by
 have hlen:=Nat.le_trans (Nat.le_trans (pl kids) (po kids)) l3
 obtain ⟨X,HX⟩:∃ X,w.alloc (.cells #[.int .i64 kind,.string attr,.slice qi ints.length ci,.slice qw words.length cw,.int .i64 lo,.int .i64 hi,.int .i64 op,.slice qk kids.length ck] 56)=X:=⟨_,rfl⟩
 have hX0:X.heap[w.heap.size]? = some (.cells #[.int .i64 kind,.string attr,.slice qi ints.length ci,.slice qw words.length cw,.int .i64 lo,.int .i64 hi,.int .i64 op,.slice qk kids.length ck] 56 (0,0)):=by rw [<- HX];exact jf _ _
 have hwX:Below w.heap.size w X:=by rw [<- HX];exact (Below.refl _ _).alloc (Nat.le_refl _) _
 obtain ⟨x0,x1,x2,x3,x4,x5,x6,x7⟩:=rj hX0
 have hW:=C7 kind attr qi ci ints qw cw words lo hi op qk ck kids m X (hk.below hwX) ih l3
 have hS:=fun (q:Option Addr) (c:Nat) (W:World) (h:SlOf jq 1 W q c (yo m kids))=>Qk m q c (yo m kids) W h (by rw [vu];omega)
 have hP:=fun (q:Option Addr) (c:Nat) (W:World) (h:SlOf jq 1 W q c (yo m kids))=>Ho m q c (yo m kids) W h (by rw [vu];omega)
 rw [vu] at hS hP
 have HWX:=d9 hwX
 clear hk ih hwX hX0
 by_cases h4:op=4
 ·subst h4
  simp only [Dp,if_true]
  go_enter Tryz.func170,Tryz.ntmps170
  go_wp2_with (first
   | (go_at_call 201;refine hW.mono ?_;rintro e w1 ⟨⟨q,c,rfl,hs⟩,b1⟩;have HS:=d9 hs;have B1:=d9 b1;clear hs b1)
   | (go_at_call 172;refine (hS _ _ _ (uh HS)).mono ?_;rintro e w2 ⟨rfl,b2⟩;have B2:=d9 b2;clear b2))
  go_ret
  exact ⟨rfl,d8 (d8 (uh HWX) (uh B1)) (uh B2)⟩
 ·by_cases h3:op=3
  ·subst h3
   simp only [Dp,if_neg h4,if_true]
   clear h4
   go_enter Tryz.func170,Tryz.ntmps170
   go_wp2_with (first
    | (go_at_call 201;refine hW.mono ?_;rintro e w1 ⟨⟨q,c,rfl,hs⟩,b1⟩;have HS:=d9 hs;have B1:=d9 b1;clear hs b1)
    | (go_at_call 173;refine (hP _ _ _ (uh HS)).mono ?_;rintro e w2 ⟨rfl,b2⟩;have B2:=d9 b2;clear b2))
   go_ret
   exact ⟨rfl,d8 (d8 (uh HWX) (uh B1)) (uh B2)⟩
  ·simp only [Dp,if_neg h4,if_neg h3]
   go_enter Tryz.func170,Tryz.ntmps170
   go_wp2
   go_ret
   exact ⟨rfl,uh HWX⟩
theorem Mh:∀ x,zb2 x:=by
 intro t
 induction t using Nd.ind with
 | h kind attr ints words lo hi op kids ih =>
  intro m v w hin hwt
  obtain ⟨qi,ci,qw,cw,qk,ck,rfl,h1,h2,hk⟩:=hin.parts
  simp only [wtN] at hwt
  have:=Rm kind attr qi ci ints qw cw words lo hi op qk ck kids m w hk ih (by omega)
  simpa only [Nv.val] using this
end Go.Proofs.YtimklglliffpcaaGreat
namespace Go.Proofs.YtimklglliffpcaaGreat
open Go.RowKit Go.Sort
def opN:Nd->Int
 | .mk _ _ _ _ _ _ op _=>op
def Co:List Nd->Bool
 | []=>false
 | x :: _=>decide (opN x=1)
mutual
/-- Do negations stand at predicates alone? -/
def atN:Nd->Bool
 | .mk _ _ _ _ _ _ op ks=>if op=2 then Co ks else atL ks
def atL:List Nd->Bool
 | []=>true
 | x :: xs=>atN x && atL xs
end
/-- What Push answers. -/
def Py (x:Nd):Nd:=if ms x then lr x false else Yz
set_option maxRecDepth 100000 in
set_option maxHeartbeats 4000000 in
theorem Bx (x:Nd) (v:Nv) (w:World) (hin:NdIn w v x) (hwt:wtN x<=1000000000) :
  Calls Tryz.prog 135 #[v.val] w fun e w'=>(∃ v',e=.returned (.tuple #[v'.val,.int .i64 (py (ms x))])/\NdFrom w' w.heap.size v' (Py x))/\Below w.heap.size w w':=by
 obtain ⟨X,HX⟩:∃ X,(w.alloc (.cells #[.int .i64 v.kind,.string v.attr,.slice v.qi v.ni v.ci,.slice v.qw v.nw v.cw,.int .i64 v.lo,.int .i64 v.hi,.int .i64 v.op,.slice v.qk v.nk v.ck] 56)).alloc (.cells #[.int .i64 0,.string ⟨#[]⟩,.slice none 0 0,.slice none 0 0,.int .i64 0,.int .i64 0,.int .i64 0,.slice none 0 0] 56)=X:=⟨_,rfl⟩
 obtain ⟨hX0,hX1,hwX,hXs⟩:=Li HX
 obtain ⟨x0,x1,x2,x3,x4,x5,x6,x7⟩:=rj hX0
 obtain ⟨y0,y1,y2,y3,y4,y5,y6,y7⟩:=rj hX1
 have yf:∀ o,X.frozen? ⟨w.heap.size + 1,o,none⟩=false:=fun o=>gy hX1
 have hz1:w.heap.size + 1 < X.heap.size:=by omega
 have hz0:w.heap.size < X.heap.size:=by omega
 have hc:=Ke x v X (hin.keep hwX) hwt
 have HWX:=d9 hwX
 have HX0:=d9 hX0
 unfold Py
 cases hx:ms x
 ·rw [hx,show py false=1 from rfl] at hc
  simp only [Nv.val] at hc
  simp only [Bool.false_eq_true,if_false]
  simp only [show py false=1 from rfl,Nv.val]
  clear hin hwX hX0 hX1
  go_enter Tryz.func135,Tryz.ntmps135
  go_wp2_with (go_at_call 91;refine hc.mono ?_;rintro e w1 ⟨rfl,b1⟩;obtain ⟨r0,r1,r2,r3,r4,r5,r6,r7⟩:w1.cell? ⟨w.heap.size + 1,0,none⟩=some (.int .i64 0)/\w1.cell? ⟨w.heap.size + 1,1,none⟩=some (.string ⟨#[]⟩)/\w1.cell? ⟨w.heap.size + 1,2,none⟩=some (.slice none 0 0)/\w1.cell? ⟨w.heap.size + 1,3,none⟩=some (.slice none 0 0)/\w1.cell? ⟨w.heap.size + 1,4,none⟩=some (.int .i64 0)/\w1.cell? ⟨w.heap.size + 1,5,none⟩=some (.int .i64 0)/\w1.cell? ⟨w.heap.size + 1,6,none⟩=some (.int .i64 0)/\w1.cell? ⟨w.heap.size + 1,7,none⟩=some (.slice none 0 0):=⟨(b1.cell (by exact hz1)).trans y0,(b1.cell (by exact hz1)).trans y1,(b1.cell (by exact hz1)).trans y2,(b1.cell (by exact hz1)).trans y3,(b1.cell (by exact hz1)).trans y4,(b1.cell (by exact hz1)).trans y5,(b1.cell (by exact hz1)).trans y6,(b1.cell (by exact hz1)).trans y7⟩;have rf:∀ o,w1.frozen? ⟨w.heap.size + 1,o,none⟩=false:=(fun o=>(b1.frozen (by exact hz1)).trans (yf o));have rz:w.heap.size + 1 < w1.heap.size:=(by have:=b1.size;omega);have B1:=d9 b1;clear b1)
  refine bodyPost_ret (v:=.tuple #[.agg #[.int .i64 0,.string ⟨#[]⟩,.slice none 0 0,.slice none 0 0,.int .i64 0,.int .i64 0,.int .i64 0,.slice none 0 0],.int .i64 1]) (by simp [results,Tryz.results135,go_sem, *]) rfl ⟨⟨⟨0,⟨#[]⟩,none,0,0,none,0,0,0,0,0,none,0,0⟩,rfl, ?_⟩,j4 (g:=w.heap.size + 1) (d8 (uh HWX) (uh B1)) (Nat.le_succ _) _ _ _ _ _ _ _ _⟩
  exact NdFrom.make (ints:=[]) (words:=[]) (kids:=[]) (vs:=[]) (SlOf.none _) li (SlOf.none _) li (SlOf.none _) li rfl (fun j v x h=>by simp at h)
 ·have hD:=fun (W:World) (hW:Below X.heap.size X W)=>Tu x false v W ((hin.keep hwX).keep hW) hx hwt
  rw [hx,show py true=0 from rfl] at hc
  simp only [Nv.val] at hc hD
  simp only [if_true]
  simp only [show py true=0 from rfl,Nv.val]
  clear hin hwX hX0 hX1
  go_enter Tryz.func135,Tryz.ntmps135
  go_wp2_with (first
   | (go_at_call 91;refine hc.mono ?_;rintro e w1 ⟨rfl,b1⟩;obtain ⟨s0,s1,s2,s3,s4,s5,s6,s7⟩:=rj ((b1.block _ hz0).trans (uh HX0));have B1:=d9 b1;clear b1)
   | (go_at_call 171;refine (hD _ (uh B1)).mono ?_;rintro e w2 ⟨⟨u,rfl,hu⟩,b2'⟩;simp only [Nv.val];have b2:=d8 (uh B1) b2';obtain ⟨r0,r1,r2,r3,r4,r5,r6,r7⟩:w2.cell? ⟨w.heap.size + 1,0,none⟩=some (.int .i64 0)/\w2.cell? ⟨w.heap.size + 1,1,none⟩=some (.string ⟨#[]⟩)/\w2.cell? ⟨w.heap.size + 1,2,none⟩=some (.slice none 0 0)/\w2.cell? ⟨w.heap.size + 1,3,none⟩=some (.slice none 0 0)/\w2.cell? ⟨w.heap.size + 1,4,none⟩=some (.int .i64 0)/\w2.cell? ⟨w.heap.size + 1,5,none⟩=some (.int .i64 0)/\w2.cell? ⟨w.heap.size + 1,6,none⟩=some (.int .i64 0)/\w2.cell? ⟨w.heap.size + 1,7,none⟩=some (.slice none 0 0):=⟨(b2.cell (by exact hz1)).trans y0,(b2.cell (by exact hz1)).trans y1,(b2.cell (by exact hz1)).trans y2,(b2.cell (by exact hz1)).trans y3,(b2.cell (by exact hz1)).trans y4,(b2.cell (by exact hz1)).trans y5,(b2.cell (by exact hz1)).trans y6,(b2.cell (by exact hz1)).trans y7⟩;have rf:∀ o,w2.frozen? ⟨w.heap.size + 1,o,none⟩=false:=(fun o=>(b2.frozen (by exact hz1)).trans (yf o));have rz:w.heap.size + 1 < w2.heap.size:=(by have:=b2.size;omega);have HU:=d9 hu;have B2:=d9 b2;have S1:=d9 (uh B1).size;clear hu b2 b2'))
  refine bodyPost_ret (v:=.tuple #[.agg #[.int .i64 u.kind,.string u.attr,.slice u.qi u.ni u.ci,.slice u.qw u.nw u.cw,.int .i64 u.lo,.int .i64 u.hi,.int .i64 u.op,.slice u.qk u.nk u.ck],.int .i64 0]) (by simp [results,Tryz.results135,go_sem, *]) rfl ⟨⟨u,rfl,((uh HU).up (mo (g:=w.heap.size + 1) w2 (by have:=uh S1;omega) _ _ _ _ _ _ _ _)).mono (by have:=uh S1;omega)⟩,j4 (g:=w.heap.size + 1) (d8 (uh HWX) (uh B2)) (Nat.le_succ _) _ _ _ _ _ _ _ _⟩
/-- What Width answers: the number and the code. -/
def qh (x:Nd) (m:Int):Int:=if ms x then (if 1<=m/\m<=64 then Dp m (lr x false) else 0) else 0
def pi (x:Nd) (m:Int):Int:=if ms x then (if 1<=m/\m<=64 then 0 else 2) else 1
set_option maxRecDepth 100000 in
set_option maxHeartbeats 4000000 in
theorem Ci (x:Nd) (m:Int) (v:Nv) (w:World) (hin:NdIn w v x) (hwt:wtN x<=1000000000) (hwd:wtN (lr x false)<=1000000000) :
  Calls Tryz.prog 134 #[v.val,.int .i64 m] w fun e w'=>e=.returned (.tuple #[.int .i64 (qh x m),.int .i64 (pi x m)])/\Below w.heap.size w w':=by
 obtain ⟨X,HX⟩:∃ X,w.alloc (.cells #[.int .i64 v.kind,.string v.attr,.slice v.qi v.ni v.ci,.slice v.qw v.nw v.cw,.int .i64 v.lo,.int .i64 v.hi,.int .i64 v.op,.slice v.qk v.nk v.ck] 56)=X:=⟨_,rfl⟩
 have hX0:X.heap[w.heap.size]? = some (.cells #[.int .i64 v.kind,.string v.attr,.slice v.qi v.ni v.ci,.slice v.qw v.nw v.cw,.int .i64 v.lo,.int .i64 v.hi,.int .i64 v.op,.slice v.qk v.nk v.ck] 56 (0,0)):=by rw [<- HX];exact jf _ _
 have hwX:Below w.heap.size w X:=by rw [<- HX];exact (Below.refl _ _).alloc (Nat.le_refl _) _
 obtain ⟨x0,x1,x2,x3,x4,x5,x6,x7⟩:=rj hX0
 have hp:=Bx x v X (hin.keep hwX) hwt
 have HWX:=d9 hwX
 clear hin hwX hX0
 unfold qh pi
 cases hx:ms x
 ·rw [hx,show py false=1 from rfl] at hp
  simp only [Nv.val] at hp
  simp only [Nv.val,Bool.false_eq_true,if_false]
  go_enter Tryz.func134,Tryz.ntmps134
  go_wp2_with (go_at_call 135;refine hp.mono ?_;rintro e w1 ⟨⟨u,rfl,hu⟩,b1⟩;have B1:=d9 b1;clear b1 hu)
  refine bodyPost_ret (v:=.tuple #[.int .i64 0,.int .i64 1]) (by simp [results,Tryz.results134,go_sem]) rfl ⟨rfl,(d8 (uh HWX) (uh B1)).alloc (d8 (uh HWX) (uh B1)).size _⟩
 ·rw [hx,show py true=0 from rfl] at hp
  simp only [Py,hx,if_true] at hp
  have hW:=fun (u:Nv) (W:World) (hW:NdIn W u (lr x false))=>Mh (lr x false) m u W hW hwd
  simp only [Nv.val] at hp hW
  simp only [Nv.val,if_true]
  by_cases hm:1<=m/\m<=64
  ·rw [if_pos hm,if_pos hm]
   obtain ⟨m1,m2⟩:=hm
   have f1:¬ m < 1:=by omega
   have f2:¬ 64 < m:=by omega
   go_enter Tryz.func134,Tryz.ntmps134
   go_wp2_with (first
    | (go_at_call 135;refine hp.mono ?_;rintro e w1 ⟨⟨u,rfl,hu⟩,b1⟩;have B1:=d9 b1;have HU:=d9 (hu.toIn.keep ((Below.refl w1.heap.size w1).alloc (Nat.le_refl _) (.cells #[.int .i64 u.kind,.string u.attr,.slice u.qi u.ni u.ci,.slice u.qw u.nw u.cw,.int .i64 u.lo,.int .i64 u.hi,.int .i64 u.op,.slice u.qk u.nk u.ck] 56)));clear b1 hu)
    | (go_at_call 170;refine (hW _ _ (uh HU)).mono ?_;rintro e w2 ⟨rfl,b2⟩;have B2:=d9 b2;clear b2))
   refine bodyPost_ret (v:=.tuple #[.int .i64 (Dp m (lr x false)),.int .i64 0]) (by simp [results,Tryz.results134,go_sem]) rfl ⟨rfl,d8 ((d8 (uh HWX) (uh B1)).alloc (d8 (uh HWX) (uh B1)).size _) (uh B2)⟩
  ·rw [if_neg hm,if_neg hm]
   by_cases f1:m < 1
   ·clear hm
    go_enter Tryz.func134,Tryz.ntmps134
    go_wp2_with (go_at_call 135;refine hp.mono ?_;rintro e w1 ⟨⟨u,rfl,hu⟩,b1⟩;have B1:=d9 b1;clear b1 hu)
    refine bodyPost_ret (v:=.tuple #[.int .i64 0,.int .i64 2]) (by simp [results,Tryz.results134,go_sem]) rfl ⟨rfl,(d8 (uh HWX) (uh B1)).alloc (d8 (uh HWX) (uh B1)).size _⟩
   ·have f2:64 < m:=by omega
    clear hm
    go_enter Tryz.func134,Tryz.ntmps134
    go_wp2_with (go_at_call 135;refine hp.mono ?_;rintro e w1 ⟨⟨u,rfl,hu⟩,b1⟩;have B1:=d9 b1;clear b1 hu)
    refine bodyPost_ret (v:=.tuple #[.int .i64 0,.int .i64 2]) (by simp [results,Tryz.results134,go_sem]) rfl ⟨rfl,(d8 (uh HWX) (uh B1)).alloc (d8 (uh HWX) (uh B1)).size _⟩
end Go.Proofs.YtimklglliffpcaaGreat
namespace Go.Proofs.YtimklglliffpcaaGreat
open Go.RowKit Go.Sort
theorem zbb:Et 0 ⟨#[]⟩ 0 0 0 0=true:=by decide +kernel
theorem Zi {kind:Int} {attr:ByteArray} {ints:List Int} {words:List ByteArray} {lo hi:Int} (neg:Bool) (h:kg kind attr ints words lo hi=true):ms (Qo kind attr ints words lo hi neg)=true:=by
 have h1:ms (.mk kind attr ints words lo hi 1 [])=true:=by simp [ms,zx,h,ts]
 cases neg
 ·simpa [Qo] using h1
 ·simp [Qo,Z3,ms,zx,ts,h,zbb]
theorem zt {l:List Nd} {neg:Bool} {y:Nd} (h:y ∈ rd l neg):∃ x ∈ l,y=lr x neg:=by
 rw [Ao] at h
 obtain ⟨x,hx,rfl⟩:=List.mem_map.1 h
 exact ⟨x,hx,rfl⟩
theorem Ym {l:List Nd} (h:∀ x ∈ l,ms x=true):ts l=true:=by
 induction l with
 | nil=>rfl
 | cons x l ih=>simp [ts,h x (by simp),ih fun y hy=>h y (by simp [hy])]
theorem zai {l:List Nd} (h:∀ x ∈ l,atN x=true):atL l=true:=by
 induction l with
 | nil=>rfl
 | cons x l ih=>simp [atL,h x (by simp),ih fun y hy=>h y (by simp [hy])]
theorem Nr {op:Int} (h:op=3 ∨ op=4) (neg:Bool):((if neg then sr op else op)=3 ∨ (if neg then sr op else op)=4):=by
 rcases h with rfl | rfl <;> cases neg <;> simp [sr]
theorem Bt {kind lo hi op:Int} {attr:ByteArray} {ints:List Int} {words:List ByteArray} {kids:List Nd} (ho:op=3 ∨ op=4) (neg:Bool):lr (.mk kind attr ints words lo hi op kids) neg=.mk 0 ⟨#[]⟩ [] [] 0 0 (if neg then sr op else op) (rd kids neg):=by
 have n1:¬ op=1:=by omega
 have n2:¬ op=2:=by omega
 simp only [lr,if_neg n1,if_neg n2]
theorem Jd:∀ (t:Nd) (neg:Bool),ms t=true->ms (lr t neg)=true:=by
 intro t
 induction t using Nd.ind with
 | h kind attr ints words lo hi op kids ih =>
  intro neg hc
  rcases pw hc with ⟨rfl,rfl,hp⟩ | ⟨rfl,⟨x,rfl,hx⟩,_⟩ | ⟨ho,h2,hl,_⟩
  ·simpa [lr] using Zi neg hp
  ·simpa [lr,J7] using ih x (by simp) (!neg) hx
  ·rw [Bt ho]
   have h3:=Nr ho neg
   generalize (if neg=true then sr op else op)=op2 at h3
   have hL:ts (rd kids neg)=true:=Ym fun y hy=>by
    obtain ⟨x,hx,rfl⟩:=zt hy
    exact ih x hx neg (rt hl x hx)
   have hlen:2<=(rd kids neg).length:=by rw [sq];exact h2
   rcases h3 with rfl | rfl <;> simp [ms,zx,zbb,hL,hlen]
theorem zbn {kind:Int} {attr:ByteArray} {ints:List Int} {words:List ByteArray} {lo hi:Int} (neg:Bool):atN (Qo kind attr ints words lo hi neg)=true:=by
 cases neg <;> simp [Qo,Z3,atN,atL,Co,opN]
theorem Ln:∀ (t:Nd) (neg:Bool),ms t=true->atN (lr t neg)=true:=by
 intro t
 induction t using Nd.ind with
 | h kind attr ints words lo hi op kids ih =>
  intro neg hc
  rcases pw hc with ⟨rfl,rfl,hp⟩ | ⟨rfl,⟨x,rfl,hx⟩,_⟩ | ⟨ho,h2,hl,_⟩
  ·simpa [lr] using zbn neg
  ·simpa [lr,J7] using ih x (by simp) (!neg) hx
  ·rw [Bt ho]
   have h3:=Nr ho neg
   generalize (if neg=true then sr op else op)=op2 at h3
   have n2:¬ op2=2:=by omega
   simp only [atN,if_neg n2]
   exact zai fun y hy=>by
    obtain ⟨x,hx,rfl⟩:=zt hy
    exact ih x hx neg (rt hl x hx)
theorem Ca:∀ (t:Nd) (neg:Bool),ms t=true->wtN (lr t neg)<=2 * wtN t:=by
 intro t
 induction t using Nd.ind with
 | h kind attr ints words lo hi op kids ih =>
  intro neg hc
  have e:(⟨#[]⟩:ByteArray).size=0:=rfl
  rcases pw hc with ⟨rfl,rfl,hp⟩ | ⟨rfl,⟨x,rfl,hx⟩,_⟩ | ⟨ho,h2,hl,_⟩
  ·cases neg <;> simp only [lr,Qo,Z3,wtN,wtL,mn,List.length_nil,e,if_true,if_false,Bool.false_eq_true] <;> omega
  ·have:=ih x (by simp) (!neg) hx
   simp only [lr,J7,wtN,wtL,if_true]
   rw [if_neg (by omega)]
   omega
  ·rw [Bt ho]
   have hL:wtL (rd kids neg)<=2 * wtL kids:=by
    have hh:∀ x ∈ kids,wtN (lr x neg)<=2 * wtN x:=fun x hx=>ih x hx neg (rt hl x hx)
    clear ih hl h2 hc ho
    induction kids with
    | nil=>simp [rd,wtL]
    | cons x l ih2 =>
     have h1:=hh x (by simp)
     have h3:=ih2 fun y hy=>hh y (by simp [hy])
     simp only [rd,wtL];omega
   simp only [wtN,mn,List.length_nil,e]
   omega
end Go.Proofs.YtimklglliffpcaaGreat
namespace Go.Proofs.YtimklglliffpcaaGreat
open Go.RowKit Go.Sort
mutual
/-- The width, as a whole number. -/
def wN:Nd->Int
 | .mk _ _ _ _ _ _ op ks=>if op=4 then Zg ks else if op=3 then Fq ks else 1
def Zg:List Nd->Int
 | []=>0
 | x :: xs=>wN x + Zg xs
def Fq:List Nd->Int
 | []=>1
 | x :: xs=>wN x * Fq xs
end
def J6:List Int->Int
 | []=>0
 | x :: xs=>x + J6 xs
def yd:List Int->Int
 | []=>1
 | x :: xs=>x * yd xs
theorem Vu (l:List Nd):Zg l=J6 (l.map wN):=by
 induction l with
 | nil=>rfl
 | cons x l ih=>simp [Zg,J6,ih]
theorem Lx (l:List Nd):Fq l=yd (l.map wN):=by
 induction l with
 | nil=>rfl
 | cons x l ih=>simp [Fq,yd,ih]
theorem Fo {l:List Int} (h:∀ x ∈ l,1<=x):0<=J6 l:=by
 induction l with
 | nil=>simp [J6]
 | cons x l ih=>have:=h x (by simp);have:=ih fun y hy=>h y (by simp [hy]);simp only [J6];omega
theorem D4 {a b:Int} (ha:1<=a) (hb:1<=b):a<=a * b/\b<=a * b/\1<=a * b:=by
 have h1:=Int.mul_le_mul_of_nonneg_left hb (show (0:Int)<=a by omega)
 have h2:=Int.mul_le_mul_of_nonneg_right ha (show (0:Int)<=b by omega)
 omega
theorem Dm {l:List Int} (h:∀ x ∈ l,1<=x):1<=yd l:=by
 induction l with
 | nil=>simp [yd]
 | cons x l ih=>have h1:=h x (by simp);have h2:=ih fun y hy=>h y (by simp [hy]);simp only [yd];exact (D4 h1 h2).2.2
theorem Lm (M:Int):∀ (ws:List Int) (s:Int),0<=s->s<=M->(∀ x ∈ ws,1<=x)->Cp M (ws.map (fun x=>min x (M + 1))) s=min (s + J6 ws) (M + 1):=by
 intro ws
 induction ws with
 | nil=>intro s h0 h1 _;simp only [List.map_nil,Cp,J6];omega
 | cons x l ih =>
  intro s h0 h1 h
  have hx:=h x (by simp)
  have hl:∀ y ∈ l,1<=y:=fun y hy=>h y (by simp [hy])
  have hg:=Fo hl
  simp only [List.map_cons,Cp,J6]
  by_cases hc:M - s < min x (M + 1)
  ·rw [if_pos hc];omega
  ·rw [if_neg hc,ih _ (by omega) (by omega) hl];omega
theorem Kj (M:Int):∀ (ws:List Int) (p:Int),1<=p->p<=M->(∀ x ∈ ws,1<=x)->vo M (ws.map (fun x=>min x (M + 1))) p=min (p * yd ws) (M + 1):=by
 intro ws
 induction ws with
 | nil=>intro p h0 h1 _;simp only [List.map_nil,vo,yd,Int.mul_one];omega
 | cons x l ih =>
  intro p h0 h1 h
  have hx:=h x (by simp)
  have hl:∀ y ∈ l,1<=y:=fun y hy=>h y (by simp [hy])
  have hg:=Dm hl
  have hm:1<=min x (M + 1):=by omega
  simp only [List.map_cons,vo,yd]
  have hM:0<=M:=by omega
  by_cases hc:M.tdiv (min x (M + 1)) < p
  ·rw [if_pos hc]
   rw [Int.tdiv_eq_ediv_of_nonneg hM,Int.ediv_lt_iff_lt_mul (by omega)] at hc
   have h2:p * min x (M + 1)<=p * x:=Int.mul_le_mul_of_nonneg_left (by omega) (by omega)
   have h3:=(D4 (D4 h0 hx).2.2 hg).1
   rw [Int.mul_assoc] at h3
   omega
  ·rw [if_neg hc]
   have hs:=El hM h0 (by omega) hc
   have h4:min x (M + 1)<=p * min x (M + 1):=(D4 h0 hm).2.1
   have h5:min x (M + 1)=x:=by omega
   rw [h5] at hs ⊢
   rw [ih _ (by omega) (by omega) hl,Int.mul_assoc]
theorem Vp {m:Int} (h1:1<=m) (h2:m<=64):bnd m=m:=by unfold bnd;omega
theorem Dd {m:Int} (h1:1<=m) (h2:m<=64):∀ t,ms t=true->Dp m t=min (wN t) (m + 1)/\1<=wN t:=by
 intro t
 induction t using Nd.ind with
 | h kind attr ints words lo hi op kids ih =>
  intro hc
  have hl:ts kids=true:=by simp only [ms,Bool.and_eq_true] at hc;exact hc.2
  have hall:∀ x ∈ kids,Dp m x=min (wN x) (m + 1)/\1<=wN x:=fun x hx=>ih x hx (rt hl x hx)
  have hmap:yo m kids=(kids.map wN).map (fun x=>min x (m + 1)):=by
   rw [vv,List.map_map]
   exact List.map_congr_left fun x hx=>(hall x hx).1
  have hge:∀ y ∈ kids.map wN,1<=y:=fun y hy=>by
   obtain ⟨x,hx,rfl⟩:=List.mem_map.1 hy
   exact (hall x hx).2
  simp only [Dp,wN]
  by_cases h4:op=4
  ·rw [if_pos h4,if_pos h4,Vu,hmap]
   unfold Vt
   rw [Vp h1 h2,Lm m _ 0 (by omega) (by omega) hge]
   refine ⟨by omega, ?_⟩
   rcases pw hc with ⟨h,_⟩ | ⟨h,_⟩ | ⟨_,hk,_⟩
   ·omega
   ·omega
   ·match kids,hk with
    | x :: l,_ =>
     have hx:=hge (wN x) (by simp)
     have:=Fo fun y (hy:y ∈ l.map wN)=>hge y (by simp at hy ⊢;exact Or.inr hy)
     simp only [List.map_cons,J6];omega
  ·rw [if_neg h4,if_neg h4]
   by_cases h3:op=3
   ·rw [if_pos h3,if_pos h3,Lx,hmap]
    have hg:=Dm hge
    refine ⟨?_,hg⟩
    have hany:((kids.map wN).map (fun x=>min x (m + 1))).any (fun x=>decide (x<=0))=false:=by
     rw [List.any_eq_false]
     intro y hy
     obtain ⟨z,hz,rfl⟩:=List.mem_map.1 hy
     have:=hge z hz
     simp;omega
    unfold En
    rw [hany,Vp h1 h2,Kj m _ 1 (by omega) h1 hge]
    simp
   ·rw [if_neg h3,if_neg h3];omega
end Go.Proofs.YtimklglliffpcaaGreat
namespace Go.Proofs.YtimklglliffpcaaGreat
open Go.RowKit Go.Sort
/-- A literal. -/
structure Lt where
 kind:Int
 attr:ByteArray
 ints:List Int
 words:List ByteArray
 lo:Int
 hi:Int
 neg:Bool
def n9 (a b:List (List Lt)):List (List Lt):=a.flatMap (fun x=>b.map (fun y=>x ++ y))
def Bm:List Nd->List (List Lt)
 | []=>[]
 | .mk kind attr ints words lo hi _ _ :: _=>[[⟨kind,attr,ints,words,lo,hi,true⟩]]
mutual
/-- The conjunctions of a pushed tree, in their order. -/
def cjN:Nd->List (List Lt)
 | .mk kind attr ints words lo hi op ks=>if op=4 then pp ks else if op=3 then jx ks else if op=2 then Bm ks else [[⟨kind,attr,ints,words,lo,hi,false⟩]]
def pp:List Nd->List (List Lt)
 | []=>[]
 | x :: xs=>cjN x ++ pp xs
def jx:List Nd->List (List Lt)
 | []=>[[]]
 | x :: xs=>n9 (cjN x) (jx xs)
end
theorem Fb (a b:List (List Lt)):(n9 a b).length=a.length * b.length:=by
 induction a with
 | nil=>simp [n9]
 | cons x a ih =>
  have:n9 (x :: a) b=b.map (fun y=>x ++ y) ++ n9 a b:=by simp [n9]
  rw [this,List.length_append,List.length_map,ih,List.length_cons,Nat.add_mul,Nat.one_mul,Nat.add_comm]
/-- What stands at a place of a choice. -/
theorem Nj (a b:List (List Lt)) (i j:Nat) (x y:List Lt) (hi:a[i]? = some x) (hj:b[j]? = some y):(n9 a b)[i * b.length + j]? = some (x ++ y):=by
 induction a generalizing i with
 | nil=>simp at hi
 | cons z a ih =>
  have hc:n9 (z :: a) b=b.map (fun y=>z ++ y) ++ n9 a b:=by simp [n9]
  have hjl:=(List.getElem?_eq_some_iff.1 hj).1
  rw [hc]
  cases i with
  | zero =>
   simp only [List.getElem?_cons_zero,Option.some.injEq] at hi
   subst hi
   rw [Nat.zero_mul,Nat.zero_add,List.getElem?_append_left (by rw [List.length_map];exact hjl),List.getElem?_map,hj]
   rfl
  | succ i =>
   rw [List.getElem?_append_right (by rw [List.length_map,Nat.add_mul];omega),List.length_map,show (i + 1) * b.length + j - b.length=i * b.length + j by rw [Nat.add_mul];omega]
   exact ih i (by simpa using hi)
def ltH (ev:List Pr) (l:Lt):Bool:=mr l.kind l.attr l.ints l.words l.lo l.hi ev != l.neg
/-- Does one of the conjunctions hold? -/
def yu (ev:List Pr) (cs:List (List Lt)):Bool:=cs.any (fun c=>c.all (ltH ev))
theorem Hq (ev:List Pr) (a b:List (List Lt)):yu ev (a ++ b)=(yu ev a || yu ev b):=by simp [yu]
theorem Q1 (ev:List Pr) (x:List Lt) (b:List (List Lt)):yu ev (b.map (fun y=>x ++ y))=(x.all (ltH ev) && yu ev b):=by
 induction b with
 | nil=>simp [yu]
 | cons y b ih =>
  simp only [yu,List.map_cons,List.any_cons] at ih ⊢
  rw [ih,List.all_append]
  cases x.all (ltH ev) <;> simp
theorem Kt (ev:List Pr) (a b:List (List Lt)):yu ev (n9 a b)=(yu ev a && yu ev b):=by
 induction a with
 | nil=>simp [n9,yu]
 | cons x a ih =>
  have hc:n9 (x :: a) b=b.map (fun y=>x ++ y) ++ n9 a b:=by simp [n9]
  rw [hc,Hq,Q1,ih]
  have:yu ev (x :: a)=(x.all (ltH ev) || yu ev a):=by simp [yu]
  rw [this]
  cases x.all (ltH ev) <;> cases yu ev a <;> cases yu ev b <;> rfl
theorem Fu {l:List Nd} (h:atL l=true):∀ x ∈ l,atN x=true:=by
 induction l with
 | nil=>intro x hx;simp at hx
 | cons y l ih =>
  simp only [atL,Bool.and_eq_true] at h
  intro x hx
  rcases List.mem_cons.1 hx with rfl | hx
  ·exact h.1
  ·exact ih h.2 x hx
/-- As many as the width, and true just where the tree is. -/
theorem Eh (ev:List Pr):∀ t,ms t=true->atN t=true->((cjN t).length:Int)=wN t/\yu ev (cjN t)=Vq ev t:=by
 intro t
 induction t using Nd.ind with
 | h kind attr ints words lo hi op kids ih =>
  intro hc ha
  rcases pw hc with ⟨rfl,rfl,hp⟩ | ⟨rfl,⟨x,rfl,hx⟩,_⟩ | ⟨ho,h2,hl,_⟩
  ·simp [cjN,wN,Vq,yu,ltH]
  ·have h1:opN x=1:=by
    simpa [atN,Co] using ha
   cases x with
   | mk k1 a1 i1 w1 l1 h1' o1 ks1 =>
    simp only [opN] at h1
    subst h1
    simp [cjN,Bm,wN,Vq,Xr,yu,ltH]
  ·have n2:¬ op=2:=by omega
   have hall:∀ x ∈ kids,((cjN x).length:Int)=wN x/\yu ev (cjN x)=Vq ev x:=by
    simp only [atN,if_neg n2] at ha
    exact fun x hx=>ih x hx (rt hl x hx) (Fu ha x hx)
   have hs:((pp kids).length:Int)=Zg kids/\yu ev (pp kids)=Xr ev kids/\((jx kids).length:Int)=Fq kids/\yu ev (jx kids)=zbu ev kids:=by
    clear ih hc ha h2 hl
    induction kids with
    | nil=>simp [pp,jx,Zg,Fq,yu,Xr,zbu]
    | cons x l ih2 =>
     obtain ⟨i1,i2,i3,i4⟩:=ih2 fun y hy=>hall y (by simp [hy])
     obtain ⟨j1,j2⟩:=hall x (by simp)
     refine ⟨?_, ?_, ?_, ?_⟩
     ·simp only [pp,Zg,List.length_append,Int.natCast_add,i1,j1]
     ·simp only [pp,Xr,Hq,i2,j2]
     ·simp only [jx,Fq,Fb,Int.natCast_mul,i3,j1]
     ·simp only [jx,zbu,Kt,i4,j2]
   rcases ho with rfl | rfl
   ·have n34:¬ (3:Int)=4:=by decide
    have n32:¬ (3:Int)=2:=by decide
    simp only [cjN,wN,Vq,if_neg n34,if_neg n32,if_true]
    exact ⟨hs.2.2.1,hs.2.2.2⟩
   ·have n42:¬ (4:Int)=2:=by decide
    have n43:¬ (4:Int)=3:=by decide
    simp only [cjN,wN,Vq,if_neg n42,if_neg n43,if_true]
    exact ⟨hs.1,hs.2.1⟩
/-- The place of a conjunction of an Or. -/
theorem Pm (x:Nd) (l:List Nd) (p:Nat):(pp (x :: l))[p]? = if p < (cjN x).length then (cjN x)[p]? else (pp l)[p - (cjN x).length]?:=by
 simp only [pp]
 by_cases h:p < (cjN x).length
 ·rw [if_pos h,List.getElem?_append_left h]
 ·rw [if_neg h,List.getElem?_append_right (by omega)]
/-- The place of a conjunction of an And. -/
theorem Tz (x:Nd) (l:List Nd) (p:Nat) (hp:p < (cjN x).length * (jx l).length):∃ c d,(cjN x)[p / (jx l).length]? = some c/\(jx l)[p % (jx l).length]? = some d/\(jx (x :: l))[p]? = some (c ++ d):=by
 have hpos:0 < (jx l).length:=by
  rcases Nat.eq_zero_or_pos (jx l).length with h | h
  ·rw [h,Nat.mul_zero] at hp;omega
  ·exact h
 have h1:p / (jx l).length < (cjN x).length:=(Nat.div_lt_iff_lt_mul hpos).2 hp
 have h2:p % (jx l).length < (jx l).length:=Nat.mod_lt _ hpos
 refine ⟨_,_,List.getElem?_eq_getElem h1,List.getElem?_eq_getElem h2, ?_⟩
 have:=Nj (cjN x) (jx l) _ _ _ _ (List.getElem?_eq_getElem h1) (List.getElem?_eq_getElem h2)
 simp only [jx]
 rw [Nat.mul_comm,Nat.div_add_mod] at this
 exact this
end Go.Proofs.YtimklglliffpcaaGreat
namespace Go.Proofs.YtimklglliffpcaaGreat
open Go.RowKit Go.Sort
/-- A literal as it lies in memory. -/
structure Lv where
 kind:Int
 attr:ByteArray
 qi:Option Addr
 ni:Nat
 ci:Nat
 qw:Option Addr
 nw:Nat
 cw:Nat
 lo:Int
 hi:Int
 neg:Bool
instance:Inhabited Lv:=⟨⟨0,⟨#[]⟩,none,0,0,none,0,0,0,0,false⟩⟩
def Jy (u:Lv):List Value:=[.int .i64 u.kind,.string u.attr,.slice u.qi u.ni u.ci,.slice u.qw u.nw u.cw,.int .i64 u.lo,.int .i64 u.hi,.bool u.neg]
def LitIn (w:World) (u:Lv) (l:Lt):Prop:=u.kind=l.kind/\u.attr=l.attr/\u.ni=l.ints.length/\u.nw=l.words.length/\u.lo=l.lo/\u.hi=l.hi/\u.neg=l.neg/\SlOf jq 1 w u.qi u.ci l.ints/\SlOf jy 1 w u.qw u.cw l.words
theorem LitIn.keep {w w':World} {u:Lv} {l:Lt} (h:LitIn w u l) (hb:Below w.heap.size w w'):LitIn w' u l:=by
 obtain ⟨h1,h2,h3,h4,h5,h6,h7,h8,h9⟩:=h
 exact ⟨h1,h2,h3,h4,h5,h6,h7,h8.below hb,h9.below hb⟩
/-- A list of literals in memory. -/
def LitsOf (w:World) (q:Option Addr) (c:Nat) (ls:List Lt):Prop:=∃ us,SlOf Jy 7 w q c us/\us.length=ls.length/\∀ (j:Nat) (u:Lv) (l:Lt),us[j]? = some u->ls[j]? = some l->LitIn w u l
theorem LitsOf.below {w w':World} {q:Option Addr} {c:Nat} {ls:List Lt} (h:LitsOf w q c ls) (hb:Below w.heap.size w w'):LitsOf w' q c ls:=by
 obtain ⟨us,h1,h2,h3⟩:=h
 exact ⟨us,h1.below hb,h2,fun j u l hj hl=>(h3 j u l hj hl).keep hb⟩
theorem LitsOf.at {w:World} {q:Option Addr} {c:Nat} {ls:List Lt} {j:Nat} {l:Lt} (h:LitsOf w q c ls) (hj:ls[j]? = some l) :
  ∃ b off u,q=some ⟨b,off,none⟩/\b < w.heap.size/\LitIn w u l/\w.cell? ⟨b,off + j * 7,none⟩=some (.int .i64 u.kind)/\w.cell? ⟨b,off + j * 7 + 1,none⟩=some (.string u.attr)/\w.cell? ⟨b,off + j * 7 + 2,none⟩=some (.slice u.qi u.ni u.ci)/\w.cell? ⟨b,off + j * 7 + 3,none⟩=some (.slice u.qw u.nw u.cw)/\w.cell? ⟨b,off + j * 7 + 4,none⟩=some (.int .i64 u.lo)/\w.cell? ⟨b,off + j * 7 + 5,none⟩=some (.int .i64 u.hi)/\w.cell? ⟨b,off + j * 7 + 6,none⟩=some (.bool u.neg):=by
 obtain ⟨us,h1,h2,h3⟩:=h
 have hl:j < ls.length:=(List.getElem?_eq_some_iff.1 hj).1
 obtain ⟨u,hu,_⟩:=je (l:=us) (k:=j) (by omega)
 obtain ⟨b,off,hq,hb,hc⟩:=h1.2.2.2.at hu
 exact ⟨b,off,u,hq,hb,h3 j u l hu hj,hc 0 (by omega),hc 1 (by omega),hc 2 (by omega),hc 3 (by omega),hc 4 (by omega),hc 5 (by omega),hc 6 (by omega)⟩
theorem Xp {w:World} {M:Nat} {a0 a1 a2 a3 a4 a5 a6:Value} {T:TypeId} (h:w.heap[M]? = some (.cells #[a0,a1,a2,a3,a4,a5,a6] T (0,0))):w.cell? ⟨M,0,none⟩=some a0/\w.cell? ⟨M,1,none⟩=some a1/\w.cell? ⟨M,2,none⟩=some a2/\w.cell? ⟨M,3,none⟩=some a3/\w.cell? ⟨M,4,none⟩=some a4/\w.cell? ⟨M,5,none⟩=some a5/\w.cell? ⟨M,6,none⟩=some a6:=by
 refine ⟨?_, ?_, ?_, ?_, ?_, ?_, ?_⟩ <;> (unfold World.cell?;simp [h])
/-- A list of lists of literals in memory. -/
def Z8 (s:Option Addr × Nat × Nat):List Value:=[.slice s.1 s.2.1 s.2.2]
def CjsOf (w:World) (q:Option Addr) (c:Nat) (cs:List (List Lt)):Prop:=∃ us:List (Option Addr × Nat × Nat),SlOf Z8 1 w q c us/\us.length=cs.length/\∀ (j:Nat) (u:Option Addr × Nat × Nat) (ls:List Lt),us[j]? = some u->cs[j]? = some ls->u.2.1=ls.length/\LitsOf w u.1 u.2.2 ls
theorem CjsOf.below {w w':World} {q:Option Addr} {c:Nat} {cs:List (List Lt)} (h:CjsOf w q c cs) (hb:Below w.heap.size w w'):CjsOf w' q c cs:=by
 obtain ⟨us,h1,h2,h3⟩:=h
 exact ⟨us,h1.below hb,h2,fun j u l hj hl=>⟨(h3 j u l hj hl).1,(h3 j u l hj hl).2.below hb⟩⟩
theorem CjsOf.at {w:World} {q:Option Addr} {c:Nat} {cs:List (List Lt)} {j:Nat} {ls:List Lt} (h:CjsOf w q c cs) (hj:cs[j]? = some ls) :
  ∃ b off q1 c1,q=some ⟨b,off,none⟩/\b < w.heap.size/\LitsOf w q1 c1 ls/\w.cell? ⟨b,off + j,none⟩=some (.slice q1 ls.length c1):=by
 obtain ⟨us,h1,h2,h3⟩:=h
 have hl:j < cs.length:=(List.getElem?_eq_some_iff.1 hj).1
 obtain ⟨u,hu,_⟩:=je (l:=us) (k:=j) (by omega)
 obtain ⟨b,off,hq,hb,hc⟩:=h1.2.2.2.at hu
 obtain ⟨e1,e2⟩:=h3 j u ls hu hj
 have h0:=hc 0 (by omega)
 rw [Nat.mul_one,Nat.add_zero] at h0
 refine ⟨b,off,u.1,u.2.2,hq,hb,e2, ?_⟩
 rw [<- e1];exact h0
end Go.Proofs.YtimklglliffpcaaGreat

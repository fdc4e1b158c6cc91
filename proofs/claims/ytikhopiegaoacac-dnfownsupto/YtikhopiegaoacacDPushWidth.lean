/- push.widthOf: how many conjunctions a pushed tree comes to, cut behind most. -/
import Derived.Test.YtikhopiegaoacacDPushDown
namespace Go.Proofs.Ytikhopiegaoacac
open Go.RowKit Go.Sort

mutual
/-- The width of a pushed tree. -/
def widN (m:Int):Nd→Int
 | .mk _ _ _ _ _ _ op ks=>if op=4 then sumB m (widL m ks) else if op=3 then prodB m (widL m ks) else 1
def widL (m:Int):List Nd→List Int
 | []=>[]
 | x :: xs=>widN m x :: widL m xs
end
theorem widL_map (m:Int) (l:List Nd):widL m l=l.map (widN m):=by
 induction l with
 | nil=>simp [widL]
 | cons x l ih=>simp [widL,ih]
theorem widL_len (m:Int) (l:List Nd):(widL m l).length=l.length:=by rw [widL_map];simp
theorem flatI_map (l:List Int):(flatK encI 1 l.toArray).toList=l.map (fun x=>Value.int .i64 x):=by
 apply List.ext_getElem?
 intro j
 by_cases hj:j < l.length
 ·obtain ⟨x,hx,_⟩:=get_at hj
  have:=flat_at (enc:=encI) (k:=1) hx 0 (by omega)
  rw [Nat.mul_one,Nat.add_zero] at this
  rw [this,List.getElem?_map,hx];rfl
 ·rw [List.getElem?_eq_none (by simp;omega),List.getElem?_eq_none (by simp;omega)]
theorem makeIn (n:Nat) (h:n * 8≤140737488355328):∃ cur:Array Value,cur.size=n * 1∧∀ W:World,(Instr.makeSlice 22 (.int .i64 (n:Int)) (.int .i64 (n:Int))).run Try.prog W=.ok (.slice (some ⟨W.heap.size,0,none⟩) n n) (W.alloc (.cells cur 3)):=by
 obtain ⟨i0,hi,hz0,hz1,hz2⟩:=info_parts Try.info3
 refine ⟨madeCells (Value.cells (.int .i64 0)) (n * i0.size),by rw [size_madeCells,hz1],fun W=>?_⟩
 have:=run_make (P:=Try.prog) W 22 3 i0 _ Try.underlying22 hi hz0 .i64 .i64 (n:Int) (n:Int) (by omega) (by omega) (by rw [hz2];omega) (by omega)
 simpa only [Int.toNat_natCast] using this
theorem ownsRow_free {w:World} {B n c g k:Nat} {e:TypeId} {xs:List Value} (h:w.ownsRow B e k (.slice (some ⟨g,0,none⟩) n c) n xs):∀ o,w.frozen? ⟨g,o,none⟩=false:=by
 rcases h.2 with ⟨h0,_⟩ | ⟨g',cp,cur',h0,_,hg',_⟩
 ·simp at h0
 ·simp only [Value.slice.injEq,Option.some.injEq,Addr.mk.injEq,and_true,true_and] at h0
  rw [h0.1]
  exact fun o=>frozen_free hg'
def WidP (x:Nd):Prop:=∀ (m:Int) (v:Nv) (w:World),NdIn w v x→wtN x≤1000000000→Calls Try.prog 38 #[v.val,.int .i64 m] w fun e w'=>e=.returned (.int .i64 (widN m x))∧Below w.heap.size w w'
set_option maxRecDepth 100000 in
set_option maxHeartbeats 4000000 in
theorem kidWidths_any (kind:Int) (attr:ByteArray) (qi:Option Addr) (ci:Nat) (ints:List Int) (qw:Option Addr) (cw:Nat) (words:List ByteArray) (lo hi op:Int) (qk:Option Addr) (ck:Nat) (kids:List Nd) (m:Int) (w:World) (hk:NdsOf w qk ck kids) (ih:∀ x ∈ kids,WidP x) (l3:wtL kids≤1000000000) :
  Calls Try.prog 59 #[.agg #[.int .i64 kind,.string attr,.slice qi ints.length ci,.slice qw words.length cw,.int .i64 lo,.int .i64 hi,.int .i64 op,.slice qk kids.length ck],.int .i64 m] w fun e w'=>(∃ q c,e=.returned (.slice q kids.length c)∧SlOf encI 1 w' q c (widL m kids))∧Below w.heap.size w w':=by
 have hlen:=Nat.le_trans (Nat.le_trans (len_size kids) (sizeL_wt kids)) l3
 have a0:(kids.length:Int)≤1000000000:=by omega
 have a1:(0:Int)≤(kids.length:Int):=by omega
 obtain ⟨cur,hcs,hmk⟩:=makeIn kids.length (by omega)
 obtain ⟨X,HX⟩:∃ X,w.alloc (.cells #[.int .i64 kind,.string attr,.slice qi ints.length ci,.slice qw words.length cw,.int .i64 lo,.int .i64 hi,.int .i64 op,.slice qk kids.length ck] 28)=X:=⟨_,rfl⟩
 have hX0:X.heap[w.heap.size]? = some (.cells #[.int .i64 kind,.string attr,.slice qi ints.length ci,.slice qw words.length cw,.int .i64 lo,.int .i64 hi,.int .i64 op,.slice qk kids.length ck] 28 (0,0)):=by rw [← HX];exact box_nw _ _
 have hwX:Below w.heap.size w X:=by rw [← HX];exact (Below.refl _ _).alloc (Nat.le_refl _) _
 have hXs:X.heap.size=w.heap.size + 1:=by rw [← HX];simp
 obtain ⟨x0,x1,x2,x3,x4,x5,x6,x7⟩:=of8' hX0
 obtain ⟨Y,HY⟩:∃ Y,X.alloc (.cells cur 3)=Y:=⟨_,rfl⟩
 have hY0:Y.heap[w.heap.size + 1]? = some (.cells cur 3 (0,0)):=by rw [← HY,← hXs];exact box_nw _ _
 have hXY:Below X.heap.size X Y:=by rw [← HY];exact (Below.refl _ _).alloc (Nat.le_refl _) _
 have hYs:Y.heap.size=w.heap.size + 2:=by rw [← HY];simp [hXs]
 obtain ⟨y0,y1,y2,y3,y4,y5,y6,y7⟩:=of8' ((hXY.block _ (by omega)).trans hX0)
 have hOwn:Y.ownsRow (w.heap.size + 1) 3 1 (.slice (some ⟨w.heap.size + 1,0,none⟩) kids.length kids.length) kids.length cur.toList :=
  ⟨by simp [hcs],.inr ⟨w.heap.size + 1,kids.length,cur,rfl,Nat.le_refl _,hY0,Nat.le_refl _,by unfold maxLen;omega,hcs,by rw [List.take_of_length_le (by simp [hcs])]⟩⟩
 have HOW:=hide hOwn
 have HK:=hide hk
 have IH:=hide ih
 have HWX:=hide hwX
 have HXY:=hide hXY
 have HCS:=hide hcs
 clear hk ih hwX hX0 hXY hOwn hY0 hcs
 go_enter Try.func59,Try.ntmps59
 go_wp2
 go_loopw [15] (fun i wr=>∃ k:Nat,k≤kids.length∧i=.int .i64 k∧wr.ownsRow (w.heap.size + 1) 3 1 (.slice (some ⟨w.heap.size + 1,0,none⟩) kids.length kids.length) kids.length ((widL m (kids.take k)).map (fun x=>Value.int .i64 x) ++ cur.toList.drop k)∧Below (w.heap.size + 1) Y wr∧w.heap.size + 2≤wr.heap.size) (fun i _=>kids.length - (intOf i).toNat)
 case atStart=>exact ⟨0,by omega,rfl,by simpa [widL] using uh HOW,Below.refl _ _,by omega⟩
 case round =>
  obtain ⟨k,hkk,rfl,hown,hbel,hsz⟩:=hrel
  have BW:=hide (show Below w.heap.size w wr from ((below_sub (uh HWX) (uh HXY)).trans (hbel.mono (by omega))))
  have HB:=hide hbel
  have HO:=hide hown
  by_cases hlt:k < kids.length
  ·obtain ⟨x,hx,hxd⟩:=get_at hlt
   clear hxd
   obtain ⟨b,off,v,hq,hin,g0,g1,g2,g3,g4,g5,g6,g7⟩:=(uh HK).on hx (uh BW)
   subst hq
   have hxm:x ∈ kids:=List.mem_of_getElem? hx
   have hxw:=wtL_mem hxm
   have ki0:(0:Int)≤(k:Int):=by omega
   have ki1:(k:Int) < (kids.length:Int):=by omega
   obtain ⟨Z,HZ⟩:∃ Z,wr.alloc (.cells #[.int .i64 v.kind,.string v.attr,.slice v.qi v.ni v.ci,.slice v.qw v.nw v.cw,.int .i64 v.lo,.int .i64 v.hi,.int .i64 v.op,.slice v.qk v.nk v.ck] 28)=Z:=⟨_,rfl⟩
   have bZ:Below wr.heap.size wr Z:=by rw [← HZ];exact (Below.refl _ _).alloc (Nat.le_refl _) _
   have zk:Z.heap[wr.heap.size]? = some (.cells #[.int .i64 v.kind,.string v.attr,.slice v.qi v.ni v.ci,.slice v.qw v.nw v.cw,.int .i64 v.lo,.int .i64 v.hi,.int .i64 v.op,.slice v.qk v.nk v.ck] 28 (0,0)):=by rw [← HZ];exact box_nw _ _
   obtain ⟨z0,z1,z2,z3,z4,z5,z6,z7⟩:=of8' zk
   have hW:=uh IH x hxm m v Z (hin.keep bZ) (by omega)
   simp only [Nv.val] at hW
   obtain ⟨N,hN⟩:∃ N,widN m x=N:=⟨_,rfl⟩
   have HSN:=hide (show widL m (kids.take (k + 1))=widL m (kids.take k) ++ [N] by rw [take_snoc_of hx,widL_map,widL_map,List.map_append,← hN];rfl)
   rw [hN] at hW
   have hlk:((widL m (kids.take k)).map (fun x=>Value.int .i64 x)).length=k:=by rw [List.length_map,widL_len,List.length_take];omega
   have hck:k < cur.size:=by have:=uh HCS;omega
   have BZ:=hide bZ
   clear hin hx hxm hown hbel bZ zk hN
   go_wp2_with (go_at_call 38;refine hW.mono ?_;rintro e w2 ⟨rfl,b2⟩;have B2:=hide b2;have b3:=hide (below_sub (uh BZ) b2);have HO2:=hide (World.ownsRow.kept (uh HO) (row:=none) ⟨(uh b3).os,(uh b3).tape,(uh b3).output,(uh b3).size,fun j hj _=>(uh b3).block j hj⟩ (Or.inr (by simp [Value.ownBlock])));have cg:w2.cell? ⟨w.heap.size + 1,k,none⟩=some (cur.toList[k]'(by simpa using hck)):=(by rw [World.ownsRow.cellAt (uh HO2) k (by omega),List.getElem?_append_right (by omega),hlk,Nat.sub_self,List.getElem?_drop,Nat.add_zero,List.getElem?_eq_getElem (by simpa using hck)]);have cf:∀ o,w2.frozen? ⟨w.heap.size + 1,o,none⟩=false:=ownsRow_free (uh HO2);clear b2)
   go_roundw
   case rel =>
    have st:=World.ownsRow.stored (uh HO2) k (.int .i64 N)
    refine ⟨k + 1,by omega,by go_num, ?_, ?_, ?_⟩
    ·have e:((widL m (kids.take k)).map (fun x=>Value.int .i64 x) ++ cur.toList.drop k).set k (.int .i64 N)=(widL m (kids.take (k + 1))).map (fun x=>Value.int .i64 x) ++ cur.toList.drop (k + 1):=by
      rw [uh HSN,List.map_append,List.set_append_right _ _ (by omega),hlk,Nat.sub_self,List.drop_eq_getElem_cons (by simpa using hck)]
      simp
     rw [← e];exact st.1
    ·exact ((uh HB).trans ((uh b3).mono (by omega))).setCell (Nat.le_refl _) _
    ·have:=(uh b3).size;simp;omega
   case measure=>simp [intOf];omega
  ·have hkl:k=kids.length:=by omega
   subst hkl
   have ki1:¬ (kids.length:Int) < (kids.length:Int):=by omega
   clear hown hbel
   go_wp2
   go_ret
   refine ⟨⟨some ⟨w.heap.size + 1,0,none⟩,kids.length,rfl, ?_⟩,uh BW⟩
   have h:=uh HO
   rw [List.take_of_length_le (Nat.le_refl _),List.drop_of_length_le (by have:=uh HCS;simp;omega),List.append_nil,← flatI_map] at h
   have h2:OwnK encI 3 1 (w.heap.size + 1) wr (some ⟨w.heap.size + 1,0,none⟩) kids.length (widL m kids):=by
    unfold OwnK;rw [widL_len];exact h
   exact h2.ls
set_option maxRecDepth 100000 in
set_option maxHeartbeats 4000000 in
theorem width_at (kind:Int) (attr:ByteArray) (qi:Option Addr) (ci:Nat) (ints:List Int) (qw:Option Addr) (cw:Nat) (words:List ByteArray) (lo hi op:Int) (qk:Option Addr) (ck:Nat) (kids:List Nd) (m:Int) (w:World) (hk:NdsOf w qk ck kids) (ih:∀ x ∈ kids,WidP x) (l3:wtL kids≤1000000000) :
  Calls Try.prog 38 #[.agg #[.int .i64 kind,.string attr,.slice qi ints.length ci,.slice qw words.length cw,.int .i64 lo,.int .i64 hi,.int .i64 op,.slice qk kids.length ck],.int .i64 m] w fun e w'=>e=.returned (.int .i64 (widN m (.mk kind attr ints words lo hi op kids)))∧Below w.heap.size w w':=by
 have hlen:=Nat.le_trans (Nat.le_trans (len_size kids) (sizeL_wt kids)) l3
 obtain ⟨X,HX⟩:∃ X,w.alloc (.cells #[.int .i64 kind,.string attr,.slice qi ints.length ci,.slice qw words.length cw,.int .i64 lo,.int .i64 hi,.int .i64 op,.slice qk kids.length ck] 28)=X:=⟨_,rfl⟩
 have hX0:X.heap[w.heap.size]? = some (.cells #[.int .i64 kind,.string attr,.slice qi ints.length ci,.slice qw words.length cw,.int .i64 lo,.int .i64 hi,.int .i64 op,.slice qk kids.length ck] 28 (0,0)):=by rw [← HX];exact box_nw _ _
 have hwX:Below w.heap.size w X:=by rw [← HX];exact (Below.refl _ _).alloc (Nat.le_refl _) _
 obtain ⟨x0,x1,x2,x3,x4,x5,x6,x7⟩:=of8' hX0
 have hW:=kidWidths_any kind attr qi ci ints qw cw words lo hi op qk ck kids m X (hk.below hwX) ih l3
 have hS:=fun (q:Option Addr) (c:Nat) (W:World) (h:SlOf encI 1 W q c (widL m kids))=>sum_any m q c (widL m kids) W h (by rw [widL_len];omega)
 have hP:=fun (q:Option Addr) (c:Nat) (W:World) (h:SlOf encI 1 W q c (widL m kids))=>prod_any m q c (widL m kids) W h (by rw [widL_len];omega)
 rw [widL_len] at hS hP
 have HWX:=hide hwX
 clear hk ih hwX hX0
 by_cases h4:op=4
 ·subst h4
  simp only [widN,if_true]
  go_enter Try.func38,Try.ntmps38
  go_wp2_with (first
   | (go_at_call 59;refine hW.mono ?_;rintro e w1 ⟨⟨q,c,rfl,hs⟩,b1⟩;have HS:=hide hs;have B1:=hide b1;clear hs b1)
   | (go_at_call 40;refine (hS _ _ _ (uh HS)).mono ?_;rintro e w2 ⟨rfl,b2⟩;have B2:=hide b2;clear b2))
  go_ret
  exact ⟨rfl,below_sub (below_sub (uh HWX) (uh B1)) (uh B2)⟩
 ·by_cases h3:op=3
  ·subst h3
   simp only [widN,if_neg h4,if_true]
   clear h4
   go_enter Try.func38,Try.ntmps38
   go_wp2_with (first
    | (go_at_call 59;refine hW.mono ?_;rintro e w1 ⟨⟨q,c,rfl,hs⟩,b1⟩;have HS:=hide hs;have B1:=hide b1;clear hs b1)
    | (go_at_call 41;refine (hP _ _ _ (uh HS)).mono ?_;rintro e w2 ⟨rfl,b2⟩;have B2:=hide b2;clear b2))
   go_ret
   exact ⟨rfl,below_sub (below_sub (uh HWX) (uh B1)) (uh B2)⟩
  ·simp only [widN,if_neg h4,if_neg h3]
   go_enter Try.func38,Try.ntmps38
   go_wp2
   go_ret
   exact ⟨rfl,uh HWX⟩
theorem width_any:∀ x,WidP x:=by
 intro t
 induction t using Nd.ind with
 | h kind attr ints words lo hi op kids ih =>
  intro m v w hin hwt
  obtain ⟨qi,ci,qw,cw,qk,ck,rfl,h1,h2,hk⟩:=hin.parts
  simp only [wtN] at hwt
  have:=width_at kind attr qi ci ints qw cw words lo hi op qk ck kids m w hk ih (by omega)
  simpa only [Nv.val] using this
end Go.Proofs.Ytikhopiegaoacac

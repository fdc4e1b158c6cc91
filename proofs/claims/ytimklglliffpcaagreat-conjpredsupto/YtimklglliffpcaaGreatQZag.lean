/- What conj.Make makes of literals, as plain data. -/
import Derived.Test.YtimklglliffpcaaGreatQCjCompact
namespace Go.Proofs.YtimklglliffpcaaGreat
def Aq (l:Lt):Pd:=⟨l.kind,l.attr,l.ints,l.words,l.lo,l.hi⟩
/-- The normal ones of the negated. -/
def Ps (ls:List Lt):List Pd:=ls.filterMap fun l=>if l.neg then jr (Aq l) else none
def leD (a b:Pd):Bool:=decide (pe a b<=0)
def Z4 (l:List Pd):List Pd:=l.mergeSort leD
theorem K6 {a b c:Pd} (h1:pe a b<=0) (h2:pe b c<=0):pe a c<=0:=(isCmp_D.trans _ _ _ h1 h2)
theorem Jt (a b:Pd):pe a b<=0 ∨ pe b a<=0:=by have:=isCmp_D.neg a b;omega
theorem Ni {a b:Pd} (h1:pe a b<=0) (h2:pe b a<=0):a=b:=by
 have:=isCmp_D.neg a b
 exact (isCmp_D.eq a b).1 (by omega)
theorem Ga (l:List Pd):(Z4 l).Pairwise (fun a b=>pe a b<=0):=by
 have h:=List.pairwise_mergeSort (le:=leD) (fun a b c h1 h2=>by simp only [leD,decide_eq_true_eq] at *;exact K6 h1 h2) (fun a b=>by simp only [leD,Bool.or_eq_true,decide_eq_true_eq];exact Jt a b) l
 exact h.imp fun {a b} hab=>by simpa [leD] using hab
theorem Mb (l:List Pd):(Z4 l).Perm l:=List.mergeSort_perm _ _
/-- A sorted list of the same is this one. -/
theorem Pf {l l':List Pd} (hp:l'.Perm l) (hs:l'.Pairwise (fun a b=>pe a b<=0)):l'=Z4 l :=
 List.Perm.eq_of_pairwise (fun _ _ _ _ h1 h2=>Ni h1 h2) hs (Ga l) (hp.trans (Mb l).symm)
def Ml (ls:List Lt):List Pd:=Lh (Z4 (Ps ls))
/-- The predicates that must hold. -/
def Qh (ls:List Lt):List Pd:=ls.filterMap fun l=>if l.neg then none else some (Aq l)
def qd (ls:List Lt):List ByteArray:=mq ((Qh ls).map Pd.attr)
def tx (ls:List Lt) (a:ByteArray):List Pd:=(Qh ls).filter fun p=>decide (p.attr=a)
def yg (ls:List Lt):List ByteArray->Option (List Pd)
 | []=>some []
 | a :: r=>match kz (tx ls a) with
  | none=>none
  | some m=>(yg ls r).map (m :: ·)
def Qp (ls:List Lt):Option (List Pd):=yg ls (qd ls)
theorem Kx (ls:List Lt) (l:List ByteArray) (a:ByteArray) {d:List Pd} (h:yg ls l=some d):yg ls (l ++ [a])=(kz (tx ls a)).map (fun m=>d ++ [m]):=by
 induction l generalizing d with
 | nil =>
  cases h
  simp only [List.nil_append,yg]
  cases kz (tx ls a) <;> rfl
 | cons x r ih =>
  simp only [yg,List.cons_append] at h ⊢
  cases hm:kz (tx ls x) with
  | none=>rw [hm] at h;cases h
  | some m =>
   rw [hm] at h
   simp only at h ⊢
   obtain ⟨d',hd,rfl⟩:=Option.map_eq_some_iff.1 h
   rw [ih hd]
   cases kz (tx ls a) <;> rfl
theorem Ki (ls:List Lt) (l:List ByteArray) (a:ByteArray) (r:List ByteArray) (h:kz (tx ls a)=none):yg ls (l ++ a :: r)=none:=by
 induction l with
 | nil=>simp only [List.nil_append,yg,h]
 | cons x l ih =>
  simp only [yg,List.cons_append]
  cases kz (tx ls x) with
  | none=>rfl
  | some m=>simp only [ih,Option.map_none]
/-- A conjunction. -/
structure Cd where
 never:Bool
 pos:List Pd
 neg:List Pd
deriving DecidableEq
instance:Inhabited Cd:=⟨⟨false,[],[]⟩⟩
def okL (ls:List Lt):Bool:=ls.all fun l=>(Aq l).ok
def Qi (ls:List Lt):Cd:=match Qp ls with
 | none=>⟨true,[],[]⟩
 | some p=>⟨false,p,Ml ls⟩
def tz (ls:List Lt):Cd:=if okL ls then Qi ls else ⟨false,[],[]⟩
def Cj (ls:List Lt):Int:=if okL ls then 0 else 1
theorem E7 {ls:List Lt} {k:Nat} {l:Lt} (h:ls[k]? = some l):Qh (ls.take (k + 1))=Qh (ls.take k) ++ (if l.neg then [] else [Aq l]):=by
 unfold Qh
 rw [jh h,List.filterMap_append]
 congr 1
 cases hn:l.neg <;> simp [hn]
theorem L7 {ls:List Lt} {k:Nat} {l:Lt} (h:ls[k]? = some l):Ps (ls.take (k + 1))=Ps (ls.take k) ++ (if l.neg then (jr (Aq l)).toList else []):=by
 unfold Ps
 rw [jh h,List.filterMap_append]
 congr 1
 cases hn:l.neg
 ·simp [hn]
 ·cases hm:jr (Aq l) <;> simp [hn,hm]
theorem Rn (ls:List Lt):(Qh ls).length<=ls.length:=List.length_filterMap_le _ _
theorem Gz (ls:List Lt):(Ps ls).length<=ls.length:=List.length_filterMap_le _ _
end Go.Proofs.YtimklglliffpcaaGreat
namespace Go.Proofs.YtimklglliffpcaaGreat
open Go.RowKit Go.Sort Go.Shelf
def SmallL (ls:List Lt):Prop:=∀ l ∈ ls,(Aq l).small
/-- The predicate of a literal as it lies in memory. -/
def Lv.pv (u:Lv):Pv:=⟨u.kind,u.attr,u.qi,u.ni,u.ci,u.qw,u.nw,u.cw,u.lo,u.hi⟩
theorem LitIn.pd {w:World} {u:Lv} {l:Lt} (h:LitIn w u l):PdIn w u.pv (Aq l):=by
 obtain ⟨h1,h2,h3,h4,h5,h6,_,h8,h9⟩:=h
 exact ⟨h1,h2,h3,h4,h5,h6,h8,h9⟩
theorem PdOwn.from {B C:Nat} {w:World} {u:Pv} {p:Pd} (h:PdOwn B w u p) (hC:C<=B):PdFrom w C u p:=⟨h.1,fun a e=>Nat.le_trans hC (h.2.1.1 a e),fun a e=>Nat.le_trans hC (h.2.1.2 a e)⟩
theorem PdFrom.below {C:Nat} {w w':World} {u:Pv} {p:Pd} (h:PdFrom w C u p) (hb:Below w.heap.size w w'):PdFrom w' C u p:=⟨h.1.keep hb,h.2⟩
theorem A6 {ls:List Lt} (h:SmallL ls):Small (Ps ls):=by
 intro p hp
 obtain ⟨l,hl,hn⟩:=List.mem_filterMap.1 hp
 split at hn
 ·exact ⟨Nat.le_trans (sj (h l hl) hn).1.2.2.1 (by decide),Nat.le_trans (sj (h l hl) hn).1.2.2.2.1 (by decide)⟩
 ·cases hn
theorem SmallL.take {ls:List Lt} (h:SmallL ls) (k:Nat):SmallL (ls.take k):=fun l hl=>h l (List.mem_of_mem_take hl)
set_option maxHeartbeats 4000000 in
set_option maxRecDepth 100000 in
/-- conj.mustNot. -/
theorem Fy (q:Option Addr) (c:Nat) (ls:List Lt) (w:World) (h:LitsOf w q c ls) (hs:SmallL ls) (hl:ls.length<=100000000) :
  Calls Tryz.prog 75 #[.slice q ls.length c] w fun e w'=>(∃ q' c',e=.returned (.slice q' (Ml ls).length c')/\GrowD w.heap.size w' q' c' (Ml ls).length (Ml ls))/\Below w.heap.size w w':=by
 have i9:(ls.length:Int)<=100000000:=by omega
 have HH:=d9 h
 have HS:=d9 hs
 clear h hs
 go_enter Tryz.func75,Tryz.ntmps75
 go_wp2
 go_loopw [3,10] (fun sv iv wr=>∃ (k n:Nat) (q1:Option Addr) (c1:Nat),k<=ls.length/\iv=.int .i64 k/\sv=.slice q1 n c1/\Hid (GrowD w.heap.size wr q1 c1 n (Ps (ls.take k)))/\Hid (Below w.heap.size w wr)) (fun _ iv _=>ls.length - (intOf iv).toNat)
 case atStart=>exact ⟨0,0,none,0,Nat.zero_le _,rfl,rfl,d9 (GrowD.nil _ _),d9 (Below.refl _ _)⟩
 case round =>
  obtain ⟨k,n,q1,c1,hk,rfl,rfl,HG,HB⟩:=hrel
  by_cases hlt:k < ls.length
  ·obtain ⟨l,hx,_⟩:=je hlt
   obtain ⟨b,off,u,hq,hbb,hin,g0,g1,g2,g3,g4,g5,g6⟩:=((uh HH).below (uh HB)).at hx
   subst hq
   have ki0:(0:Int)<=(k:Int):=by omega
   have ki1:(k:Int) < (ls.length:Int):=by omega
   obtain ⟨G,hG⟩:∃ G,u.neg=G:=⟨_,rfl⟩
   rw [hG] at g6
   have hneg:l.neg=G:=by rw [<- hG];exact hin.2.2.2.2.2.2.1.symm
   obtain ⟨Z,HZ⟩:∃ Z,wr.alloc (.cells #[.int .i64 u.kind,.string u.attr,.slice u.qi u.ni u.ci,.slice u.qw u.nw u.cw,.int .i64 u.lo,.int .i64 u.hi,.bool G] 64)=Z:=⟨_,rfl⟩
   have bZ:Below wr.heap.size wr Z:=by rw [<- HZ];exact (Below.refl _ _).alloc (Nat.le_refl _) _
   have zk:Z.heap[wr.heap.size]? = some (.cells #[.int .i64 u.kind,.string u.attr,.slice u.qi u.ni u.ci,.slice u.qw u.nw u.cw,.int .i64 u.lo,.int .i64 u.hi,.bool G] 64 (0,0)):=by rw [<- HZ];exact jf _ _
   obtain ⟨z0,z1,z2,z3,z4,z5,z6⟩:=Xp zk
   have hN:=sl u.pv (Aq l) Z (hin.pd.keep bZ) (uh HS l (List.mem_of_getElem? hx))
   have HX:=d9 hx
   have BZ:=d9 bZ
   have hT:=L7 hx
   clear bZ hin zk hG
   go_upto_region 5 with (fail)
   clear HZ g0 g1 g2 g3 g4 g5 g6
   cases G with
   | false =>
    rw [hneg,if_neg (by simp),List.append_nil] at hT
    have HT:=d9 hT
    clear hT hneg hx hN
    go_wp2
    go_roundw
    case rel=>exact ⟨k + 1,n,q1,c1,by omega,by go_num,rfl,d9 (by rw [uh HT];exact (uh HG).below (uh BZ)),d9 (d8 (uh HB) (uh BZ))⟩
    case measure=>simp [intOf];omega
   | true =>
    rw [hneg,if_pos rfl] at hT
    cases hm:jr (Aq l) with
    | none =>
     rw [hm] at hT hN
     rw [Option.toList_none,List.append_nil] at hT
     have HT:=d9 hT
     unfold Pv.val Lv.pv at hN
     clear hT hneg hx hm
     go_upto_region 7 with (go_at_call 16;refine hN.mono ?_;rintro e w2 ⟨⟨v,rfl,ho,_⟩,b2⟩;have B2:=d9 b2;clear b2 ho)
     go_wp2
     go_roundw
     case rel=>exact ⟨k + 1,n,q1,c1,by omega,by go_num,rfl,d9 (by rw [uh HT];exact (uh HG).below (d8 (uh BZ) ((uh B2).alloc (uh B2).size _))),d9 (d8 (uh HB) (d8 (uh BZ) ((uh B2).alloc (uh B2).size _)))⟩
     case measure=>simp [intOf];omega
    | some m =>
     rw [hm] at hT hN
     rw [Option.toList_some] at hT
     have HT:=d9 hT
     unfold Pv.val Lv.pv at hN
     clear hT hneg hx hm
     go_upto_region 7 with (go_at_call 16;refine hN.mono ?_;rintro e w2 ⟨⟨v,rfl,ho,_⟩,b2⟩;have B2:=d9 b2;have O2:=d9 ho;clear b2 ho)
     obtain ⟨Y,HY⟩:∃ Y,w2.alloc (.cells #[.int .i64 v.kind,.string v.attr,.slice v.qi v.ni v.ci,.slice v.qw v.nw v.cw,.int .i64 v.lo,.int .i64 v.hi] 26)=Y:=⟨_,rfl⟩
     have bY:Below w2.heap.size w2 Y:=by rw [<- HY];exact (Below.refl _ _).alloc (Nat.le_refl _) _
     have y8:Y.heap[w2.heap.size]? = some (.cells #[.int .i64 v.kind,.string v.attr,.slice v.qi v.ni v.ci,.slice v.qw v.nw v.cw,.int .i64 v.lo,.int .i64 v.hi] 26 (0,0)):=by rw [<- HY];exact World.alloc_heap_new _ _
     rw [HY]
     obtain ⟨y0,y1,y2,y3,y4,y5⟩:=kq y8
     obtain ⟨hl1,us,hn1,ho1,hof1⟩:=uh HG
     have hn0:n<=100000000:=by have:=Gz (ls.take k);rw [hl1,List.length_take] at this;omega
     have BV:=d9 (d8 (uh BZ) (d8 (uh B2) bY))
     have LF:=d9 (show PdFrom Y wr.heap.size v m from ((uh O2).from (uh BZ).size).below bY)
     have HO:=d9 ho1
     have HF:=d9 hof1
     have HL1:=d9 hl1
     have HN1:=d9 hn1
     have hB0:=(uh HB).size
     have hB1:=(uh BV).size
     have h26:Y.heap.size=Y.heap.size:=rfl
     clear y8 hl1 hn1 ho1 hof1 HY hN
     go_wp2_with (at_builtin;refine nr zby rfl _ _ rfl w.heap.size q1 c1 us ⟨Y.heap.size,0,none⟩ 1 [v] n 1 (n + 1) (uh HN1) rfl rfl rfl rfl ((uh HO).below ((uh BV).alloc hB1 _)) (Gv v rfl) (by unfold maxLen;omega) (by omega) (by simp only [jl];omega) ?_;intro q9 c9 w9 ho9 hb9 hg9 hor9;have HE:=d9 (GrowD.snoc (uh HL1) (uh HN1) (uh HO) (uh HF) (uh BV) (uh LF) ho9 hb9 hg9 hor9 hB0);clear ho9 hb9 hg9 hor9)
     go_roundw
     case rel=>exact ⟨k + 1,n + 1,q9,c9,by omega,by go_num,rfl,d9 (by rw [uh HT];exact (uh HE).1),d9 ((uh HB).trans (uh HE).2)⟩
     case measure=>simp [intOf];omega
  ·have ki1:¬ (k:Int) < (ls.length:Int):=by omega
   have e1:ls.take k=ls:=List.take_of_length_le (by omega)
   have hG:=uh HG
   rw [e1] at hG
   have hn0:n<=100000000:=by have:=Gz ls;rw [hG.1] at this;omega
   have hS:=P6 w.heap.size n c1 q1 (Ps ls) wr hG (A6 (uh HS)) hn0
   have hb0:=(uh HB).size
   clear e1 hG
   go_upto_region 11 with (go_at_call 126;refine hS.mono ?_;rintro e w2 ⟨rfl,l2,hp,hso,hG2,b2⟩;have G2:=d9 hG2;have HP:=d9 hp;have HSO:=d9 hso;have B2:=d9 b2;clear hG2 hp hso b2)
   have he:=Pf (uh HP) (uh HSO)
   subst he
   have hC:=T6 w.heap.size n c1 q1 (Z4 (Ps ls)) w2 (uh G2) (fun p hp=>A6 (uh HS) p ((uh HP).mem_iff.1 hp)) (Nat.le_trans hb0 (uh B2).size) hn0
   have HNE:=d9 (show Lh (Z4 (Ps ls))=Ml ls from rfl)
   rw [uh HNE] at hC
   obtain ⟨m,hm⟩:∃ m,(Ml ls).length=m:=⟨_,rfl⟩
   rw [hm] at hC
   have HM:=d9 hm
   clear hS hm
   go_wp2_with (go_at_call 127;refine hC.mono ?_;rintro e w3 ⟨rfl,hG3,b3⟩;have G3:=d9 hG3;have B3:=d9 b3;clear hG3 b3)
   go_ret
   exact ⟨⟨q1,c1,by rw [uh HM];rfl,by rw [uh HM];exact uh G3⟩,(uh HB).trans ((uh B2).trans (uh B3))⟩
end Go.Proofs.YtimklglliffpcaaGreat

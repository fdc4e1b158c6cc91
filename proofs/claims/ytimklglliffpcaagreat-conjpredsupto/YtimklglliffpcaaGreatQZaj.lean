/- conj.Make. -/
import Derived.Test.YtimklglliffpcaaGreatQCjMust
import Derived.Test.YtimklglliffpcaaGreatQZaf
import Derived.Test.YtimklglliffpcaaGreatQZad
import Derived.Test.YtimklglliffpcaaGreatQZae
import Derived.Deep.Cut
import Derived.Deep.RegionHeld3
namespace Go.Proofs.YtimklglliffpcaaGreat
open Go.RowKit Go.Sort Go.Shelf
theorem X2 (u:Pv) (p:Pd) (w:World) (hu:PdIn w u p) (hs:p.small):Calls Tryz.prog 54 #[.agg #[.int .i64 u.kind,.string u.attr,.slice u.qi u.ni u.ci,.slice u.qw u.nw u.cw,.int .i64 u.lo,.int .i64 u.hi]] w fun e w'=>e=.returned (.int .i64 (py p.ok))/\Below w.heap.size w w':=by
 obtain ⟨hk,ha,hi,hw,hl,hh,s1,s2⟩:=hu
 rw [hk,ha,hi,hw,hl,hh]
 exact kw p.kind p.attr u.qi u.ci p.ints u.qw u.cw p.words p.lo p.hi w s1 s2 (by have:=hs.1;omega) (by have:=hs.2;omega)
theorem GrowD.setB {B g:Nat} {w:World} {q:Option Addr} {c n:Nat} {ls:List Pd} (h:GrowD B w q c n ls) (hg:g < B) (o:Nat) (v:Value):GrowD B (w.setCell ⟨g,o,none⟩ v) q c n ls:=by
 obtain ⟨h1,us,h2,h3,h4⟩:=h
 refine ⟨h1,us,h2,xp h3 (lz (ji (Below.refl _ w) (some g)) o v) (fun p e e2=>?_),h4.set hg v⟩
 injection e2 with e2
 have:=h3.from p e
 omega
/-- A conjunction that a call has made: its lists lie from the block B on. -/
structure Cv where
 never:Bool
 qp:Option Addr
 np:Nat
 cp:Nat
 qn:Option Addr
 nn:Nat
 cn:Nat
instance:Inhabited Cv:=⟨⟨false,none,0,0,none,0,0⟩⟩
def Bh (v:Cv):List Value:=[.bool v.never,.slice v.qp v.np v.cp,.slice v.qn v.nn v.cn]
def CdNew (B:Nat) (w:World) (v:Cv) (d:Cd):Prop:=v.never=d.never/\GrowD B w v.qp v.cp v.np d.pos/\GrowD B w v.qn v.cn v.nn d.neg
theorem CdNew.below {B:Nat} {w w':World} {v:Cv} {d:Cd} (h:CdNew B w v d) (hb:Below w.heap.size w w'):CdNew B w' v d:=⟨h.1,h.2.1.below hb,h.2.2.below hb⟩
theorem CdNew.mono {B C:Nat} {w:World} {v:Cv} {d:Cd} (h:CdNew B w v d) (hC:C<=B):CdNew C w v d:=⟨h.1,tl h.2.1 hC,tl h.2.2 hC⟩
theorem CdNew.setB {B g:Nat} {w:World} {v:Cv} {d:Cd} (h:CdNew B w v d) (hg:g < B) (o:Nat) (x:Value):CdNew B (w.setCell ⟨g,o,none⟩ x) v d:=⟨h.1,h.2.1.setB hg o x,h.2.2.setB hg o x⟩
theorem CdNew.nil (B:Nat) (w:World) (b:Bool):CdNew B w ⟨b,none,0,0,none,0,0⟩ ⟨b,[],[]⟩:=⟨rfl,GrowD.nil _ _,GrowD.nil _ _⟩
set_option maxHeartbeats 4000000 in
set_option maxRecDepth 100000 in
/-- conj.Make. -/
theorem Cn (q:Option Addr) (c:Nat) (ls:List Lt) (w:World) (h:LitsOf w q c ls) (hs:SmallL ls) (hf:Ck ls) (hl:ls.length<=100000000) :
  Calls Tryz.prog 24 #[.slice q ls.length c] w fun e w'=>(∃ v:Cv,e=.returned (.tuple #[.agg #[.bool v.never,.slice v.qp v.np v.cp,.slice v.qn v.nn v.cn],.int .i64 (Cj ls)])/\CdNew w.heap.size w' v (tz ls))/\Below w.heap.size w w':=by
 have i9:(ls.length:Int)<=100000000:=by omega
 obtain ⟨X,HX⟩:∃ X,w.alloc (.cells #[.bool false,.slice none 0 0,.slice none 0 0] 39)=X:=⟨_,rfl⟩
 have bX:Below w.heap.size w X:=by rw [<- HX];exact (Below.refl _ _).alloc (Nat.le_refl _) _
 have x8:X.heap[w.heap.size]? = some (.cells #[.bool false,.slice none 0 0,.slice none 0 0] 39 (0,0)):=by rw [<- HX];exact World.alloc_heap_new _ _
 have SX:=d9 (show X.heap.size=w.heap.size + 1 by rw [<- HX];simp)
 have HL:=d9 (h.below bX)
 have HS:=d9 hs
 have HF:=d9 hf
 have BX:=d9 bX
 have X8:=d9 x8
 clear h hs hf bX x8
 go_enter Tryz.func24,Tryz.ntmps24
 go_wp2
 go_loopw [11] (fun iv wr=>∃ k:Nat,k<=ls.length/\iv=.int .i64 k/\Hid (∀ (j:Nat) (l:Lt),j < k->ls[j]? = some l->(Aq l).ok=true)/\Hid (Below X.heap.size X wr)) (fun iv _=>ls.length - (intOf iv).toNat)
 case atStart=>exact ⟨0,Nat.zero_le _,rfl,d9 (fun j l hj=>absurd hj (by omega)),d9 (Below.refl _ _)⟩
 case round =>
  obtain ⟨k,hk,rfl,HA,HB⟩:=hrel
  by_cases hlt:k < ls.length
  ·obtain ⟨l,hx,_⟩:=je hlt
   obtain ⟨b,off,u,hq,hbb,hin,g0,g1,g2,g3,g4,g5,g6⟩:=((uh HL).below (uh HB)).at hx
   subst hq
   have ki0:(0:Int)<=(k:Int):=by omega
   have ki1:(k:Int) < (ls.length:Int):=by omega
   obtain ⟨G,hG⟩:∃ G,u.neg=G:=⟨_,rfl⟩
   rw [hG] at g6
   obtain ⟨Z,HZ⟩:∃ Z,wr.alloc (.cells #[.int .i64 u.kind,.string u.attr,.slice u.qi u.ni u.ci,.slice u.qw u.nw u.cw,.int .i64 u.lo,.int .i64 u.hi,.bool G] 64)=Z:=⟨_,rfl⟩
   have bZ:Below wr.heap.size wr Z:=by rw [<- HZ];exact (Below.refl _ _).alloc (Nat.le_refl _) _
   have zk:Z.heap[wr.heap.size]? = some (.cells #[.int .i64 u.kind,.string u.attr,.slice u.qi u.ni u.ci,.slice u.qw u.nw u.cw,.int .i64 u.lo,.int .i64 u.hi,.bool G] 64 (0,0)):=by rw [<- HZ];exact jf _ _
   obtain ⟨z0,z1,z2,z3,z4,z5,z6⟩:=Xp zk
   have hP:=X2 u.pv (Aq l) Z (hin.pd.keep bZ) (uh HS l (List.mem_of_getElem? hx))
   unfold Lv.pv at hP
   have HXX:=d9 hx
   have BZ:=d9 bZ
   cases ho:(Aq l).ok with
   | true =>
    rw [ho] at hP
    have HO:=d9 ho
    clear bZ hin zk hG hx ho
    go_wp2_with (go_at_call 54;refine hP.mono ?_;rintro e w2 ⟨rfl,b2⟩;have B2:=d9 b2;clear b2)
    go_roundw
    case rel =>
     refine ⟨k + 1,by omega,by go_num,d9 (fun j y hj hy=>?_),d9 (d8 (uh HB) (d8 (uh BZ) (uh B2)))⟩
     by_cases e:j=k
     ·subst e;rw [uh HXX] at hy;cases hy;exact uh HO
     ·exact uh HA j y (by omega) hy
    case measure=>simp [intOf];omega
   | false =>
    rw [ho] at hP
    have HE:=d9 (show okL ls=false by
     unfold okL
     rw [List.all_eq_false]
     exact ⟨l,List.mem_of_getElem? (uh HXX),by simp [ho]⟩)
    clear bZ hin zk hG hx ho
    go_upto_region 5 with (go_at_call 54;refine hP.mono ?_;rintro e w2 ⟨rfl,b2⟩;have B2:=d9 b2;clear b2)
    have b5:=d9 (d8 (uh HB) (d8 (uh BZ) (uh B2)))
    have x8:=((uh b5).block w.heap.size (by have:=uh SX;omega)).trans (uh X8)
    obtain ⟨x0,x1,x2⟩:=Fj x8
    have xf:=fun o=>gy (o:=o) x8
    clear x8
    go_wp2
    refine bodyPost_ret (v:=.tuple #[.agg #[.bool false,.slice none 0 0,.slice none 0 0],.int .i64 1]) (by simp [results,Tryz.results24,go_sem,py, *]) rfl ?_
    have hD:tz ls=⟨false,[],[]⟩:=by unfold tz;rw [uh HE];rfl
    have hE:Cj ls=1:=by unfold Cj;rw [uh HE];rfl
    refine ⟨⟨⟨false,none,0,0,none,0,0⟩,by rw [hE],by rw [hD];exact CdNew.nil _ _ _⟩, ?_⟩
    exact ((((uh BX).trans ((uh b5).mono (uh BX).size)).setCell (p:=⟨w.heap.size,0,none⟩) (Nat.le_refl _) _).setCell (p:=⟨w.heap.size,1,none⟩) (Nat.le_refl _) _).setCell (p:=⟨w.heap.size,2,none⟩) (Nat.le_refl _) _
  ·have ki1:¬ (k:Int) < (ls.length:Int):=by omega
   have HE:=d9 (show okL ls=true by
    unfold okL
    rw [List.all_eq_true]
    intro l hl
    obtain ⟨j,hj⟩:=List.getElem?_of_mem hl
    exact uh HA j l (by have:=(List.getElem?_eq_some_iff.1 hj).1;omega) hj)
   have hE:Cj ls=0:=by unfold Cj;rw [uh HE];rfl
   have hMu:=Vh q c ls wr ((uh HL).below (uh HB)) (uh HS) (uh HF) hl
   have hEE:=d9 hE
   clear hE
   cases hpd:Qp ls with
   | none =>
    rw [hpd] at hMu
    have hD:=d9 (show tz ls=⟨true,[],[]⟩ by unfold tz Qi;rw [uh HE,hpd];rfl)
    clear hpd
    go_upto_region 9 with (go_at_call 74;refine hMu.mono ?_;rintro e w2 ⟨⟨q2,n2,c2,rfl,_⟩,b2⟩;have B2:=d9 b2;clear b2)
    have b5:=d9 (d8 (uh HB) (uh B2))
    have x8:=((uh b5).block w.heap.size (by have:=uh SX;omega)).trans (uh X8)
    obtain ⟨x0,x1,x2⟩:=Fj x8
    have xf:=fun o=>gy (o:=o) x8
    clear x8
    go_wp2
    refine bodyPost_ret (v:=.tuple #[.agg #[.bool true,.slice none 0 0,.slice none 0 0],.int .i64 0]) (by simp [results,Tryz.results24,go_sem, *]) rfl ?_
    refine ⟨⟨⟨true,none,0,0,none,0,0⟩,by rw [uh hEE],by rw [uh hD];exact CdNew.nil _ _ _⟩, ?_⟩
    exact ((((uh BX).trans ((uh b5).mono (uh BX).size)).setCell (p:=⟨w.heap.size,0,none⟩) (Nat.le_refl _) _).setCell (p:=⟨w.heap.size,1,none⟩) (Nat.le_refl _) _).setCell (p:=⟨w.heap.size,2,none⟩) (Nat.le_refl _) _
   | some ps =>
    rw [hpd] at hMu
    have hD:=d9 (show tz ls=⟨false,ps,Ml ls⟩ by unfold tz Qi;rw [uh HE,hpd];rfl)
    clear hpd
    go_upto_region 9 with (go_at_call 74;refine hMu.mono ?_;rintro e w2 ⟨⟨q2,n2,c2,rfl,hg2⟩,b2⟩;have B2:=d9 b2;have G2:=d9 hg2;clear b2 hg2)
    have hMn:=Fy q c ls w2 ((uh HL).below (d8 (uh HB) (uh B2))) (uh HS) hl
    obtain ⟨n3,hn3⟩:∃ n3,(Ml ls).length=n3:=⟨_,rfl⟩
    rw [hn3] at hMn
    clear hn3 hMu
    go_upto_region 11 with (fail)
    have hx9:∀ W,Below w2.heap.size w2 W->W.heap[w.heap.size]? = some (.cells #[.bool false,.slice none 0 0,.slice none 0 0] 39 (0,0)):=fun W hW=>((d8 (uh HB) (d8 (uh B2) hW)).block w.heap.size (by have:=uh SX;omega)).trans (uh X8)
    have HX9:=d9 hx9
    clear hx9
    go_wp2_with (go_at_call 75;refine hMn.mono ?_;rintro e w3 ⟨⟨q3,c3,rfl,hg3⟩,b3⟩;have B3:=d9 b3;have G3:=d9 hg3;obtain ⟨x0,x1,x2⟩:=Fj (uh HX9 w3 b3);have xf:=(fun o=>gy (o:=o) (uh HX9 w3 (uh B3)));clear b3 hg3)
    refine bodyPost_ret (v:=.tuple #[.agg #[.bool false,.slice q2 n2 c2,.slice q3 n3 c3],.int .i64 0]) (by simp [results,Tryz.results24,go_sem, *]) rfl ?_
    have hw9:w.heap.size < wr.heap.size:=by have:=uh SX;have:=(uh HB).size;omega
    have hw2:=(uh B2).size
    have C3:CdNew wr.heap.size w3 ⟨false,q2,n2,c2,q3,n3,c3⟩ ⟨false,ps,Ml ls⟩:=⟨rfl,(uh G2).below (uh B3),tl (uh G3) hw2⟩
    refine ⟨⟨⟨false,q2,n2,c2,q3,n3,c3⟩,by rw [uh hEE],by rw [uh hD];exact (((C3.setB hw9 0 _).setB hw9 1 _).setB hw9 2 _).mono (Nat.le_of_lt hw9)⟩, ?_⟩
    exact ((((uh BX).trans ((d8 (uh HB) (d8 (uh B2) (uh B3))).mono (uh BX).size)).setCell (p:=⟨w.heap.size,0,none⟩) (Nat.le_refl _) _).setCell (p:=⟨w.heap.size,1,none⟩) (Nat.le_refl _) _).setCell (p:=⟨w.heap.size,2,none⟩) (Nat.le_refl _) _
end Go.Proofs.YtimklglliffpcaaGreat
namespace Go.Proofs.YtimklglliffpcaaGreat
open Go.RowKit Go.Sort
/-- conj of the tree t, at any of its places. -/
def xv (t:Nd):Prop:=∀ (s:Sv) (w0:World) (p:Nat) (cj:List Lt) (q:Option Addr) (c n B:Nat) (ls:List Lt) (w:World),SdIn w0 s t->Below w0.heap.size w0 w->w0.heap.size<=B->B<=w.heap.size->GrowL B w q c n ls->(cjN t)[p]? = some cj->n + cj.length<=1000000000->Calls Tryz.prog 137 #[s.val,.int .i64 p,.slice q n c] w (xe B w ls cj)
theorem Rs {kids:List Nd} {k p:Nat} {x:Nd} {cj:List Lt} (hx:kids[k]? = some x) (h:(pp (kids.drop k))[p]? = some cj) (hp:¬ p < (cjN x).length):(pp (kids.drop (k + 1)))[p - (cjN x).length]? = some cj:=by
 obtain ⟨hk,rfl⟩:=List.getElem?_eq_some_iff.1 hx
 rw [List.drop_eq_getElem_cons hk,Pm,if_neg hp] at h
 exact h
theorem Tk {kids:List Nd} {k p:Nat} {x:Nd} {cj:List Lt} (hx:kids[k]? = some x) (h:(pp (kids.drop k))[p]? = some cj) (hp:p < (cjN x).length):(cjN x)[p]? = some cj:=by
 obtain ⟨hk,rfl⟩:=List.getElem?_eq_some_iff.1 hx
 rw [List.drop_eq_getElem_cons hk,Pm,if_pos hp] at h
 exact h
theorem Dk {w:World} {M:Nat} {a0 a1 a2 a3 a4 a5 a6 a7 a8 a9:Value} {T:TypeId} (h:w.heap[M]? = some (.cells #[a0,a1,a2,a3,a4,a5,a6,a7,a8,a9] T (0,0))):w.cell? ⟨M,0,none⟩=some a0/\w.cell? ⟨M,1,none⟩=some a1/\w.cell? ⟨M,2,none⟩=some a2/\w.cell? ⟨M,3,none⟩=some a3/\w.cell? ⟨M,4,none⟩=some a4/\w.cell? ⟨M,5,none⟩=some a5/\w.cell? ⟨M,6,none⟩=some a6/\w.cell? ⟨M,7,none⟩=some a7/\w.cell? ⟨M,8,none⟩=some a8/\w.cell? ⟨M,9,none⟩=some a9:=by
 refine ⟨?_, ?_, ?_, ?_, ?_, ?_, ?_, ?_, ?_, ?_⟩ <;> (unfold World.cell?;simp [h])
set_option maxRecDepth 100000 in
set_option maxHeartbeats 8000000 in
theorem Pg (kids:List Nd) (hK:∀ x ∈ kids,xv x) (hC:∀ x ∈ kids,ms x=true/\atN x=true) (s:Sv) (w0:World) (qk:Option Addr) (ck P:Nat) (cj:List Lt) (q:Option Addr) (c n B:Nat) (ls:List Lt) (w:World) (hs:SdsOf w0 qk ck kids) (hb:Below w0.heap.size w0 w) (hB0:w0.heap.size<=B) (hB:B<=w.heap.size) (hg:GrowL B w q c n ls) (hcj:(pp kids)[P]? = some cj) (ln:n + cj.length<=1000000000) (lP:P<=1000000000000) (lk:kids.length<=1000000000) :
  Calls Tryz.prog 174 #[.agg #[.int .i64 s.lit.kind,.string s.lit.attr,.slice s.lit.qi s.lit.ni s.lit.ci,.slice s.lit.qw s.lit.nw s.lit.cw,.int .i64 s.lit.lo,.int .i64 s.lit.hi,.bool s.lit.neg,.int .i64 s.op,.int .i64 s.width,.slice qk kids.length ck],.int .i64 P,.slice q n c] w (xe B w ls cj):=by
 obtain ⟨X,HX⟩:∃ X,w.alloc (.cells #[.int .i64 s.lit.kind,.string s.lit.attr,.slice s.lit.qi s.lit.ni s.lit.ci,.slice s.lit.qw s.lit.nw s.lit.cw,.int .i64 s.lit.lo,.int .i64 s.lit.hi,.bool s.lit.neg,.int .i64 s.op,.int .i64 s.width,.slice qk kids.length ck] 156)=X:=⟨_,rfl⟩
 have bX:Below w.heap.size w X:=by rw [<- HX];exact (Below.refl _ _).alloc (Nat.le_refl _) _
 have xk:X.heap[w.heap.size]? = some (.cells #[.int .i64 s.lit.kind,.string s.lit.attr,.slice s.lit.qi s.lit.ni s.lit.ci,.slice s.lit.qw s.lit.nw s.lit.cw,.int .i64 s.lit.lo,.int .i64 s.lit.hi,.bool s.lit.neg,.int .i64 s.op,.int .i64 s.width,.slice qk kids.length ck] 156 (0,0)):=by rw [<- HX];exact jf _ _
 obtain ⟨x0,x1,x2,x3,x4,x5,x6,x7,x8,x9⟩:=Dk xk
 have b0X:Below w0.heap.size w0 X:=d8 hb bX
 have HG:=d9 (hg.below bX)
 have HS0:=d9 hs
 have HBX:=d9 bX
 have HB0X:=d9 b0X
 have HKK:=d9 hK
 have HCC:=d9 hC
 have HCJ:=d9 hcj
 clear hs hg bX b0X hK hC hcj xk hb
 go_enter Tryz.func174,Tryz.ntmps174
 go_wp2
 go_loopw [1,7] (fun pv i wr=>∃ k p:Nat,k<=kids.length/\p<=P/\i=.int .i64 k/\pv=.int .i64 p/\(pp (kids.drop k))[p]? = some cj/\wr=X) (fun _ i _=>kids.length - (intOf i).toNat)
 case atStart=>exact ⟨0,P,by omega,Nat.le_refl _,rfl,rfl,uh HCJ,rfl⟩
 case round =>
  obtain ⟨k,p,hkk,hpP,rfl,rfl,hat,rfl⟩:=hrel
  have hlt:k < kids.length:=by
   by_cases h:k < kids.length
   ·exact h
   ·rw [List.drop_eq_nil_of_le (by omega)] at hat;simp [pp] at hat
  obtain ⟨x,hx,hxd⟩:=je hlt
  clear hxd
  obtain ⟨b,off,v,hq,hbb,hin,f0,f1,f2,f3,f4,f5,f6,f7,f8,f9⟩:=(uh HS0).at hx
  have g0:=((uh HB0X).cell (p:=⟨b,off + k * 10,none⟩) hbb).trans f0
  have g1:=((uh HB0X).cell (p:=⟨b,off + k * 10 + 1,none⟩) hbb).trans f1
  have g2:=((uh HB0X).cell (p:=⟨b,off + k * 10 + 2,none⟩) hbb).trans f2
  have g3:=((uh HB0X).cell (p:=⟨b,off + k * 10 + 3,none⟩) hbb).trans f3
  have g4:=((uh HB0X).cell (p:=⟨b,off + k * 10 + 4,none⟩) hbb).trans f4
  have g5:=((uh HB0X).cell (p:=⟨b,off + k * 10 + 5,none⟩) hbb).trans f5
  have g6:=((uh HB0X).cell (p:=⟨b,off + k * 10 + 6,none⟩) hbb).trans f6
  have g7:=((uh HB0X).cell (p:=⟨b,off + k * 10 + 7,none⟩) hbb).trans f7
  have g8:=((uh HB0X).cell (p:=⟨b,off + k * 10 + 8,none⟩) hbb).trans f8
  have g9:=((uh HB0X).cell (p:=⟨b,off + k * 10 + 9,none⟩) hbb).trans f9
  clear f0 f1 f2 f3 f4 f5 f6 f7 f8 f9
  subst hq
  have hmx:=List.mem_of_getElem? hx
  have hw:v.width=((cjN x).length:Nat):=(hin.wide (uh HCC x hmx).1 (uh HCC x hmx).2).trans (Eh [] x (uh HCC x hmx).1 (uh HCC x hmx).2).1.symm
  obtain ⟨W,hW⟩:∃ W,(cjN x).length=W:=⟨_,rfl⟩
  rw [hW] at hw
  rw [hw] at g8
  have ki0:(0:Int)<=(k:Int):=by omega
  have ki1:(k:Int) < (kids.length:Int):=by omega
  have HAT:=d9 hat
  have HX2:=d9 hx
  have HW2:=d9 hW
  have HIN:=d9 hin
  have HVW:=d9 hw
  clear hat hx hW hin hw hmx
  by_cases hge:W<=p
  ·have ge1:decide ((p:Int) ≥ (W:Int))=true:=by simp;omega
   have ge2:(W:Int)<=(p:Int):=by omega
   go_wp2
   go_roundw
   case rel =>
    refine ⟨k + 1,p - W,by omega,by omega,by go_num,by go_num, ?_,trivial⟩
    have:=Rs (uh HX2) (uh HAT) (by have:=uh HW2;omega)
    rw [uh HW2] at this
    exact this
   case measure=>simp [intOf];omega
  ·have ge1:decide ((p:Int) ≥ (W:Int))=false:=by simp;omega
   have ge2:¬ (W:Int)<=(p:Int):=by omega
   have hC6:=uh HKK x (List.mem_of_getElem? (uh HX2)) v w0 p cj q c n B ls wr (uh HIN) (uh HB0X) hB0 (Nat.le_trans hB (uh HBX).size) (uh HG) (Tk (uh HX2) (uh HAT) (by have:=uh HW2;omega)) ln
   unfold Sv.val at hC6
   rw [uh HVW] at hC6
   go_wp2_with (go_at_call 137;refine hC6.mono ?_;rintro e w2 ⟨q',c',N,rfl,h1,h2⟩;have HE1:=d9 h1;have HE2:=d9 h2;clear h1 h2)
   go_ret
   exact ⟨q',c',N,rfl,uh HE1,((uh HBX).mono hB).trans (uh HE2)⟩
end Go.Proofs.YtimklglliffpcaaGreat
namespace Go.Proofs.YtimklglliffpcaaGreat
open Go.RowKit Go.Sort
theorem Mu {kids:List Nd} {k p:Nat} {x:Nd} {d:List Lt} (hx:kids[k]? = some x) (h:(jx (kids.drop k))[p]? = some d) :
  (jx (kids.drop k)).length=(cjN x).length * (jx (kids.drop (k + 1))).length/\p < (cjN x).length * (jx (kids.drop (k + 1))).length/\∃ c1 d1,(cjN x)[p / (jx (kids.drop (k + 1))).length]? = some c1/\(jx (kids.drop (k + 1)))[p % (jx (kids.drop (k + 1))).length]? = some d1/\d=c1 ++ d1:=by
 obtain ⟨hk,rfl⟩:=List.getElem?_eq_some_iff.1 hx
 have hl:(jx (kids.drop k)).length=(cjN kids[k]).length * (jx (kids.drop (k + 1))).length:=by
  rw [List.drop_eq_getElem_cons hk];simp only [jx,Fb]
 have hp:=(List.getElem?_eq_some_iff.1 h).1
 rw [hl] at hp
 refine ⟨hl,hp, ?_⟩
 obtain ⟨c1,d1,h1,h2,h3⟩:=Tz kids[k] (kids.drop (k + 1)) p hp
 rw [List.drop_eq_getElem_cons hk,h3] at h
 cases h
 exact ⟨c1,d1,h1,h2,rfl⟩
set_option maxRecDepth 100000 in
set_option maxHeartbeats 8000000 in
theorem Kn (kids:List Nd) (hK:∀ x ∈ kids,xv x) (hC:∀ x ∈ kids,ms x=true/\atN x=true) (s:Sv) (w0:World) (qk:Option Addr) (ck P:Nat) (cj:List Lt) (q:Option Addr) (c n B:Nat) (ls:List Lt) (w:World) (hs:SdsOf w0 qk ck kids) (hwd:s.width=((jx kids).length:Nat)) (hb:Below w0.heap.size w0 w) (hB0:w0.heap.size<=B) (hB:B<=w.heap.size) (hg:GrowL B w q c n ls) (hcj:(jx kids)[P]? = some cj) (ln:n + cj.length<=1000000000) (lP:(jx kids).length<=1000000000000) (lk:kids.length<=1000000000) :
  Calls Tryz.prog 175 #[.agg #[.int .i64 s.lit.kind,.string s.lit.attr,.slice s.lit.qi s.lit.ni s.lit.ci,.slice s.lit.qw s.lit.nw s.lit.cw,.int .i64 s.lit.lo,.int .i64 s.lit.hi,.bool s.lit.neg,.int .i64 s.op,.int .i64 s.width,.slice qk kids.length ck],.int .i64 P,.slice q n c] w (xe B w ls cj):=by
 obtain ⟨X,HX⟩:∃ X,w.alloc (.cells #[.int .i64 s.lit.kind,.string s.lit.attr,.slice s.lit.qi s.lit.ni s.lit.ci,.slice s.lit.qw s.lit.nw s.lit.cw,.int .i64 s.lit.lo,.int .i64 s.lit.hi,.bool s.lit.neg,.int .i64 s.op,.int .i64 s.width,.slice qk kids.length ck] 156)=X:=⟨_,rfl⟩
 have bX:Below w.heap.size w X:=by rw [<- HX];exact (Below.refl _ _).alloc (Nat.le_refl _) _
 have xk:X.heap[w.heap.size]? = some (.cells #[.int .i64 s.lit.kind,.string s.lit.attr,.slice s.lit.qi s.lit.ni s.lit.ci,.slice s.lit.qw s.lit.nw s.lit.cw,.int .i64 s.lit.lo,.int .i64 s.lit.hi,.bool s.lit.neg,.int .i64 s.op,.int .i64 s.width,.slice qk kids.length ck] 156 (0,0)):=by rw [<- HX];exact jf _ _
 obtain ⟨x0,x1,x2,x3,x4,x5,x6,x7,x8,x9⟩:=Dk xk
 have HBW:=d9 (bX.mono hB)
 have hBX:B<=X.heap.size:=Nat.le_trans hB bX.size
 have HG:=d9 (hg.below bX)
 have HS0:=d9 hs
 have HB0:=d9 hb
 have HKK:=d9 hK
 have HCC:=d9 hC
 have HCJ:=d9 hcj
 have HWD:=d9 hwd
 have HLL:=d9 hg.1
 have lk1:(kids.length:Int)<=1000000000:=by omega
 clear hs hg bX hK hC hcj xk hb hwd
 go_enter Tryz.func175,Tryz.ntmps175
 go_wp2
 go_loopw [1,2,7,15] (fun pv sv tv i wr=>∃ (k p m T:Nat) (q':Option Addr) (c':Nat) (l d:List Lt),k<=kids.length/\i=.int .i64 k/\pv=.int .i64 p/\tv=.int .i64 T/\sv=.slice q' m c'/\T<=1000000000000/\(jx (kids.drop k)).length=T/\(jx (kids.drop k))[p]? = some d/\l ++ d=ls ++ cj/\GrowL B wr q' c' m l/\Below B w wr/\B<=wr.heap.size) (fun _ _ _ i _=>kids.length - (intOf i).toNat)
 case atStart=>exact ⟨0,P,n,(jx kids).length,q,c,ls,cj,by omega,rfl,rfl,by rw [uh HWD],rfl,lP,rfl,uh HCJ,rfl,uh HG,uh HBW,hBX⟩
 case round =>
  obtain ⟨k,p,m,T,q',c',l,d,hkk,rfl,rfl,rfl,rfl,hT,hTl,hat,hld,hgr,hbel,hBr⟩:=hrel
  by_cases hlt:k < kids.length
  ·obtain ⟨x,hx,hxd⟩:=je hlt
   clear hxd
   obtain ⟨b,off,v,hq,hbb,hin,f0,f1,f2,f3,f4,f5,f6,f7,f8,f9⟩:=(uh HS0).at hx
   have b0r:Below w0.heap.size w0 wr:=(uh HB0).trans (hbel.mono hB0)
   have g0:=(b0r.cell (p:=⟨b,off + k * 10,none⟩) hbb).trans f0
   have g1:=(b0r.cell (p:=⟨b,off + k * 10 + 1,none⟩) hbb).trans f1
   have g2:=(b0r.cell (p:=⟨b,off + k * 10 + 2,none⟩) hbb).trans f2
   have g3:=(b0r.cell (p:=⟨b,off + k * 10 + 3,none⟩) hbb).trans f3
   have g4:=(b0r.cell (p:=⟨b,off + k * 10 + 4,none⟩) hbb).trans f4
   have g5:=(b0r.cell (p:=⟨b,off + k * 10 + 5,none⟩) hbb).trans f5
   have g6:=(b0r.cell (p:=⟨b,off + k * 10 + 6,none⟩) hbb).trans f6
   have g7:=(b0r.cell (p:=⟨b,off + k * 10 + 7,none⟩) hbb).trans f7
   have g8:=(b0r.cell (p:=⟨b,off + k * 10 + 8,none⟩) hbb).trans f8
   have g9:=(b0r.cell (p:=⟨b,off + k * 10 + 9,none⟩) hbb).trans f9
   clear f0 f1 f2 f3 f4 f5 f6 f7 f8 f9
   subst hq
   have hmx:=List.mem_of_getElem? hx
   have hw:v.width=((cjN x).length:Nat):=(hin.wide (uh HCC x hmx).1 (uh HCC x hmx).2).trans (Eh [] x (uh HCC x hmx).1 (uh HCC x hmx).2).1.symm
   obtain ⟨e1,e2,c1,d1,e3,e4,e5⟩:=Mu hx hat
   obtain ⟨A,hA⟩:∃ A,(cjN x).length=A:=⟨_,rfl⟩
   obtain ⟨D,hD⟩:∃ D,(jx (kids.drop (k + 1))).length=D:=⟨_,rfl⟩
   rw [hA] at hw e1 e2
   rw [hD] at e1 e2 e3 e4
   rw [hw] at g8
   rw [hTl] at e1
   have A0:0 < A:=by
    rcases Nat.eq_zero_or_pos A with h | h
    ·rw [h,Nat.zero_mul] at e2;omega
    ·exact h
   have D0:0 < D:=by
    rcases Nat.eq_zero_or_pos D with h | h
    ·rw [h,Nat.mul_zero] at e2;omega
    ·exact h
   have hTA:T / A=D:=by rw [e1];exact Nat.mul_div_cancel_left D A0
   have hDT:D<=1000000000000:=by have:=Nat.div_le_self T A;omega
   have hp2:p < 1000000000000:=by omega
   have ki0:(0:Int)<=(k:Int):=by omega
   have ki1:(k:Int) < (kids.length:Int):=by omega
   have hml:l.length=m:=hgr.1
   have hnc:m + c1.length<=1000000000:=by
    have:=congrArg List.length hld
    rw [e5] at this
    simp only [List.length_append] at this
    have:=uh HLL
    omega
   have iA:¬ (A:Int)=0:=by omega
   have iD:¬ (D:Int)=0:=by omega
   have td1:(T:Int).tdiv (A:Int)=(D:Int):=by rw [<- hTA];rfl
   have td2:(p:Int).tdiv (D:Int)=((p / D:Nat):Int):=rfl
   have td3:(p:Int).tmod (D:Int)=((p % D:Nat):Int):=rfl
   obtain ⟨F,hF⟩:∃ F,p / D=F:=⟨_,rfl⟩
   obtain ⟨E,hE⟩:∃ E,p % D=E:=⟨_,rfl⟩
   rw [hF] at td2 e3
   rw [hE] at td3 e4
   have hF2:F<=1000000000000:=by have:=Nat.div_le_self p D;omega
   have hE2:E<=1000000000000:=by have:=Nat.mod_lt p D0;omega
   have nD:¬ D=0:=by omega
   have wF:IntKind.i64.wrap (F:Int)=(F:Int):=vb _ (by omega) (by omega)
   obtain ⟨Z,HZ⟩:∃ Z,wr.alloc (.cells #[.int .i64 v.lit.kind,.string v.lit.attr,.slice v.lit.qi v.lit.ni v.lit.ci,.slice v.lit.qw v.lit.nw v.lit.cw,.int .i64 v.lit.lo,.int .i64 v.lit.hi,.bool v.lit.neg,.int .i64 v.op,.int .i64 (A:Nat),.slice v.qk v.nk v.ck] 156)=Z:=⟨_,rfl⟩
   have bZ:Below wr.heap.size wr Z:=by rw [<- HZ];exact (Below.refl _ _).alloc (Nat.le_refl _) _
   have zk:Z.heap[wr.heap.size]? = some (.cells #[.int .i64 v.lit.kind,.string v.lit.attr,.slice v.lit.qi v.lit.ni v.lit.ci,.slice v.lit.qw v.lit.nw v.lit.cw,.int .i64 v.lit.lo,.int .i64 v.lit.hi,.bool v.lit.neg,.int .i64 v.op,.int .i64 (A:Nat),.slice v.qk v.nk v.ck] 156 (0,0)):=by rw [<- HZ];exact jf _ _
   obtain ⟨z0,z1,z2,z3,z4,z5,z6,z7,z8,z9⟩:=Dk zk
   have hBZ:B<=Z.heap.size:=Nat.le_trans hBr bZ.size
   have hC6:=fun (Wd:World) (hWd:Below Z.heap.size Z Wd)=>uh HKK x hmx v w0 F c1 q' c' m B l Wd hin (d8 (d8 b0r bZ) hWd) hB0 (Nat.le_trans hBZ hWd.size) ((hgr.below bZ).below hWd) e3 hnc
   unfold Sv.val at hC6
   rw [hw] at hC6
   have HEQ:=d9 (show (l ++ c1) ++ d1=ls ++ cj by rw [List.append_assoc,<- e5];exact hld)
   have HD:=d9 hD
   have HE4:=d9 e4
   have HBZ:=d9 (hbel.trans (bZ.mono hBr))
   clear e1 e2 e3 e4 e5 hw hA hD hTl hat hld hgr hbel b0r bZ zk hin hmx hx hTA hF hE hml hnc A0 D0 hBr
   have mixed:Tryz.prog.follows .mixedOrders=true:=by kernel_rfl
   go_wp2
   refine wp_region_held_drew (S:=fun w'=>True) (by kernel_rfl) (trivial) (fun hHeld=>?_)
   refine wpAnyH_take (i:=1) (oi:=⟨some 24,.move (.tmp 1),_,_,_,none⟩) (v:=?_) rfl (by kernel_rfl) (by kernel_rfl) (by kernel_rfl) (fun _ _ _ h=>h) (Or.inl ⟨by rfl, ?_⟩) (by assumption) ?_
   rotate_left
   ·intro wq hSw
    go_simp
    with_reducible rfl
   simp only [Act.put,List.setIfInBounds_toArray,List.set_cons_zero,List.set_cons_succ]
   refine wpAnyH_take (i:=2) (oi:=⟨some 25,.move (.tmp 7),_,_,_,none⟩) (v:=?_) rfl (by kernel_rfl) (by kernel_rfl) (by kernel_rfl) (fun _ _ _ h=>h) (Or.inl ⟨by rfl, ?_⟩) (by assumption) ?_
   rotate_left
   ·intro wq hSw
    go_simp
    with_reducible rfl
   simp only [Act.put,List.setIfInBounds_toArray,List.set_cons_zero,List.set_cons_succ]
   refine wpAnyH_take (i:=4) (oi:=⟨some 27,.move (.tmp 2),_,_,_,none⟩) (v:=?_) rfl (by kernel_rfl) (by kernel_rfl) (by kernel_rfl) (fun _ _ _ h=>h) (Or.inl ⟨by rfl, ?_⟩) (by assumption) ?_
   rotate_left
   ·intro wq hSw
    go_simp
    with_reducible rfl
   simp only [Act.put,List.setIfInBounds_toArray,List.set_cons_zero,List.set_cons_succ]
   refine wpAnyH_ready (rs:=[0,3]) (by kernel_rfl) (by simp) ?_
   refine AllReadyH.cons (o:=⟨some 23,.load 156 (.tmp 9),_,_,_,none⟩) rfl (fun K hK=>?_) ?_
   ·go_simp
    refine hK.out _ _ (trivial) (fun hHeld=>?_)
    clear hK K
    refine wpAnyH_ready (rs:=[3]) (by kernel_rfl) (by simp) ?_
    refine AllReadyH.cons (o:=⟨some 26,.binOp .quo 3 (.tmp 24) (.tmp 25) 3,_,_,_,none⟩) rfl (fun K hK=>?_) ?_
    ·go_simp
     refine hK.out _ _ (trivial) (fun hHeld=>?_)
     clear hK K
     refine wpAnyH_ready (rs:=[5]) (by kernel_rfl) (by simp) ?_
     refine AllReadyH.cons (o:=⟨some 28,.call { callee:=.value (.func 137),args:=#[.tmp 23,.tmp 26,.tmp 27],argTypes:=#[156,3,37] },_,_,_,none⟩) rfl (fun K hK=>?_) ?_
     ·go_simp
      refine (hC6 _ ((Below.refl _ _).drew)).mono ?_
      rintro e w2 ⟨q2,c2,N2,rfl,h1,h2⟩
      simp only
      have HE1:=d9 h1
      have HE2:=d9 (show Below B Z w2 from (((Below.refl Z.heap.size Z).drew).mono hBZ).trans h2)
      have hs2:=(uh HE2).size
      clear h1 h2
      refine hK.out _ _ (trivial) (fun hHeld=>?_)
      clear hK K
      refine wpAnyH_take (i:=6) (oi:=⟨some 2,.assign (.tmp 28),_,_,_,none⟩) (v:=?_) rfl (by kernel_rfl) (by kernel_rfl) (by kernel_rfl) (fun _ _ _ h=>h) (Or.inl ⟨by rfl, ?_⟩) (by assumption) ?_
      rotate_left
      ·intro wq hSw
       go_simp
       with_reducible rfl
      simp only [Act.put,List.setIfInBounds_toArray,List.set_cons_zero,List.set_cons_succ]
      refine wpAnyH_done (by kernel_rfl) ?_ _
      go_wp2
      go_roundw
      case rel=>exact ⟨k + 1,E,N2,D,q2,c2,l ++ c1,d1,by omega,by go_num,by go_num,by go_num,rfl,hDT,uh HD,uh HE4,uh HEQ,uh HE1,(uh HBZ).trans (uh HE2),Nat.le_trans hBZ hs2⟩
      case measure=>simp [intOf];omega
     exact AllReadyH.nil
    exact AllReadyH.nil
   refine AllReadyH.cons (o:=⟨some 26,.binOp .quo 3 (.tmp 24) (.tmp 25) 3,_,_,_,none⟩) rfl (fun K hK=>?_) ?_
   ·go_simp
    refine hK.out _ _ (trivial) (fun hHeld=>?_)
    clear hK K
    refine wpAnyH_ready (rs:=[0]) (by kernel_rfl) (by simp) ?_
    refine AllReadyH.cons (o:=⟨some 23,.load 156 (.tmp 9),_,_,_,none⟩) rfl (fun K hK=>?_) ?_
    ·go_simp
     refine hK.out _ _ (trivial) (fun hHeld=>?_)
     clear hK K
     refine wpAnyH_ready (rs:=[5]) (by kernel_rfl) (by simp) ?_
     refine AllReadyH.cons (o:=⟨some 28,.call { callee:=.value (.func 137),args:=#[.tmp 23,.tmp 26,.tmp 27],argTypes:=#[156,3,37] },_,_,_,none⟩) rfl (fun K hK=>?_) ?_
     ·go_simp
      refine (hC6 _ ((Below.refl _ _).drew)).mono ?_
      rintro e w2 ⟨q2,c2,N2,rfl,h1,h2⟩
      simp only
      have HE1:=d9 h1
      have HE2:=d9 (show Below B Z w2 from (((Below.refl Z.heap.size Z).drew).mono hBZ).trans h2)
      have hs2:=(uh HE2).size
      clear h1 h2
      refine hK.out _ _ (trivial) (fun hHeld=>?_)
      clear hK K
      refine wpAnyH_take (i:=6) (oi:=⟨some 2,.assign (.tmp 28),_,_,_,none⟩) (v:=?_) rfl (by kernel_rfl) (by kernel_rfl) (by kernel_rfl) (fun _ _ _ h=>h) (Or.inl ⟨by rfl, ?_⟩) (by assumption) ?_
      rotate_left
      ·intro wq hSw
       go_simp
       with_reducible rfl
      simp only [Act.put,List.setIfInBounds_toArray,List.set_cons_zero,List.set_cons_succ]
      refine wpAnyH_done (by kernel_rfl) ?_ _
      go_wp2
      go_roundw
      case rel=>exact ⟨k + 1,E,N2,D,q2,c2,l ++ c1,d1,by omega,by go_num,by go_num,by go_num,rfl,hDT,uh HD,uh HE4,uh HEQ,uh HE1,(uh HBZ).trans (uh HE2),Nat.le_trans hBZ hs2⟩
      case measure=>simp [intOf];omega
     exact AllReadyH.nil
    exact AllReadyH.nil
   exact AllReadyH.nil
  ·have ki1:¬ (k:Int) < (kids.length:Int):=by omega
   have HEND:=d9 (show l=ls ++ cj by
    rw [List.drop_eq_nil_of_le (by omega)] at hat
    have hp:=(List.getElem?_eq_some_iff.1 hat).1
    have h0:p=0:=by simp [jx] at hp;omega
    subst h0
    simp [jx] at hat
    have hd:d=[]:=by first | exact hat | exact hat.symm
    rw [<- hld,hd,List.append_nil])
   have HGR:=d9 hgr
   have HBE:=d9 hbel
   clear hat hld hgr hbel hTl
   go_wp2
   go_ret
   exact ⟨q',c',m,rfl,by rw [<- uh HEND];exact uh HGR,uh HBE⟩
end Go.Proofs.YtimklglliffpcaaGreat
namespace Go.Proofs.YtimklglliffpcaaGreat
open Go.RowKit Go.Sort
set_option maxRecDepth 100000 in
set_option maxHeartbeats 1000000 in
theorem Zw (s:Sv) (nk P:Nat) (q:Option Addr) (c n:Nat) (w:World) (Q:Ending->World->Prop) (hC:∀ X,Below w.heap.size w X->Calls Tryz.prog 174 #[.agg #[.int .i64 s.lit.kind,.string s.lit.attr,.slice s.lit.qi s.lit.ni s.lit.ci,.slice s.lit.qw s.lit.nw s.lit.cw,.int .i64 s.lit.lo,.int .i64 s.lit.hi,.bool s.lit.neg,.int .i64 4,.int .i64 s.width,.slice s.qk nk s.ck],.int .i64 P,.slice q n c] X (fun e w'=>∃ v,e=.returned v/\Q e w')) :
  Calls Tryz.prog 137 #[.agg #[.int .i64 s.lit.kind,.string s.lit.attr,.slice s.lit.qi s.lit.ni s.lit.ci,.slice s.lit.qw s.lit.nw s.lit.cw,.int .i64 s.lit.lo,.int .i64 s.lit.hi,.bool s.lit.neg,.int .i64 4,.int .i64 s.width,.slice s.qk nk s.ck],.int .i64 P,.slice q n c] w Q:=by
 obtain ⟨X,HX⟩:∃ X,w.alloc (.cells #[.int .i64 s.lit.kind,.string s.lit.attr,.slice s.lit.qi s.lit.ni s.lit.ci,.slice s.lit.qw s.lit.nw s.lit.cw,.int .i64 s.lit.lo,.int .i64 s.lit.hi,.bool s.lit.neg,.int .i64 4,.int .i64 s.width,.slice s.qk nk s.ck] 156)=X:=⟨_,rfl⟩
 have bX:Below w.heap.size w X:=by rw [<- HX];exact (Below.refl _ _).alloc (Nat.le_refl _) _
 have xk:X.heap[w.heap.size]? = some (.cells #[.int .i64 s.lit.kind,.string s.lit.attr,.slice s.lit.qi s.lit.ni s.lit.ci,.slice s.lit.qw s.lit.nw s.lit.cw,.int .i64 s.lit.lo,.int .i64 s.lit.hi,.bool s.lit.neg,.int .i64 4,.int .i64 s.width,.slice s.qk nk s.ck] 156 (0,0)):=by rw [<- HX];exact jf _ _
 obtain ⟨x0,x1,x2,x3,x4,x5,x6,x7,x8,x9⟩:=Dk xk
 have hC1:=hC X bX
 clear hC bX xk
 go_enter Tryz.func137,Tryz.ntmps137
 go_wp2_with (go_at_call 174;refine hC1.mono ?_;rintro e w2 ⟨v,rfl,h⟩;have HQ:=d9 h;clear h)
 exact uh HQ
set_option maxRecDepth 100000 in
set_option maxHeartbeats 1000000 in
theorem To (s:Sv) (nk P:Nat) (q:Option Addr) (c n:Nat) (w:World) (Q:Ending->World->Prop) (hC:∀ X,Below w.heap.size w X->Calls Tryz.prog 175 #[.agg #[.int .i64 s.lit.kind,.string s.lit.attr,.slice s.lit.qi s.lit.ni s.lit.ci,.slice s.lit.qw s.lit.nw s.lit.cw,.int .i64 s.lit.lo,.int .i64 s.lit.hi,.bool s.lit.neg,.int .i64 3,.int .i64 s.width,.slice s.qk nk s.ck],.int .i64 P,.slice q n c] X (fun e w'=>∃ v,e=.returned v/\Q e w')) :
  Calls Tryz.prog 137 #[.agg #[.int .i64 s.lit.kind,.string s.lit.attr,.slice s.lit.qi s.lit.ni s.lit.ci,.slice s.lit.qw s.lit.nw s.lit.cw,.int .i64 s.lit.lo,.int .i64 s.lit.hi,.bool s.lit.neg,.int .i64 3,.int .i64 s.width,.slice s.qk nk s.ck],.int .i64 P,.slice q n c] w Q:=by
 obtain ⟨X,HX⟩:∃ X,w.alloc (.cells #[.int .i64 s.lit.kind,.string s.lit.attr,.slice s.lit.qi s.lit.ni s.lit.ci,.slice s.lit.qw s.lit.nw s.lit.cw,.int .i64 s.lit.lo,.int .i64 s.lit.hi,.bool s.lit.neg,.int .i64 3,.int .i64 s.width,.slice s.qk nk s.ck] 156)=X:=⟨_,rfl⟩
 have bX:Below w.heap.size w X:=by rw [<- HX];exact (Below.refl _ _).alloc (Nat.le_refl _) _
 have xk:X.heap[w.heap.size]? = some (.cells #[.int .i64 s.lit.kind,.string s.lit.attr,.slice s.lit.qi s.lit.ni s.lit.ci,.slice s.lit.qw s.lit.nw s.lit.cw,.int .i64 s.lit.lo,.int .i64 s.lit.hi,.bool s.lit.neg,.int .i64 3,.int .i64 s.width,.slice s.qk nk s.ck] 156 (0,0)):=by rw [<- HX];exact jf _ _
 obtain ⟨x0,x1,x2,x3,x4,x5,x6,x7,x8,x9⟩:=Dk xk
 have hC1:=hC X bX
 clear hC bX xk
 go_enter Tryz.func137,Tryz.ntmps137
 go_wp2_with (go_at_call 175;refine hC1.mono ?_;rintro e w2 ⟨v,rfl,h⟩;have HQ:=d9 h;clear h)
 exact uh HQ
theorem Xz (kids:List Nd) (hK:∀ x ∈ kids,xv x) (hC:∀ x ∈ kids,ms x=true/\atN x=true) (s:Sv) (w0:World) (P:Nat) (cj:List Lt) (q:Option Addr) (c n B:Nat) (ls:List Lt) (w:World) (hs:SdsOf w0 s.qk s.ck kids) (hcj:(pp kids)[P]? = some cj) (lP:P<=1000000000000) (hb:Below w0.heap.size w0 w) (hB0:w0.heap.size<=B) (hB:B<=w.heap.size) (hg:GrowL B w q c n ls) (ln:n + cj.length<=1000000000) (lk:kids.length<=1000000000) :
  Calls Tryz.prog 137 #[.agg #[.int .i64 s.lit.kind,.string s.lit.attr,.slice s.lit.qi s.lit.ni s.lit.ci,.slice s.lit.qw s.lit.nw s.lit.cw,.int .i64 s.lit.lo,.int .i64 s.lit.hi,.bool s.lit.neg,.int .i64 4,.int .i64 s.width,.slice s.qk kids.length s.ck],.int .i64 P,.slice q n c] w (xe B w ls cj) :=
 Zw s kids.length P q c n w _ fun X bX=>(Pg kids hK hC ⟨s.lit,4,s.width,s.qk,kids.length,s.ck⟩ w0 s.qk s.ck P cj q c n B ls X hs (d8 hb bX) hB0 (Nat.le_trans hB bX.size) (hg.below bX) hcj ln lP lk).mono fun e w' h=>by
  obtain ⟨q',c',N,h0,h1,h2⟩:=h
  exact ⟨_,h0,q',c',N,h0,h1,(bX.mono hB).trans h2⟩
theorem Tx (kids:List Nd) (hK:∀ x ∈ kids,xv x) (hC:∀ x ∈ kids,ms x=true/\atN x=true) (s:Sv) (w0:World) (P:Nat) (cj:List Lt) (q:Option Addr) (c n B:Nat) (ls:List Lt) (w:World) (hs:SdsOf w0 s.qk s.ck kids) (hwd:s.width=((jx kids).length:Nat)) (hcj:(jx kids)[P]? = some cj) (lP:(jx kids).length<=1000000000000) (hb:Below w0.heap.size w0 w) (hB0:w0.heap.size<=B) (hB:B<=w.heap.size) (hg:GrowL B w q c n ls) (ln:n + cj.length<=1000000000) (lk:kids.length<=1000000000) :
  Calls Tryz.prog 137 #[.agg #[.int .i64 s.lit.kind,.string s.lit.attr,.slice s.lit.qi s.lit.ni s.lit.ci,.slice s.lit.qw s.lit.nw s.lit.cw,.int .i64 s.lit.lo,.int .i64 s.lit.hi,.bool s.lit.neg,.int .i64 3,.int .i64 s.width,.slice s.qk kids.length s.ck],.int .i64 P,.slice q n c] w (xe B w ls cj) :=
 To s kids.length P q c n w _ fun X bX=>(Kn kids hK hC ⟨s.lit,3,s.width,s.qk,kids.length,s.ck⟩ w0 s.qk s.ck P cj q c n B ls X hs hwd (d8 hb bX) hB0 (Nat.le_trans hB bX.size) (hg.below bX) hcj ln lP lk).mono fun e w' h=>by
  obtain ⟨q',c',N,h0,h1,h2⟩:=h
  exact ⟨_,h0,q',c',N,h0,h1,(bX.mono hB).trans h2⟩
theorem T7:∀ {l:List Int} (_:∀ x ∈ l,1<=x) {y:Int},y ∈ l->y<=J6 l:=by
 intro l
 induction l with
 | nil=>intro _ y hy;simp at hy
 | cons a l ih =>
  intro h y hy
  have h1:=Fo (l:=l) (fun x hx=>h x (List.mem_cons_of_mem _ hx))
  have h2:=h a (by simp)
  simp only [J6]
  rcases List.mem_cons.1 hy with rfl | hy
  ·omega
  ·have:=ih (fun x hx=>h x (List.mem_cons_of_mem _ hx)) hy;omega
theorem P8:∀ {l:List Int} (_:∀ x ∈ l,1<=x) {y:Int},y ∈ l->y<=yd l:=by
 intro l
 induction l with
 | nil=>intro _ y hy;simp at hy
 | cons a l ih =>
  intro h y hy
  have h1:=Dm (l:=l) (fun x hx=>h x (List.mem_cons_of_mem _ hx))
  have h2:=D4 (h a (by simp)) h1
  simp only [yd]
  rcases List.mem_cons.1 hy with rfl | hy
  ·exact h2.1
  ·exact Int.le_trans (ih (fun x hx=>h x (List.mem_cons_of_mem _ hx)) hy) h2.2.1
theorem Dr {kind:Int} {attr:ByteArray} {ints:List Int} {words:List ByteArray} {lo hi op:Int} {kids:List Nd} {M:Int} (ho:op=3 ∨ op=4) (hC:∀ x ∈ kids,ms x=true) (h:wN (.mk kind attr ints words lo hi op kids)<=M):∀ x ∈ kids,wN x<=M:=by
 have h1:∀ y ∈ kids.map wN,1<=y:=fun y hy=>by
  obtain ⟨x,hx,rfl⟩:=List.mem_map.1 hy
  exact (Dd (m:=64) (by omega) (by omega) x (hC x hx)).2
 intro x hx
 have hm:wN x ∈ kids.map wN:=List.mem_map.2 ⟨x,hx,rfl⟩
 rcases ho with rfl | rfl
 ·have e:wN (.mk kind attr ints words lo hi 3 kids)=yd (kids.map wN):=by rw [<- Lx];simp [wN]
  rw [e] at h
  exact Int.le_trans (P8 h1 hm) h
 ·have e:wN (.mk kind attr ints words lo hi 4 kids)=J6 (kids.map wN):=by rw [<- Vu];simp [wN]
  rw [e] at h
  exact Int.le_trans (T7 h1 hm) h
/-- conj of every tree in form whose negations stand at the predicates. -/
theorem Rt:∀ t,ms t=true->atN t=true->wtN t<=1000000000->wN t<=1000000000->xv t:=by
 intro t
 induction t using Nd.ind with
 | h kind attr ints words lo hi op kids ih =>
  intro hch hat hwt hwn s w0 p cj q c n B ls w hin hb hB0 hB hg hcj ln
  obtain ⟨l1,l2,l4⟩:=Ad hwt
  have hlen:=Nat.le_trans (Nat.le_trans (pl kids) (po kids)) l4
  have hN:=(Eh [] _ hch hat).1
  have hp:=(List.getElem?_eq_some_iff.1 hcj).1
  have hch0:=hch
  simp only [ms,Bool.and_eq_true] at hch
  obtain ⟨hn,hc⟩:=hch
  cases hin with
  | pos h1 h2 h3 =>
   have e:cjN (.mk kind attr ints words lo hi 1 kids)=[[⟨kind,attr,ints,words,lo,hi,false⟩]]:=by simp [cjN]
   rw [e] at hcj hp
   obtain rfl:p=0:=by simp at hp;omega
   cases hcj
   exact Hs s _ _ q c n B ls w (h1.keep hb) h2 (by simpa using l1) (by simpa using l2) hg hB (by simp at ln;omega)
  | @neg _ _ _ _ _ _ _ k2 a2 i2 w2 lo2 hi2 o1 ks1 h1 h2 h3 =>
   have e:cjN (.mk kind attr ints words lo hi 2 [.mk k2 a2 i2 w2 lo2 hi2 o1 ks1])=[[⟨k2,a2,i2,w2,lo2,hi2,true⟩]]:=by simp [cjN,Bm]
   rw [e] at hcj hp
   obtain rfl:p=0:=by simp at hp;omega
   cases hcj
   have hw2:wtN (.mk k2 a2 i2 w2 lo2 hi2 o1 ks1)<=1000000000:=by have:=qc (l:=[.mk k2 a2 i2 w2 lo2 hi2 o1 ks1]) (x:=.mk k2 a2 i2 w2 lo2 hi2 o1 ks1) (by simp);omega
   obtain ⟨m1,m2,_⟩:=Ad hw2
   exact Hs s _ _ q c n B ls w (h1.keep hb) h2 (by simpa using m1) (by simpa using m2) hg hB (by simp at ln;omega)
  | join ho h2 h3 h4 h5 h6 h7 =>
   have hs:SdsOf w0 s.qk s.ck kids:=⟨_,h4,h6,h7⟩
   have hA:∀ x ∈ kids,atN x=true:=Fu (by rcases ho with rfl | rfl <;> simpa [atN] using hat)
   have hC:∀ x ∈ kids,ms x=true:=fun x hx=>Gu hc hx
   have hCC:∀ x ∈ kids,ms x=true/\atN x=true:=fun x hx=>⟨hC x hx,hA x hx⟩
   have hW:=Dr ho hC hwn
   have hK:∀ x ∈ kids,xv x:=fun x hx=>ih x hx (hC x hx) (hA x hx) (Nat.le_trans (qc hx) l4) (hW x hx)
   unfold Sv.val
   rw [h2,h5]
   rcases ho with rfl | rfl
   ·have e:cjN (.mk kind attr ints words lo hi 3 kids)=jx kids:=by simp [cjN]
    rw [e] at hcj hp hN
    rw [<- hN] at h3
    exact Tx kids hK hCC s w0 p cj q c n B ls w hs h3 hcj (by omega) hb hB0 hB hg ln (by omega)
   ·have e:cjN (.mk kind attr ints words lo hi 4 kids)=pp kids:=by simp [cjN]
    rw [e] at hcj hp hN
    exact Xz kids hK hCC s w0 p cj q c n B ls w hs hcj (by omega) hb hB0 hB hg ln (by omega)
end Go.Proofs.YtimklglliffpcaaGreat
namespace Go.Proofs.YtimklglliffpcaaGreat
open Go.RowKit Go.Sort
/-- From w to w' no cell of a block below A, or from C on, was written. -/
def Ags (A C:Nat) (w w':World):Prop:=w.heap.size<=w'.heap.size/\∀ b o,b < w.heap.size->(b < A ∨ C<=b)->w'.cell? ⟨b,o,none⟩=w.cell? ⟨b,o,none⟩
theorem Ags.refl (A C:Nat) (w:World):Ags A C w w:=⟨Nat.le_refl _,fun _ _ _ _=>rfl⟩
theorem Ags.trans {A C:Nat} {w w1 w2:World} (h:Ags A C w w1) (k:Ags A C w1 w2):Ags A C w w2:=⟨Nat.le_trans h.1 k.1,fun b o hb hc=>(k.2 b o (Nat.lt_of_lt_of_le hb h.1) hc).trans (h.2 b o hb hc)⟩
theorem Ags.of {A C:Nat} {w w':World} (hb:Below w.heap.size w w'):Ags A C w w':=⟨hb.size,fun b o h _=>hb.cell (p:=⟨b,o,none⟩) h⟩
theorem Ags.mono {A C C':Nat} {w w':World} (h:Ags A C w w') (hc:C<=C'):Ags A C' w w':=⟨h.1,fun b o hb hc2=>h.2 b o hb (by omega)⟩
theorem Ags.set {A C:Nat} {w0 w:World} (h:Ags A C w0 w) {p:Addr} (h1:A<=p.block) (h2:p.block < C) (u:Value):Ags A C w0 (w.setCell p u) :=
 h.trans ⟨by simp,fun b o hb hc=>World.cell?_of_block (w:=w) (a:=⟨b,o,none⟩) (Below.heap_setCell w p u b (by show b ≠ p.block;omega))⟩
theorem SlOf.agree {α:Type} [Inhabited α] {enc:α->List Value} {k:Nat} {w w':World} {q:Option Addr} {c:Nat} {l:List α} (h:SlOf enc k w q c l) (hs:w.heap.size<=w'.heap.size) (hc:∀ ad,q=some ad->ad.block < w.heap.size->∀ o,w'.cell? ⟨ad.block,o,Option.none⟩=w.cell? ⟨ad.block,o,Option.none⟩):SlOf enc k w' q c l :=
 ⟨h.1,h.2.1,h.2.2.1,fun h0=>by
  obtain ⟨b,off,hq,hlt,hcc⟩:=h.2.2.2 h0
  exact ⟨b,off,hq,Nat.lt_of_lt_of_le hlt hs,fun j u hj=>(hc _ hq hlt _).trans (hcc j u hj)⟩⟩
/-- The spread s is the measured tree t, and stays so while no cell of a block below A, or from C on, is written. -/
def SdSt (A C:Nat) (s:Sv) (t:Nd) (w:World):Prop:=∀ w',Ags A C w w'->SdIn w' s t
theorem SdSt.now {A C:Nat} {s:Sv} {t:Nd} {w:World} (h:SdSt A C s t w):SdIn w s t:=h w (Ags.refl _ _ _)
theorem SdSt.step {A C:Nat} {s:Sv} {t:Nd} {w w':World} (h:SdSt A C s t w) (ha:Ags A C w w'):SdSt A C s t w':=fun w'' h2=>h w'' (ha.trans h2)
theorem SdSt.mono {A C C':Nat} {s:Sv} {t:Nd} {w:World} (h:SdSt A C s t w) (hc:C'<=C):SdSt A C' s t w:=fun w' h2=>h w' (h2.mono hc)
theorem zbv {w0 w w' w'':World} {C:Nat} (hb:Below w0.heap.size w0 w) (h1:Below w.heap.size w w') (h2:Ags w0.heap.size C w' w''):w0.heap.size<=w''.heap.size/\∀ b o,b < w0.heap.size->w''.cell? ⟨b,o,none⟩=w0.cell? ⟨b,o,none⟩:=by
 have s1:=hb.size
 have s2:=h1.size
 exact ⟨by have:=h2.1;omega,fun b o hlt=>(h2.2 b o (by omega) (Or.inl hlt)).trans ((h1.cell (p:=⟨b,o,none⟩) (by simp only;omega)).trans (hb.cell (p:=⟨b,o,none⟩) hlt))⟩
theorem Tryz.info156:(Tryz.prog.info? 156).map (fun i=>(i.zero,i.size,i.bytes))=some (some (.agg #[.int .i64 0,.string ⟨#[]⟩,.slice none 0 0,.slice none 0 0,.int .i64 0,.int .i64 0,.bool false,.int .i64 0,.int .i64 0,.slice none 0 0]),10,136):=by kernel_rfl
theorem Xa (n:Nat) (h:n * 136<=140737488355328):∃ cur:Array Value,cur.size=n * 10/\∀ W:World,(Instr.makeSlice 154 (.int .i64 (n:Int)) (.int .i64 (n:Int))).run Tryz.prog W=.ok (.slice (some ⟨W.heap.size,0,none⟩) n n) (W.alloc (.cells cur 156)):=by
 obtain ⟨i0,hi,hz0,hz1,hz2⟩:=info_parts Tryz.info156
 refine ⟨madeCells (Value.agg #[.int .i64 0,.string ⟨#[]⟩,.slice none 0 0,.slice none 0 0,.int .i64 0,.int .i64 0,.bool false,.int .i64 0,.int .i64 0,.slice none 0 0]).cells (n * i0.size),by rw [size_madeCells,hz1],fun W=>?_⟩
 have:=run_make (P:=Tryz.prog) W 154 156 i0 _ Tryz.underlying154 hi hz0 .i64 .i64 (n:Int) (n:Int) (by omega) (by omega) (by rw [hz2];omega) (by omega)
 simpa only [Int.toNat_natCast] using this
theorem jk {B g:Nat} {a w:World} (h:Below B a w) (hg:B<=g) (a0 a1 a2 a3 a4 a5 a6 a7 a8 a9:Value):Below B a ((((((((((w.setCell ⟨g,0,none⟩ a0).setCell ⟨g,1,none⟩ a1).setCell ⟨g,2,none⟩ a2).setCell ⟨g,3,none⟩ a3).setCell ⟨g,4,none⟩ a4).setCell ⟨g,5,none⟩ a5).setCell ⟨g,6,none⟩ a6).setCell ⟨g,7,none⟩ a7).setCell ⟨g,8,none⟩ a8).setCell ⟨g,9,none⟩ a9) :=
 (((((((((h.setCell (p:=⟨g,0,none⟩) hg a0).setCell (p:=⟨g,1,none⟩) hg a1).setCell (p:=⟨g,2,none⟩) hg a2).setCell (p:=⟨g,3,none⟩) hg a3).setCell (p:=⟨g,4,none⟩) hg a4).setCell (p:=⟨g,5,none⟩) hg a5).setCell (p:=⟨g,6,none⟩) hg a6).setCell (p:=⟨g,7,none⟩) hg a7).setCell (p:=⟨g,8,none⟩) hg a8).setCell (p:=⟨g,9,none⟩) hg a9
def MsP (t:Nd):Prop:=∀ (v:Nv) (w0 w:World),NdIn w0 v t->Below w0.heap.size w0 w->ms t=true->atN t=true->wtN t<=1000000000->wN t<=64 ->
 Calls Tryz.prog 136 #[v.val] w fun e w'=>(∃ s:Sv,e=.returned s.val/\SdSt w0.heap.size w.heap.size s t w')/\Below w.heap.size w w'
set_option maxRecDepth 100000 in
set_option maxHeartbeats 1000000 in
theorem R0 (kind:Int) (attr:ByteArray) (qi:Option Addr) (ci:Nat) (ints:List Int) (qw:Option Addr) (cw:Nat) (words:List ByteArray) (lo hi:Int) (qk:Option Addr) (ck:Nat) (kids:List Nd) (w:World) :
  Calls Tryz.prog 136 #[.agg #[.int .i64 kind,.string attr,.slice qi ints.length ci,.slice qw words.length cw,.int .i64 lo,.int .i64 hi,.int .i64 1,.slice qk kids.length ck]] w fun e w'=>e=.returned (.agg #[.int .i64 kind,.string attr,.slice qi ints.length ci,.slice qw words.length cw,.int .i64 lo,.int .i64 hi,.bool false,.int .i64 1,.int .i64 1,.slice none 0 0])/\Below w.heap.size w w':=by
 go_enter Tryz.func136,Tryz.ntmps136
 go_wp2
 refine bodyPost_ret (v:=.agg #[.int .i64 kind,.string attr,.slice qi ints.length ci,.slice qw words.length cw,.int .i64 lo,.int .i64 hi,.bool false,.int .i64 1,.int .i64 1,.slice none 0 0]) (by simp [results,Tryz.results136,go_sem, *]) rfl ⟨rfl, ?_⟩
 exact ((Below.refl _ _).alloc (Nat.le_refl _) _).alloc (by simp) _
set_option maxRecDepth 100000 in
set_option maxHeartbeats 1000000 in
theorem Va (kind:Int) (attr:ByteArray) (qi:Option Addr) (ci:Nat) (ints:List Int) (qw:Option Addr) (cw:Nat) (words:List ByteArray) (lo hi:Int) (b off:Nat) (ck:Nat) (v:Nv) (w:World) (hb:b < w.heap.size) (g0:w.cell? ⟨b,off,none⟩=some (.int .i64 v.kind)) (g1:w.cell? ⟨b,off + 1,none⟩=some (.string v.attr)) (g2:w.cell? ⟨b,off + 2,none⟩=some (.slice v.qi v.ni v.ci)) (g3:w.cell? ⟨b,off + 3,none⟩=some (.slice v.qw v.nw v.cw)) (g4:w.cell? ⟨b,off + 4,none⟩=some (.int .i64 v.lo)) (g5:w.cell? ⟨b,off + 5,none⟩=some (.int .i64 v.hi)) :
  Calls Tryz.prog 136 #[.agg #[.int .i64 kind,.string attr,.slice qi ints.length ci,.slice qw words.length cw,.int .i64 lo,.int .i64 hi,.int .i64 2,.slice (some ⟨b,off,none⟩) 1 ck]] w fun e w'=>e=.returned (.agg #[.int .i64 v.kind,.string v.attr,.slice v.qi v.ni v.ci,.slice v.qw v.nw v.cw,.int .i64 v.lo,.int .i64 v.hi,.bool true,.int .i64 1,.int .i64 1,.slice none 0 0])/\Below w.heap.size w w':=by
 obtain ⟨X,HX⟩:∃ X,(w.alloc (.cells #[.int .i64 kind,.string attr,.slice qi ints.length ci,.slice qw words.length cw,.int .i64 lo,.int .i64 hi,.int .i64 2,.slice (some ⟨b,off,none⟩) 1 ck] 56)).alloc (.cells #[.int .i64 0,.string ⟨#[]⟩,.slice none 0 0,.slice none 0 0,.int .i64 0,.int .i64 0,.bool false,.int .i64 0,.int .i64 0,.slice none 0 0] 156)=X:=⟨_,rfl⟩
 obtain ⟨x8,xz,bX,sX⟩:=Li HX
 obtain ⟨c0,c1,c2,c3,c4,c5,c6,c7⟩:=rj x8
 obtain ⟨z0,z1,z2,z3,z4,z5,z6,z7,z8,z9⟩:=Dk xz
 have e0:=(bX.cell (p:=⟨b,off,none⟩) hb).trans g0
 have e1:=(bX.cell (p:=⟨b,off + 1,none⟩) hb).trans g1
 have e2:=(bX.cell (p:=⟨b,off + 2,none⟩) hb).trans g2
 have e3:=(bX.cell (p:=⟨b,off + 3,none⟩) hb).trans g3
 have e4:=(bX.cell (p:=⟨b,off + 4,none⟩) hb).trans g4
 have e5:=(bX.cell (p:=⟨b,off + 5,none⟩) hb).trans g5
 have zf:∀ o,X.frozen? ⟨w.heap.size + 1,o,none⟩=false:=fun o=>gy xz
 have BX:=d9 bX
 clear g0 g1 g2 g3 g4 g5 x8 xz bX
 go_enter Tryz.func136,Tryz.ntmps136
 go_wp2
 refine bodyPost_ret (v:=.agg #[.int .i64 v.kind,.string v.attr,.slice v.qi v.ni v.ci,.slice v.qw v.nw v.cw,.int .i64 v.lo,.int .i64 v.hi,.bool true,.int .i64 1,.int .i64 1,.slice none 0 0]) (by simp [results,Tryz.results136,go_sem, *]) rfl ⟨rfl, ?_⟩
 with_reducible exact jk (uh BX) (by omega) _ _ _ _ _ _ _ _ _ _
end Go.Proofs.YtimklglliffpcaaGreat
namespace Go.Proofs.YtimklglliffpcaaGreat
open Go.RowKit Go.Sort
theorem xw {w w':World} {g:Nat} (h:w.grownBy w' (some g)) (o:Nat) (v:Value):w.grownBy (w'.setCell ⟨g,o,none⟩ v) (some g):=by
 have hb:=(Below.refl 0 w').setCell (p:=⟨g,o,none⟩) (Nat.zero_le _) v
 exact ⟨hb.os.trans h.os,hb.tape.trans h.tape,hb.output.trans h.output,Nat.le_trans h.size hb.size,fun k hk hne=>(Below.heap_setCell _ _ _ _ (fun e=>hne (by rw [e]))).trans (h.block k hk hne)⟩
theorem Cl (w:World) (r:Option Nat):w.grownBy w r:=⟨rfl,rfl,rfl,Nat.le_refl _,fun _ _ _=>rfl⟩
theorem ju {B n m k:Nat} {e:TypeId} {g:Nat} {xs:List Value} {w w':World} (h:w.ownsRow B e k (.slice (some ⟨g,0,none⟩) n m) n xs) (hb:Below w.heap.size w w'):w'.ownsRow B e k (.slice (some ⟨g,0,none⟩) n m) n xs :=
 World.ownsRow.kept h (row:=none) ⟨hb.os,hb.tape,hb.output,hb.size,fun j hj _=>hb.block j hj⟩ (Or.inr (by simp [Value.ownBlock]))
theorem vg {W:World} {g B n k:Nat} {cur:Array Value} {T:TypeId} (h:W.heap[g]? = some (.cells cur T (0,0))) (hB:B<=g) (hs:cur.size=n * k) (hm:n<=maxLen):W.ownsRow B T k (.slice (some ⟨g,0,none⟩) n n) n cur.toList :=
 ⟨by simp [hs],.inr ⟨g,n,cur,rfl,hB,h,Nat.le_refl _,hm,hs,by rw [List.take_of_length_le (by simp [hs])]⟩⟩
theorem pg {B n m k:Nat} {e:TypeId} {g:Nat} {xs:List Value} {w w':World} {r:Nat} (h:w.ownsRow B e k (.slice (some ⟨g,0,none⟩) n m) n xs) (hg:w.grownBy w' (some r)) (hne:g ≠ r):w'.ownsRow B e k (.slice (some ⟨g,0,none⟩) n m) n xs :=
 World.ownsRow.kept h hg (Or.inr (by simp [Value.ownBlock,hne]))
theorem g10 (w:World) (g o:Nat) (a0 a1 a2 a3 a4 a5 a6 a7 a8 a9:Value):w.grownBy ((((((((((w.setCell ⟨g,o,none⟩ (a0)).setCell ⟨g,o + 1,none⟩ (a1)).setCell ⟨g,o + 2,none⟩ (a2)).setCell ⟨g,o + 3,none⟩ (a3)).setCell ⟨g,o + 4,none⟩ (a4)).setCell ⟨g,o + 5,none⟩ (a5)).setCell ⟨g,o + 6,none⟩ (a6)).setCell ⟨g,o + 7,none⟩ (a7)).setCell ⟨g,o + 8,none⟩ (a8)).setCell ⟨g,o + 9,none⟩ (a9)) (some g):=xw (xw (xw (xw (xw (xw (xw (xw (xw (xw (Cl w (some g)) _ _) _ _) _ _) _ _) _ _) _ _) _ _) _ _) _ _) _ _
theorem Ts {A C:Nat} {w0 w:World} (h:Ags A C w0 w) {g:Nat} (o:Nat) (h1:A<=g) (h2:g < C) (a0 a1 a2 a3 a4 a5 a6 a7 a8 a9:Value):Ags A C w0 ((((((((((w.setCell ⟨g,o,none⟩ (a0)).setCell ⟨g,o + 1,none⟩ (a1)).setCell ⟨g,o + 2,none⟩ (a2)).setCell ⟨g,o + 3,none⟩ (a3)).setCell ⟨g,o + 4,none⟩ (a4)).setCell ⟨g,o + 5,none⟩ (a5)).setCell ⟨g,o + 6,none⟩ (a6)).setCell ⟨g,o + 7,none⟩ (a7)).setCell ⟨g,o + 8,none⟩ (a8)).setCell ⟨g,o + 9,none⟩ (a9)):=((((((((((h.set (p:=⟨g,o,none⟩) h1 h2 a0)).set (p:=⟨g,o + 1,none⟩) h1 h2 a1).set (p:=⟨g,o + 2,none⟩) h1 h2 a2).set (p:=⟨g,o + 3,none⟩) h1 h2 a3).set (p:=⟨g,o + 4,none⟩) h1 h2 a4).set (p:=⟨g,o + 5,none⟩) h1 h2 a5).set (p:=⟨g,o + 6,none⟩) h1 h2 a6).set (p:=⟨g,o + 7,none⟩) h1 h2 a7).set (p:=⟨g,o + 8,none⟩) h1 h2 a8).set (p:=⟨g,o + 9,none⟩) h1 h2 a9
theorem za9 {B n m:Nat} {e:TypeId} {g:Nat} {p d:List Value} {w:World} {o:Nat} (z0 z1 z2 z3 z4 z5 z6 z7 z8 z9 a0 a1 a2 a3 a4 a5 a6 a7 a8 a9:Value) (h:w.ownsRow B e 10 (.slice (some ⟨g,0,none⟩) n m) n (p ++ [z0,z1,z2,z3,z4,z5,z6,z7,z8,z9] ++ d)) (ho:p.length=o):((((((((((w.setCell ⟨g,o,none⟩ (a0)).setCell ⟨g,o + 1,none⟩ (a1)).setCell ⟨g,o + 2,none⟩ (a2)).setCell ⟨g,o + 3,none⟩ (a3)).setCell ⟨g,o + 4,none⟩ (a4)).setCell ⟨g,o + 5,none⟩ (a5)).setCell ⟨g,o + 6,none⟩ (a6)).setCell ⟨g,o + 7,none⟩ (a7)).setCell ⟨g,o + 8,none⟩ (a8)).setCell ⟨g,o + 9,none⟩ (a9)).ownsRow B e 10 (.slice (some ⟨g,0,none⟩) n m) n (p ++ [a0,a1,a2,a3,a4,a5,a6,a7,a8,a9] ++ d):=by
 have h2:=((((((((((h.stored o a0).1.stored (o + 1) a1).1.stored (o + 2) a2).1.stored (o + 3) a3).1.stored (o + 4) a4).1.stored (o + 5) a5).1.stored (o + 6) a6).1.stored (o + 7) a7).1.stored (o + 8) a8).1.stored (o + 9) a9).1
 subst ho
 simpa [List.set_append,List.append_assoc] using h2
theorem zcj {B n m:Nat} {e:TypeId} {g:Nat} {p d:List Value} {w:World} {o:Nat} (z a:Value) (h:w.ownsRow B e 1 (.slice (some ⟨g,0,none⟩) n m) n (p ++ [z] ++ d)) (ho:p.length=o):(w.setCell ⟨g,o,none⟩ a).ownsRow B e 1 (.slice (some ⟨g,0,none⟩) n m) n (p ++ [a] ++ d):=by
 have h2:=(h.stored o a).1
 subst ho
 simpa [List.set_append,List.append_assoc] using h2
theorem Vx {d:List Value} {o:Nat} (h:o + 10<=d.length):∃ z0 z1 z2 z3 z4 z5 z6 z7 z8 z9,d.drop o=[z0,z1,z2,z3,z4,z5,z6,z7,z8,z9] ++ d.drop (o + 10):=by
 refine ⟨d[o],d[o + 1],d[o + 2],d[o + 3],d[o + 4],d[o + 5],d[o + 6],d[o + 7],d[o + 8],d[o + 9], ?_⟩
 rw [List.drop_eq_getElem_cons (i:=o) (by omega),List.drop_eq_getElem_cons (i:=o + 1) (by omega),List.drop_eq_getElem_cons (i:=o + 2) (by omega),List.drop_eq_getElem_cons (i:=o + 3) (by omega),List.drop_eq_getElem_cons (i:=o + 4) (by omega),List.drop_eq_getElem_cons (i:=o + 5) (by omega),List.drop_eq_getElem_cons (i:=o + 6) (by omega),List.drop_eq_getElem_cons (i:=o + 7) (by omega),List.drop_eq_getElem_cons (i:=o + 8) (by omega),List.drop_eq_getElem_cons (i:=o + 9) (by omega)]
 rfl
theorem l7 (us:List Sv):(flatK rv 10 us.toArray).toList.length=us.length * 10:=by simp [flatK]
theorem Bg (s:Sv):(flatK rv 10 [s].toArray).toList=[.int .i64 s.lit.kind,.string s.lit.attr,.slice s.lit.qi s.lit.ni s.lit.ci,.slice s.lit.qw s.lit.nw s.lit.cw,.int .i64 s.lit.lo,.int .i64 s.lit.hi,.bool s.lit.neg,.int .i64 s.op,.int .i64 s.width,.slice s.qk s.nk s.ck]:=by
 apply List.ext_getElem?
 intro j
 by_cases hj:j < 10
 ·have:=lj (enc:=rv) (k:=10) (l:=[s]) (j:=0) (x:=s) rfl j hj
  rw [Nat.zero_mul,Nat.zero_add] at this
  rw [this]
  have hm:j=0 ∨ j=1 ∨ j=2 ∨ j=3 ∨ j=4 ∨ j=5 ∨ j=6 ∨ j=7 ∨ j=8 ∨ j=9:=by omega
  rcases hm with e | e | e | e | e | e | e | e | e | e <;> rw [e] <;> rfl
 ·rw [List.getElem?_eq_none (by simp [flatK];omega),List.getElem?_eq_none (by simp;omega)]
theorem NdsOf.on2 {w wr:World} {q:Option Addr} {c:Nat} {l:List Nd} {j:Nat} {x:Nd} (h:NdsOf w q c l) (hj:l[j]? = some x) (hbel:Below w.heap.size w wr) :
  ∃ b off v,q=some ⟨b,off,none⟩/\NdIn w v x/\wr.cell? ⟨b,off + j * 8,none⟩=some (.int .i64 v.kind)/\wr.cell? ⟨b,off + j * 8 + 1,none⟩=some (.string v.attr)/\wr.cell? ⟨b,off + j * 8 + 2,none⟩=some (.slice v.qi v.ni v.ci)/\wr.cell? ⟨b,off + j * 8 + 3,none⟩=some (.slice v.qw v.nw v.cw)/\wr.cell? ⟨b,off + j * 8 + 4,none⟩=some (.int .i64 v.lo)/\wr.cell? ⟨b,off + j * 8 + 5,none⟩=some (.int .i64 v.hi)/\wr.cell? ⟨b,off + j * 8 + 6,none⟩=some (.int .i64 v.op)/\wr.cell? ⟨b,off + j * 8 + 7,none⟩=some (.slice v.qk v.nk v.ck):=by
 obtain ⟨b,off,v,hq,hb,hin,c0,c1,c2,c3,c4,c5,c6,c7⟩:=h.at hj
 exact ⟨b,off,v,hq,hin,(hbel.cell hb).trans c0,(hbel.cell hb).trans c1,(hbel.cell hb).trans c2,(hbel.cell hb).trans c3,(hbel.cell hb).trans c4,(hbel.cell hb).trans c5,(hbel.cell hb).trans c6,(hbel.cell hb).trans c7⟩
end Go.Proofs.YtimklglliffpcaaGreat
namespace Go.Proofs.YtimklglliffpcaaGreat
open Go.RowKit Go.Sort
theorem zda (X:World) (cur:Array Value) {n:Nat} (b0 b1 b2 b3 b4 b5 b6 b7 b8 b9:Value) (sX:X.heap.size=n + 2):((X.alloc (.cells cur 156)).alloc (.cells #[b0,b1,b2,b3,b4,b5,b6,b7,b8,b9] 156)).drew.ownsRow (n + 2) 156 10 (.slice (some ⟨n + 2 + 1,0,none⟩) 1 1) 1 [b0,b1,b2,b3,b4,b5,b6,b7,b8,b9]:=by
 have h:=jf (X.alloc (.cells cur 156)) (.cells #[b0,b1,b2,b3,b4,b5,b6,b7,b8,b9] 156)
 rw [jl,sX] at h
 exact ju (vg h (by omega) rfl (by unfold maxLen;omega)) ((Below.refl _ _).drew)
theorem zbh (X:World) (cur:Array Value) {n m:Nat} (o:Obj) (sX:X.heap.size=n + 2) (hcs:cur.size=m * 10) (hm:m<=maxLen):((X.alloc (.cells cur 156)).alloc o).drew.ownsRow (n + 2) 156 10 (.slice (some ⟨n + 2,0,none⟩) m m) m cur.toList:=by
 have h:=jf X (.cells cur 156)
 rw [sX] at h
 exact ju (vg h (by omega) hcs hm) (((Below.refl _ _).alloc (Nat.le_refl _) _).drew)
theorem zdc (X:World) (o:Obj) {n:Nat} (b0 b1 b2 b3 b4 b5 b6 b7 b8 b9:Value) (sX:X.heap.size=n + 2):((X.alloc (.cells #[b0,b1,b2,b3,b4,b5,b6,b7,b8,b9] 156)).alloc o).drew.ownsRow (n + 2) 156 10 (.slice (some ⟨n + 2,0,none⟩) 1 1) 1 [b0,b1,b2,b3,b4,b5,b6,b7,b8,b9]:=by
 have h:=jf X (.cells #[b0,b1,b2,b3,b4,b5,b6,b7,b8,b9] 156)
 rw [sX] at h
 exact ju (vg h (by omega) rfl (by unfold maxLen;omega)) (((Below.refl _ _).alloc (Nat.le_refl _) _).drew)
theorem zay (X:World) (cur:Array Value) {n m:Nat} (o:Obj) (sX:X.heap.size=n + 2) (hcs:cur.size=m * 10) (hm:m<=maxLen):((X.alloc o).alloc (.cells cur 156)).drew.ownsRow (n + 2) 156 10 (.slice (some ⟨n + 2 + 1,0,none⟩) m m) m cur.toList:=by
 have h:=jf (X.alloc o) (.cells cur 156)
 rw [jl,sX] at h
 exact ju (vg h (by omega) hcs hm) ((Below.refl _ _).drew)
theorem Vn {B g o:Nat} {a w:World} (h:Below B a w) (hg:B<=g) (a0 a1 a2 a3 a4 a5 a6 a7 a8 a9:Value):Below B a ((((((((((w.setCell ⟨g,o,none⟩ (a0)).setCell ⟨g,o + 1,none⟩ (a1)).setCell ⟨g,o + 2,none⟩ (a2)).setCell ⟨g,o + 3,none⟩ (a3)).setCell ⟨g,o + 4,none⟩ (a4)).setCell ⟨g,o + 5,none⟩ (a5)).setCell ⟨g,o + 6,none⟩ (a6)).setCell ⟨g,o + 7,none⟩ (a7)).setCell ⟨g,o + 8,none⟩ (a8)).setCell ⟨g,o + 9,none⟩ (a9)) :=
 ((((((((((h.setCell (p:=⟨g,o,none⟩) hg a0)).setCell (p:=⟨g,o + 1,none⟩) hg a1).setCell (p:=⟨g,o + 2,none⟩) hg a2).setCell (p:=⟨g,o + 3,none⟩) hg a3).setCell (p:=⟨g,o + 4,none⟩) hg a4).setCell (p:=⟨g,o + 5,none⟩) hg a5).setCell (p:=⟨g,o + 6,none⟩) hg a6).setCell (p:=⟨g,o + 7,none⟩) hg a7).setCell (p:=⟨g,o + 8,none⟩) hg a8).setCell (p:=⟨g,o + 9,none⟩) hg a9
theorem zdb (w:World) (g:Nat) (a0 a1 a2 a3 a4 a5 a6 a7 a8 a9:Value):w.grownBy ((((((((((w.setCell ⟨g,0,none⟩ (a0)).setCell ⟨g,1,none⟩ (a1)).setCell ⟨g,2,none⟩ (a2)).setCell ⟨g,3,none⟩ (a3)).setCell ⟨g,4,none⟩ (a4)).setCell ⟨g,5,none⟩ (a5)).setCell ⟨g,6,none⟩ (a6)).setCell ⟨g,7,none⟩ (a7)).setCell ⟨g,8,none⟩ (a8)).setCell ⟨g,9,none⟩ (a9)) (some g):=xw (xw (xw (xw (xw (xw (xw (xw (xw (xw (Cl w (some g)) _ _) _ _) _ _) _ _) _ _) _ _) _ _) _ _) _ _) _ _
theorem Xi {A C:Nat} {w0 w:World} (h:Ags A C w0 w) {g:Nat} (h1:A<=g) (h2:g < C) (a0 a1 a2 a3 a4 a5 a6 a7 a8 a9:Value):Ags A C w0 ((((((((((w.setCell ⟨g,0,none⟩ (a0)).setCell ⟨g,1,none⟩ (a1)).setCell ⟨g,2,none⟩ (a2)).setCell ⟨g,3,none⟩ (a3)).setCell ⟨g,4,none⟩ (a4)).setCell ⟨g,5,none⟩ (a5)).setCell ⟨g,6,none⟩ (a6)).setCell ⟨g,7,none⟩ (a7)).setCell ⟨g,8,none⟩ (a8)).setCell ⟨g,9,none⟩ (a9)):=((((((((((h.set (p:=⟨g,0,none⟩) h1 h2 a0)).set (p:=⟨g,1,none⟩) h1 h2 a1).set (p:=⟨g,2,none⟩) h1 h2 a2).set (p:=⟨g,3,none⟩) h1 h2 a3).set (p:=⟨g,4,none⟩) h1 h2 a4).set (p:=⟨g,5,none⟩) h1 h2 a5).set (p:=⟨g,6,none⟩) h1 h2 a6).set (p:=⟨g,7,none⟩) h1 h2 a7).set (p:=⟨g,8,none⟩) h1 h2 a8).set (p:=⟨g,9,none⟩) h1 h2 a9
theorem zao {kids:List Nd} {us:List Sv} {Q:Sv->Nd->Prop} {s:Sv} {x:Nd} {k:Nat} (hu:us.length=k) (hx:kids[k]? = some x) (h:∀ (j:Nat) (v:Sv) (x:Nd),us[j]? = some v->kids[j]? = some x->Q v x) (sp:Q s x):∀ (j:Nat) (y:Sv) (z:Nd),(us ++ [s])[j]? = some y->kids[j]? = some z->Q y z:=by
 intro j y z hj hz
 by_cases hjk:j < k
 ·rw [List.getElem?_append_left (by omega)] at hj
  exact h j y z hj hz
 ·have hj2:=(List.getElem?_eq_some_iff.1 hj).1
  rw [List.length_append,hu] at hj2
  obtain rfl:j=k:=by simp at hj2;omega
  rw [List.getElem?_append_right (by omega),hu,Nat.sub_self] at hj
  rw [hx] at hz
  cases hj
  cases hz
  exact sp
end Go.Proofs.YtimklglliffpcaaGreat

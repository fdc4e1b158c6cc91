/- conj.Meet: what a row of predicates comes to. -/
import Derived.Test.YtimklglliffpcaaGreatQZac
import Derived.BigQuiet
import Derived.Lib.QuietBelow
import Derived.Test.YtimklglliffpcaaGreatQMemNode
import Derived.Test.YtimklglliffpcaaGreatQZab
import Derived.Test.YtimklglliffpcaaGreatQEvHolds
namespace Go.Proofs.YtimklglliffpcaaGreat
open Go.RowKit Go.Sort Go.Shelf
/-- What conj.both does. -/
def Nc:Prop:=∀ (u v:Pv) (a b:Pd) (B:Nat) (w:World),B<=w.heap.size->PdOwn B w u a->PdOwn B w v b->Gd a->Gd b->Apart u a v b->∀ (T:Nat->Prop),(∀ k,T k->k < w.heap.size)->Off u T->Off v T ->
    Calls Tryz.prog 50 #[u.val,v.val] w fun e w'=>(∃ r:Pv,e=.returned (.tuple #[.agg #[.int .i64 r.kind,.string r.attr,.slice r.qi r.ni r.ci,.slice r.qw r.nw r.cw,.int .i64 r.lo,.int .i64 r.hi],.bool (ry a b).isSome])/\PdOwn B w' r ((ry a b).getD pr)/\Off r T)/\Below B w w'/\∀ k,T k->w'.heap[k]? = w.heap[k]?
/-- A list of predicates in memory. -/
def PdsOf (w:World) (q:Option Addr) (c:Nat) (l:List Pd):Prop:=∃ us,SlOf sc 6 w q c us/\us.length=l.length/\∀ (j:Nat) (u:Pv) (p:Pd),us[j]? = some u->l[j]? = some p->PdIn w u p
theorem PdsOf.below {w w':World} {q:Option Addr} {c:Nat} {l:List Pd} (h:PdsOf w q c l) (hb:Below w.heap.size w w'):PdsOf w' q c l:=by
 obtain ⟨us,h1,h2,h3⟩:=h
 exact ⟨us,h1.below hb,h2,fun j u p hj hp=>(h3 j u p hj hp).keep hb⟩
theorem PdsOf.at {w:World} {q:Option Addr} {c:Nat} {l:List Pd} {j:Nat} {p:Pd} (h:PdsOf w q c l) (hj:l[j]? = some p) :
  ∃ b off u,q=some ⟨b,off,none⟩/\b < w.heap.size/\PdIn w u p/\w.cell? ⟨b,off + j * 6,none⟩=some (.int .i64 u.kind)/\w.cell? ⟨b,off + j * 6 + 1,none⟩=some (.string u.attr)/\w.cell? ⟨b,off + j * 6 + 2,none⟩=some (.slice u.qi u.ni u.ci)/\w.cell? ⟨b,off + j * 6 + 3,none⟩=some (.slice u.qw u.nw u.cw)/\w.cell? ⟨b,off + j * 6 + 4,none⟩=some (.int .i64 u.lo)/\w.cell? ⟨b,off + j * 6 + 5,none⟩=some (.int .i64 u.hi):=by
 obtain ⟨us,h1,h2,h3⟩:=h
 have hl:j < l.length:=(List.getElem?_eq_some_iff.1 hj).1
 obtain ⟨u,hu,_⟩:=je (l:=us) (k:=j) (by omega)
 obtain ⟨b,off,hq,hb,hc⟩:=h1.2.2.2.at hu
 exact ⟨b,off,u,hq,hb,h3 j u p hu hj,hc 0 (by omega),hc 1 (by omega),hc 2 (by omega),hc 3 (by omega),hc 4 (by omega),hc 5 (by omega)⟩
theorem PdsOf.cap {w:World} {q:Option Addr} {c:Nat} {l:List Pd} (h:PdsOf w q c l):l.length<=c/\c<=maxLen:=by
 obtain ⟨us,h1,h2,_⟩:=h
 exact ⟨by rw [<- h2];exact h1.2.1,h1.2.2.1⟩
def Small (l:List Pd):Prop:=∀ p ∈ l,p.small
theorem pt (l:List Pd):kr none l=none:=by cases l <;> rfl
theorem zbw {B:Nat} {w:World} {u:Pv} {p:Pd} (h:PdOwn B w u p):∀ x,(u.qi=some x/\p.ints ≠ [] ∨ u.qw=some x/\p.words ≠ [])->x.block < w.heap.size:=fun x hx=>by
 rcases hx with ⟨hq,hn⟩ | ⟨hq,hn⟩
 ·obtain ⟨b,off,hq2,hb,_⟩:=h.1.2.2.2.2.2.2.1.2.2.2 (List.length_pos_iff.2 hn)
  rw [hq] at hq2
  cases hq2
  exact hb
 ·obtain ⟨b,off,hq2,hb,_⟩:=h.1.2.2.2.2.2.2.2.2.2.2 (List.length_pos_iff.2 hn)
  rw [hq] at hq2
  cases hq2
  exact hb
theorem Za {B:Nat} {w:World} {u:Pv} {p:Pd} (h:PdOwn B w u p):∀ x,(u.qi=some x/\p.ints ≠ [] ∨ u.qw=some x/\p.words ≠ [])->B<=x.block:=fun x hx=>by
 rcases hx with ⟨hq,_⟩ | ⟨hq,_⟩
 ·exact h.2.1.1 x hq
 ·exact h.2.1.2 x hq
theorem Qf {B:Nat} {w:World} {u:Pv} {p:Pd} {T:Nat->Prop} (h:PdOwn B w u p) (hT:∀ k,T k->k < B):Off u T:=⟨fun a e ht=>by have h1:=h.2.1.1 a e;have h2:=hT _ ht;omega,fun a e ht=>by have h1:=h.2.1.2 a e;have h2:=hT _ ht;omega⟩
set_option maxHeartbeats 1000000 in
set_option maxRecDepth 100000 in
theorem Q2 (q:Option Addr) (c:Nat) (w:World) :
  Calls Tryz.prog 14 #[.slice q 0 c] w fun e w'=>e=.returned (.tuple #[.agg #[.int .i64 0,.string ⟨#[]⟩,.slice none 0 0,.slice none 0 0,.int .i64 0,.int .i64 0],.bool false])/\Below w.heap.size w w':=by
 obtain ⟨X,HX⟩:∃ X,w.alloc (.cells #[.int .i64 0,.string ⟨#[]⟩,.slice none 0 0,.slice none 0 0,.int .i64 0,.int .i64 0] 26)=X:=⟨_,rfl⟩
 have bX:Below w.heap.size w X:=by rw [<- HX];exact (Below.refl _ _).alloc (Nat.le_refl _) _
 have x8:X.heap[w.heap.size]? = some (.cells #[.int .i64 0,.string ⟨#[]⟩,.slice none 0 0,.slice none 0 0,.int .i64 0,.int .i64 0] 26 (0,0)):=by rw [<- HX];exact World.alloc_heap_new _ _
 obtain ⟨x0,x1,x2,x3,x4,x5⟩:=kq x8
 have xf:=fun o=>gy (o:=o) x8
 have BX:=d9 bX
 clear bX x8
 go_enter Tryz.func14,Tryz.ntmps14
 go_wp2
 exact bodyPost_ret (v:=.tuple #[.agg #[.int .i64 0,.string ⟨#[]⟩,.slice none 0 0,.slice none 0 0,.int .i64 0,.int .i64 0],.bool false]) (by simp [results,Tryz.results14,go_sem, *]) rfl ⟨rfl,(((((((uh BX).setCell (p:=⟨w.heap.size,0,none⟩) (Nat.le_refl _) _).setCell (p:=⟨w.heap.size,1,none⟩) (Nat.le_refl _) _).setCell (p:=⟨w.heap.size,2,none⟩) (Nat.le_refl _) _).setCell (p:=⟨w.heap.size,3,none⟩) (Nat.le_refl _) _).setCell (p:=⟨w.heap.size,4,none⟩) (Nat.le_refl _) _).setCell (p:=⟨w.heap.size,5,none⟩) (Nat.le_refl _) _)⟩
end Go.Proofs.YtimklglliffpcaaGreat
namespace Go.Proofs.YtimklglliffpcaaGreat
open Go.RowKit Go.Sort Go.Shelf
theorem ja {w:World} {p:Addr} {v:Value} (h:w.cell? p=some v):∀ n os,(grow (redrawn w n) os).cell? p=some v:=fun n os=>by
 have hb:p.block < w.heap.size:=by
  rcases Nat.lt_or_ge p.block w.heap.size with h' | h'
  ·exact h'
  ·exfalso
   unfold World.cell? at h
   rw [Array.getElem?_eq_none h'] at h
   simp at h
 exact ((below_regrown w n os).cell hb).trans h
/-- conj.same. -/
theorem zb7 (u v:Pv) (p r:Pd) (w:World) (hu:PdIn w u p) (hv:PdIn w v r) (hs:p.small):Calls Tryz.prog 128 #[u.val,v.val] w fun e w'=>e=.returned (.bool (decide (p=r)))/\Below w.heap.size w w':=by
  obtain ⟨X,HX,bX,sX,x8,x9⟩:=pa w u v
  obtain ⟨a0,a1,a2,a3,a4,a5⟩:=kq x8
  obtain ⟨b0,b1,b2,b3,b4,b5⟩:=kq x9
  have hC:=yn u v p r X (hu.keep bX) (hv.keep bX) hs
  unfold Pv.val at hC ⊢
  have BX:=d9 bX
  have hz:=isCmp_D.eq p r
  clear bX x8 x9 hu hv hs
  by_cases hpr:p=r
  · rw [hz.2 hpr] at hC
    rw [decide_eq_true hpr]
    clear hz hpr
    go_enter Tryz.func128,Tryz.ntmps128
    go_wp2_with (go_at_call 20;refine hC.mono ?_;rintro e w1 ⟨rfl,b1⟩;have B1:=d9 b1;clear b1)
    go_ret
    exact ⟨rfl,d8 (uh BX) (uh B1)⟩
  · obtain ⟨z,hzz⟩:∃ z,pe p r=z:=⟨_,rfl⟩
    rw [hzz] at hC hz
    have h0:(z == 0)=false:=by rw [beq_eq_false_iff_ne];exact fun e=>hpr (hz.1 e)
    rw [decide_eq_false hpr]
    clear hz hpr hzz
    go_enter Tryz.func128,Tryz.ntmps128
    go_wp2_with (go_at_call 20;refine hC.mono ?_;rintro e w1 ⟨rfl,b1⟩;have B1:=d9 b1;clear b1)
    go_ret
    exact ⟨rfl,d8 (uh BX) (uh B1)⟩
def pu (p:Pd):Bool:=decide (jr p=some p)
/-- conj.normal. -/
theorem A4 (u:Pv) (p:Pd) (w:World) (hu:PdIn w u p) (hs:p.small):Calls Tryz.prog 129 #[u.val] w fun e w'=>e=.returned (.bool (pu p))/\Below w.heap.size w w':=by
  obtain ⟨X,HX,bX,x8⟩:=xj w u
  obtain ⟨a0,a1,a2,a3,a4,a5⟩:=kq x8
  have lX:w.heap.size < X.heap.size:=(Array.getElem?_eq_some_iff.1 x8).1
  have hN:=tu u p X (hu.keep bX) hs
  unfold Pv.val at hN ⊢
  have BX:=d9 bX
  have X8:=d9 x8
  have HU:=d9 (hu.keep bX)
  have HS:=d9 hs
  clear bX x8 hu hs
  cases hn:jr p with
  | none =>
    rw [hn] at hN
    have HR:=d9 (show pu p=false by unfold pu;rw [hn];simp)
    clear hn
    go_enter Tryz.func129,Tryz.ntmps129
    go_wp2_with (go_at_call 16;refine hN.mono ?_;rintro e w1 ⟨⟨r,rfl,ho⟩,b1⟩;have B1:=d9 b1;clear b1 ho)
    go_ret
    exact ⟨jb (uh HR).symm,d8 (uh BX) (d8 (uh B1) ((Below.refl _ _).alloc (Nat.le_refl _) _))⟩
  | some m =>
    rw [hn] at hN
    have HR:=d9 (show pu p=decide (m=p) by unfold pu;rw [hn];simp)
    have HM:=d9 (sj (uh HS) hn)
    clear hn
    go_enter Tryz.func129,Tryz.ntmps129
    go_upto_region 2 with (go_at_call 16;refine hN.mono ?_;rintro e w1 ⟨⟨r,rfl,ho⟩,b1⟩;have B1:=d9 b1;have O1:=d9 ho;clear b1 ho)
    obtain ⟨Y,HY⟩:∃ Y,w1.alloc (.cells #[.int .i64 r.kind,.string r.attr,.slice r.qi r.ni r.ci,.slice r.qw r.nw r.cw,.int .i64 r.lo,.int .i64 r.hi] 26)=Y:=⟨_,rfl⟩
    rw [HY]
    have y8:Y.heap[w1.heap.size]? = some (.cells #[.int .i64 r.kind,.string r.attr,.slice r.qi r.ni r.ci,.slice r.qw r.nw r.cw,.int .i64 r.lo,.int .i64 r.hi] 26 (0,0)):=by rw [<- HY];exact World.alloc_heap_new _ _
    have bY:Below w1.heap.size w1 Y:=by rw [<- HY];exact (Below.refl _ _).alloc (Nat.le_refl _) _
    have hC:=zb7 r u m p Y ((uh O1).below bY).1 ((uh HU).keep (d8 (uh B1) bY)) ⟨Nat.le_trans (uh HM).1.2.2.1 (by decide),Nat.le_trans (uh HM).1.2.2.2.1 (by decide)⟩
    unfold Pv.val at hC
    obtain ⟨f0,f1,f2,f3,f4,f5⟩:=kq y8
    clear a0 a1 a2 a3 a4 a5
    obtain ⟨a0,a1,a2,a3,a4,a5⟩:=kq (((d8 (uh B1) bY).block _ lX).trans (uh X8))
    have BY:=d9 (d8 (uh BX) (d8 (uh B1) bY))
    obtain ⟨z,hz⟩:∃ z,decide (m=p)=z:=⟨_,rfl⟩
    rw [hz] at hC HR
    clear y8 bY HY hN hz
    go_wp2_with (go_at_call 128;refine hC.mono ?_;rintro e w2 ⟨rfl,b2⟩;have B2:=d9 b2;clear b2)
    go_ret
    exact ⟨jb (by rw [uh HR]),d8 (uh BY) (uh B2)⟩
def qf (ord:Pd->Pd->Int) (l:List Pd) (k:Nat):Bool:=pu l[k]! && (decide (k=0) || decide (ord l[k - 1]! l[k]! < 0))
def Fd (ord:Pd->Pd->Int) (l:List Pd):Bool:=(List.range l.length).all (qf ord l)
theorem Xb {l:List Pd} {k:Nat} {p:Pd} (h:l[k]? = some p):l[k]! = p:=by
 rw [List.getElem!_eq_getElem?_getD,h];rfl
theorem Df {ord:Pd->Pd->Int} {l:List Pd} {k:Nat} (hk:k < l.length) (h:qf ord l k=false):Fd ord l=false:=List.all_eq_false.2 ⟨k,List.mem_range.2 hk,by rw [h];simp⟩
theorem Ha {ord:Pd->Pd->Int} {l:List Pd} (h:∀ t,t < l.length->qf ord l t=true):Fd ord l=true:=List.all_eq_true.2 fun t ht=>h t (List.mem_range.1 ht)
def K5 (p r:Pd):Int:=kp p.attr r.attr
end Go.Proofs.YtimklglliffpcaaGreat
namespace Go.Proofs.YtimklglliffpcaaGreat
open Go.RowKit Go.Sort Go.Shelf
set_option maxHeartbeats 4000000 in
set_option maxRecDepth 100000 in
/-- conj.rising by attr. -/
theorem Fm (q:Option Addr) (c:Nat) (l:List Pd) (w:World) (h:PdsOf w q c l) (hs:Small l) (hl:l.length<=100000000) :
    Calls Tryz.prog 79 #[.slice q l.length c,.func (.func 68) #[] #[]] w fun e w'=>e=.returned (.bool (Fd K5 l))/\Below w.heap.size w w':=by
  have mixed:Tryz.prog.follows .mixedOrders=true:=by kernel_rfl
  have en129:∀ args w,(callFunc 129 args).run Tryz.prog w=.ok (.enter 129 args) w:=enters_of Tryz.func129 (by kernel_rfl) rfl
  have en68:∀ args w,(callFunc 68 args).run Tryz.prog w=.ok (.enter 68 args) w:=enters_of Tryz.func68 (by kernel_rfl) rfl
  have i9:(l.length:Int)<=100000000:=by omega
  have HH:=d9 h
  have HS:=d9 hs
  clear h hs
  go_enter Tryz.func79,Tryz.ntmps79
  go_wp2
  go_loopw [9] (fun iv wr=>∃ k:Nat,k<=l.length/\iv=.int .i64 k/\Hid (∀ t,t < k->qf K5 l t=true)/\Hid (Below w.heap.size w wr)) (fun iv _=>l.length - (intOf iv).toNat)
  case atStart=>exact ⟨0,Nat.zero_le _,rfl,d9 (fun t ht=>absurd ht (by omega)),d9 (Below.refl _ _)⟩
  case round =>
    obtain ⟨k,hk,rfl,HA,HB⟩:=hrel
    by_cases hlt:k < l.length
    · obtain ⟨p,hp,_⟩:=je hlt
      obtain ⟨b,off,u,hq,hb,hu,c0,c1,c2,c3,c4,c5⟩:=(uh HH).at hp
      subst hq
      have g0:=((uh HB).cell (p:=⟨b,_,none⟩) hb).trans c0
      have g1:=((uh HB).cell (p:=⟨b,_,none⟩) hb).trans c1
      have g2:=((uh HB).cell (p:=⟨b,_,none⟩) hb).trans c2
      have g3:=((uh HB).cell (p:=⟨b,_,none⟩) hb).trans c3
      have g4:=((uh HB).cell (p:=⟨b,_,none⟩) hb).trans c4
      have g5:=((uh HB).cell (p:=⟨b,_,none⟩) hb).trans c5
      have k0:(0:Int)<=(k:Int):=by omega
      have k1:(k:Int) < (l.length:Int):=by omega
      obtain ⟨W1,HW1⟩:∃ W1,wr.alloc (.cells #[.int .i64 u.kind,.string u.attr,.slice u.qi u.ni u.ci,.slice u.qw u.nw u.cw,.int .i64 u.lo,.int .i64 u.hi] 26)=W1:=⟨_,rfl⟩
      have b1:Below wr.heap.size wr W1:=by rw [<- HW1];exact (Below.refl _ _).alloc (Nat.le_refl _) _
      have w8:W1.heap[wr.heap.size]? = some (.cells #[.int .i64 u.kind,.string u.attr,.slice u.qi u.ni u.ci,.slice u.qw u.nw u.cw,.int .i64 u.lo,.int .i64 u.hi] 26 (0,0)):=by rw [<- HW1];exact World.alloc_heap_new _ _
      have lW:wr.heap.size < W1.heap.size:=(Array.getElem?_eq_some_iff.1 w8).1
      obtain ⟨e0,e1,e2,e3,e4,e5⟩:=kq w8
      have e0r:=ja e0
      have e1r:=ja e1
      have e2r:=ja e2
      have e3r:=ja e3
      have e4r:=ja e4
      have e5r:=ja e5
      have BW1:=d9 b1
      have hPI:∀ n os,PdIn (grow (redrawn W1 n) os) u p:=fun n os=>hu.keep (d8 (uh HB) (d8 b1 (below_regrown W1 n os)))
      have hN:=fun n os=>A4 u p (grow (redrawn W1 n) os) (hPI n os) (uh HS p (List.mem_of_getElem? hp))
      unfold Pv.val at hN
      have HX:=d9 hp
      clear c0 c1 c2 c3 c4 c5 w8 b1
      cases hn:pu p with
      | false =>
        rw [hn] at hN
        have HR:=d9 (show false=Fd K5 l from (Df hlt (by unfold qf;rw [Xb (uh HX),hn];rfl)).symm)
        clear hn hPI
        go_wp2
        skip
        clear HW1 g0 g1 g2 g3 g4 g5
        refine wp_region_quiet_below (by assumption) (by kernel_rfl) ?_
        repeat (go_big_quiet_step (first | (go_at_fn 129;refine Calls.regrown_of (hN _ _))))
        refine wpQuiet_nil ?_
        intro _ hw'
        obtain ⟨⟨dq,osq⟩,hw''⟩:=hw'
        subst hw''
        go_wp2
        go_ret
        exact ⟨jb (uh HR),uh (d9 (d8 (uh HB) (d8 (uh BW1) (below_regrown W1 dq osq))))⟩
      | true =>
        rw [hn] at hN
        by_cases hz:k=0
        · subst hz
          simp only [Nat.zero_mul,Nat.add_zero] at g0 g1 g2 g3 g4 g5
          have HT:=d9 (show qf K5 l 0=true by unfold qf;rw [Xb (uh HX),hn];rfl)
          clear hn hPI
          go_wp2
          skip
          clear HW1 g0 g1 g2 g3 g4 g5
          refine wp_region_quiet_below (by assumption) (by kernel_rfl) ?_
          repeat (go_big_quiet_step (first | (go_at_fn 129;refine Calls.regrown_of (hN _ _))))
          refine wpQuiet_nil ?_
          intro _ hw'
          obtain ⟨⟨dq,osq⟩,hw''⟩:=hw'
          subst hw''
          have BF:=d9 (d8 (uh HB) (d8 (uh BW1) (below_regrown W1 dq osq)))
          generalize grow (redrawn W1 dq) osq=V4 at BF ⊢
          go_wp2
          go_roundw
          case rel=>exact ⟨1,by omega,rfl,d9 (fun t ht=>by obtain rfl:t=0:=(by omega);exact uh HT),BF⟩
          case measure=>simp [intOf];omega
        · obtain ⟨j,rfl⟩:∃ j,k=j + 1:=⟨k - 1,by omega⟩
          obtain ⟨r,hr,_⟩:=je (l:=l) (k:=j) (by omega)
          obtain ⟨b',off',v,hq',hb',hv,d0,d1,d2,d3,d4,d5⟩:=(uh HH).at hr
          cases hq'
          have m0:=ja ((d8 (uh HB) (uh BW1)).cell (p:=⟨b,_,none⟩) hb |>.trans d0)
          have m1:=ja ((d8 (uh HB) (uh BW1)).cell (p:=⟨b,_,none⟩) hb |>.trans d1)
          have m2:=ja ((d8 (uh HB) (uh BW1)).cell (p:=⟨b,_,none⟩) hb |>.trans d2)
          have m3:=ja ((d8 (uh HB) (uh BW1)).cell (p:=⟨b,_,none⟩) hb |>.trans d3)
          have m4:=ja ((d8 (uh HB) (uh BW1)).cell (p:=⟨b,_,none⟩) hb |>.trans d4)
          have m5:=ja ((d8 (uh HB) (uh BW1)).cell (p:=⟨b,_,none⟩) hb |>.trans d5)
          have j0:(0:Int)<=(j:Int):=by omega
          have j1:(j:Int) < (l.length:Int):=by omega
          have j2:(j:Int)<=100000000:=by omega
          have j3:(0:Int) < (j:Int) + 1:=by omega
          have hO:=fun n os=>Bf v u (grow (redrawn W1 n) os)
          unfold Pv.val at hO
          have HY:=d9 hr
          have hat:qf K5 l (j + 1)=decide (K5 r p < 0):=by
            unfold qf
            rw [Xb (uh HX),hn,Nat.add_sub_cancel,Xb (uh HY)]
            simp
          obtain ⟨z,hzz⟩:∃ z,K5 r p=z:=⟨_,rfl⟩
          rw [hzz] at hat
          have hO':=hO
          have hzA:kp v.attr u.attr=z:=(by rw [hv.2.1,hu.2.1];exact hzz)
          simp only [hzA] at hO
          clear hO'
          by_cases hc:0<=z
          · have HR:=d9 (show false=Fd K5 l from (Df hlt (by rw [hat];simp;omega)).symm)
            clear hn hPI d0 d1 d2 d3 d4 d5 hat hzz
            go_wp2
            skip
            clear HW1 g0 g1 g2 g3 g4 g5
            refine wp_region_quiet_below (by assumption) (by kernel_rfl) ?_
            repeat (go_big_quiet_step (first | (go_at_fn 129;refine Calls.regrown_of (hN _ _)) | (go_at_fn 68;refine Calls.regrown_of (hO _ _))))
            refine wpQuiet_nil ?_
            intro _ hw'
            obtain ⟨⟨dq,osq⟩,hw''⟩:=hw'
            subst hw''
            go_wp2
            go_ret
            exact ⟨jb (uh HR),uh (d9 (d8 (uh HB) (d8 (uh BW1) (below_regrown W1 dq osq))))⟩
          · have HT:=d9 (show qf K5 l (j + 1)=true by rw [hat];simp;omega)
            clear hn hPI d0 d1 d2 d3 d4 d5 hat hzz
            go_wp2
            skip
            clear HW1 g0 g1 g2 g3 g4 g5
            refine wp_region_quiet_below (by assumption) (by kernel_rfl) ?_
            repeat (go_big_quiet_step (first | (go_at_fn 129;refine Calls.regrown_of (hN _ _)) | (go_at_fn 68;refine Calls.regrown_of (hO _ _))))
            refine wpQuiet_nil ?_
            intro _ hw'
            obtain ⟨⟨dq,osq⟩,hw''⟩:=hw'
            subst hw''
            have BF:=d9 (d8 (uh HB) (d8 (uh BW1) (below_regrown W1 dq osq)))
            generalize grow (redrawn W1 dq) osq=V4 at BF ⊢
            go_wp2
            go_roundw
            case rel=>exact ⟨j + 1 + 1,by omega,by go_num,d9 (fun t ht=>by
              by_cases e:t=j + 1
              · rw [e];exact uh HT
              · exact uh HA t (by omega)),BF⟩
            case measure=>simp [intOf];omega
    · have k1:¬ (k:Int) < (l.length:Int):=by omega
      have HR:=d9 (show true=Fd K5 l from (Ha (fun t ht=>uh HA t (by omega))).symm)
      go_wp2
      go_ret
      exact ⟨jb (uh HR),uh HB⟩
set_option maxHeartbeats 4000000 in
set_option maxRecDepth 100000 in
/-- conj.rising by pred. -/
theorem Fh (q:Option Addr) (c:Nat) (l:List Pd) (w:World) (h:PdsOf w q c l) (hs:Small l) (hl:l.length<=100000000) :
    Calls Tryz.prog 79 #[.slice q l.length c,.func (.func 20) #[] #[]] w fun e w'=>e=.returned (.bool (Fd pe l))/\Below w.heap.size w w':=by
  have mixed:Tryz.prog.follows .mixedOrders=true:=by kernel_rfl
  have en129:∀ args w,(callFunc 129 args).run Tryz.prog w=.ok (.enter 129 args) w:=enters_of Tryz.func129 (by kernel_rfl) rfl
  have en20:∀ args w,(callFunc 20 args).run Tryz.prog w=.ok (.enter 20 args) w:=enters_of Tryz.func20 (by kernel_rfl) rfl
  have i9:(l.length:Int)<=100000000:=by omega
  have HH:=d9 h
  have HS:=d9 hs
  clear h hs
  go_enter Tryz.func79,Tryz.ntmps79
  go_wp2
  go_loopw [9] (fun iv wr=>∃ k:Nat,k<=l.length/\iv=.int .i64 k/\Hid (∀ t,t < k->qf pe l t=true)/\Hid (Below w.heap.size w wr)) (fun iv _=>l.length - (intOf iv).toNat)
  case atStart=>exact ⟨0,Nat.zero_le _,rfl,d9 (fun t ht=>absurd ht (by omega)),d9 (Below.refl _ _)⟩
  case round =>
    obtain ⟨k,hk,rfl,HA,HB⟩:=hrel
    by_cases hlt:k < l.length
    · obtain ⟨p,hp,_⟩:=je hlt
      obtain ⟨b,off,u,hq,hb,hu,c0,c1,c2,c3,c4,c5⟩:=(uh HH).at hp
      subst hq
      have g0:=((uh HB).cell (p:=⟨b,_,none⟩) hb).trans c0
      have g1:=((uh HB).cell (p:=⟨b,_,none⟩) hb).trans c1
      have g2:=((uh HB).cell (p:=⟨b,_,none⟩) hb).trans c2
      have g3:=((uh HB).cell (p:=⟨b,_,none⟩) hb).trans c3
      have g4:=((uh HB).cell (p:=⟨b,_,none⟩) hb).trans c4
      have g5:=((uh HB).cell (p:=⟨b,_,none⟩) hb).trans c5
      have k0:(0:Int)<=(k:Int):=by omega
      have k1:(k:Int) < (l.length:Int):=by omega
      obtain ⟨W1,HW1⟩:∃ W1,wr.alloc (.cells #[.int .i64 u.kind,.string u.attr,.slice u.qi u.ni u.ci,.slice u.qw u.nw u.cw,.int .i64 u.lo,.int .i64 u.hi] 26)=W1:=⟨_,rfl⟩
      have b1:Below wr.heap.size wr W1:=by rw [<- HW1];exact (Below.refl _ _).alloc (Nat.le_refl _) _
      have w8:W1.heap[wr.heap.size]? = some (.cells #[.int .i64 u.kind,.string u.attr,.slice u.qi u.ni u.ci,.slice u.qw u.nw u.cw,.int .i64 u.lo,.int .i64 u.hi] 26 (0,0)):=by rw [<- HW1];exact World.alloc_heap_new _ _
      have lW:wr.heap.size < W1.heap.size:=(Array.getElem?_eq_some_iff.1 w8).1
      obtain ⟨e0,e1,e2,e3,e4,e5⟩:=kq w8
      have e0r:=ja e0
      have e1r:=ja e1
      have e2r:=ja e2
      have e3r:=ja e3
      have e4r:=ja e4
      have e5r:=ja e5
      have BW1:=d9 b1
      have hPI:∀ n os,PdIn (grow (redrawn W1 n) os) u p:=fun n os=>hu.keep (d8 (uh HB) (d8 b1 (below_regrown W1 n os)))
      have hN:=fun n os=>A4 u p (grow (redrawn W1 n) os) (hPI n os) (uh HS p (List.mem_of_getElem? hp))
      unfold Pv.val at hN
      have HX:=d9 hp
      clear c0 c1 c2 c3 c4 c5 w8 b1
      cases hn:pu p with
      | false =>
        rw [hn] at hN
        have HR:=d9 (show false=Fd pe l from (Df hlt (by unfold qf;rw [Xb (uh HX),hn];rfl)).symm)
        clear hn hPI
        go_wp2
        skip
        clear HW1 g0 g1 g2 g3 g4 g5
        refine wp_region_quiet_below (by assumption) (by kernel_rfl) ?_
        repeat (go_big_quiet_step (first | (go_at_fn 129;refine Calls.regrown_of (hN _ _))))
        refine wpQuiet_nil ?_
        intro _ hw'
        obtain ⟨⟨dq,osq⟩,hw''⟩:=hw'
        subst hw''
        go_wp2
        go_ret
        exact ⟨jb (uh HR),uh (d9 (d8 (uh HB) (d8 (uh BW1) (below_regrown W1 dq osq))))⟩
      | true =>
        rw [hn] at hN
        by_cases hz:k=0
        · subst hz
          simp only [Nat.zero_mul,Nat.add_zero] at g0 g1 g2 g3 g4 g5
          have HT:=d9 (show qf pe l 0=true by unfold qf;rw [Xb (uh HX),hn];rfl)
          clear hn hPI
          go_wp2
          skip
          clear HW1 g0 g1 g2 g3 g4 g5
          refine wp_region_quiet_below (by assumption) (by kernel_rfl) ?_
          repeat (go_big_quiet_step (first | (go_at_fn 129;refine Calls.regrown_of (hN _ _))))
          refine wpQuiet_nil ?_
          intro _ hw'
          obtain ⟨⟨dq,osq⟩,hw''⟩:=hw'
          subst hw''
          have BF:=d9 (d8 (uh HB) (d8 (uh BW1) (below_regrown W1 dq osq)))
          generalize grow (redrawn W1 dq) osq=V4 at BF ⊢
          go_wp2
          go_roundw
          case rel=>exact ⟨1,by omega,rfl,d9 (fun t ht=>by obtain rfl:t=0:=(by omega);exact uh HT),BF⟩
          case measure=>simp [intOf];omega
        · obtain ⟨j,rfl⟩:∃ j,k=j + 1:=⟨k - 1,by omega⟩
          obtain ⟨r,hr,_⟩:=je (l:=l) (k:=j) (by omega)
          obtain ⟨b',off',v,hq',hb',hv,d0,d1,d2,d3,d4,d5⟩:=(uh HH).at hr
          cases hq'
          have m0:=ja ((d8 (uh HB) (uh BW1)).cell (p:=⟨b,_,none⟩) hb |>.trans d0)
          have m1:=ja ((d8 (uh HB) (uh BW1)).cell (p:=⟨b,_,none⟩) hb |>.trans d1)
          have m2:=ja ((d8 (uh HB) (uh BW1)).cell (p:=⟨b,_,none⟩) hb |>.trans d2)
          have m3:=ja ((d8 (uh HB) (uh BW1)).cell (p:=⟨b,_,none⟩) hb |>.trans d3)
          have m4:=ja ((d8 (uh HB) (uh BW1)).cell (p:=⟨b,_,none⟩) hb |>.trans d4)
          have m5:=ja ((d8 (uh HB) (uh BW1)).cell (p:=⟨b,_,none⟩) hb |>.trans d5)
          have j0:(0:Int)<=(j:Int):=by omega
          have j1:(j:Int) < (l.length:Int):=by omega
          have j2:(j:Int)<=100000000:=by omega
          have j3:(0:Int) < (j:Int) + 1:=by omega
          have hO:=fun n os=>yn v u r p (grow (redrawn W1 n) os) (hv.keep (d8 (uh HB) (d8 (uh BW1) (below_regrown W1 n os)))) (hPI n os) (uh HS r (List.mem_of_getElem? hr))
          unfold Pv.val at hO
          have HY:=d9 hr
          have hat:qf pe l (j + 1)=decide (pe r p < 0):=by
            unfold qf
            rw [Xb (uh HX),hn,Nat.add_sub_cancel,Xb (uh HY)]
            simp
          obtain ⟨z,hzz⟩:∃ z,pe r p=z:=⟨_,rfl⟩
          rw [hzz] at hat
          have hO':=hO
          skip
          simp only [hzz] at hO
          clear hO'
          by_cases hc:0<=z
          · have HR:=d9 (show false=Fd pe l from (Df hlt (by rw [hat];simp;omega)).symm)
            clear hn hPI d0 d1 d2 d3 d4 d5 hat hzz
            go_wp2
            skip
            clear HW1 g0 g1 g2 g3 g4 g5
            refine wp_region_quiet_below (by assumption) (by kernel_rfl) ?_
            repeat (go_big_quiet_step (first | (go_at_fn 129;refine Calls.regrown_of (hN _ _)) | (go_at_fn 20;refine Calls.regrown_of (hO _ _))))
            refine wpQuiet_nil ?_
            intro _ hw'
            obtain ⟨⟨dq,osq⟩,hw''⟩:=hw'
            subst hw''
            go_wp2
            go_ret
            exact ⟨jb (uh HR),uh (d9 (d8 (uh HB) (d8 (uh BW1) (below_regrown W1 dq osq))))⟩
          · have HT:=d9 (show qf pe l (j + 1)=true by rw [hat];simp;omega)
            clear hn hPI d0 d1 d2 d3 d4 d5 hat hzz
            go_wp2
            skip
            clear HW1 g0 g1 g2 g3 g4 g5
            refine wp_region_quiet_below (by assumption) (by kernel_rfl) ?_
            repeat (go_big_quiet_step (first | (go_at_fn 129;refine Calls.regrown_of (hN _ _)) | (go_at_fn 20;refine Calls.regrown_of (hO _ _))))
            refine wpQuiet_nil ?_
            intro _ hw'
            obtain ⟨⟨dq,osq⟩,hw''⟩:=hw'
            subst hw''
            have BF:=d9 (d8 (uh HB) (d8 (uh BW1) (below_regrown W1 dq osq)))
            generalize grow (redrawn W1 dq) osq=V4 at BF ⊢
            go_wp2
            go_roundw
            case rel=>exact ⟨j + 1 + 1,by omega,by go_num,d9 (fun t ht=>by
              by_cases e:t=j + 1
              · rw [e];exact uh HT
              · exact uh HA t (by omega)),BF⟩
            case measure=>simp [intOf];omega
    · have k1:¬ (k:Int) < (l.length:Int):=by omega
      have HR:=d9 (show true=Fd pe l from (Ha (fun t ht=>uh HA t (by omega))).symm)
      go_wp2
      go_ret
      exact ⟨jb (uh HR),uh HB⟩
end Go.Proofs.YtimklglliffpcaaGreat
namespace Go.Proofs.YtimklglliffpcaaGreat
open Go.RowKit Go.Sort Go.Shelf
def px (nv:Bool) (lp ln:List Pd):Bool:=if nv then (lp.length == 0 && ln.length == 0) else Fd K5 lp && Fd pe ln
def qu (nv:Bool) (lp ln:List Pd):Int:=if px nv lp ln then 0 else 1
theorem Fj {w:World} {M:Nat} {a0 a1 a2:Value} {T:TypeId} (h:w.heap[M]? = some (.cells #[a0,a1,a2] T (0,0))):w.cell? ⟨M,0,none⟩=some a0/\w.cell? ⟨M,1,none⟩=some a1/\w.cell? ⟨M,2,none⟩=some a2:=by
 unfold World.cell?
 simp [h]
theorem zc8 (w:World) (a0 a1 a2:Value) (T:TypeId):∃ X,w.alloc (.cells #[a0,a1,a2] T)=X/\Below w.heap.size w X/\X.heap[w.heap.size]? = some (.cells #[a0,a1,a2] T (0,0)) :=
 ⟨_,rfl,(Below.refl _ _).alloc (Nat.le_refl _) _,World.alloc_heap_new _ _⟩
/-- conj.Count. -/
theorem Jw (nv:Bool) (qp qn:Option Addr) (cp cn:Nat) (np nn:Nat) (w:World) :
    Calls Tryz.prog 30 #[.agg #[.bool nv,.slice qp np cp,.slice qn nn cn]] w fun e w'=>e=.returned (.int .i64 np)/\Below w.heap.size w w':=by
  obtain ⟨X,HX,bX,x8⟩:=zc8 w (.bool nv) (.slice qp np cp) (.slice qn nn cn) 39
  obtain ⟨x0,x1,x2⟩:=Fj x8
  have BX:=d9 bX
  clear bX x8
  go_enter Tryz.func30,Tryz.ntmps30
  go_wp2
  go_ret
  exact ⟨rfl,uh BX⟩
set_option maxHeartbeats 4000000 in
set_option maxRecDepth 100000 in
/-- conj.Check. -/
theorem Ku (nv:Bool) (qp qn:Option Addr) (cp cn:Nat) (lp ln:List Pd) (w:World) (hp:PdsOf w qp cp lp) (hn:PdsOf w qn cn ln) (sp:Small lp) (sn:Small ln) (ip:lp.length<=100000000) (iN:ln.length<=100000000) :
    Calls Tryz.prog 29 #[.agg #[.bool nv,.slice qp lp.length cp,.slice qn ln.length cn]] w fun e w'=>e=.returned (.int .i64 (qu nv lp ln))/\Below w.heap.size w w':=by
  obtain ⟨X,HX,bX,x8⟩:=zc8 w (.bool nv) (.slice qp lp.length cp) (.slice qn ln.length cn) 39
  obtain ⟨x0,x1,x2⟩:=Fj x8
  have lX:w.heap.size < X.heap.size:=(Array.getElem?_eq_some_iff.1 x8).1
  have hA:=Fm qp cp lp X (hp.below bX) sp ip
  have hB:∀ w1,Below X.heap.size X w1->_:=fun w1 b1=>Fh qn cn ln w1 (hn.below (d8 bX b1)) sn iN
  have BX:=d9 bX
  clear bX x8 hp hn sp sn
  cases nv with
  | true =>
    by_cases zp:lp.length=0
    · have zpd:(lp.length == 0)=true:=by simp [zp]
      have zpi:((lp.length:Int) == 0)=true:=by simp [zp]
      by_cases zn:ln.length=0
      · have znd:(ln.length == 0)=true:=by simp [zn]
        have zni:((ln.length:Int) == 0)=true:=by simp [zn]
        have HG:=d9 (show 0=qu true lp ln by simp [qu,px,zpd,znd])
        clear zpd znd zp zn hA hB
        go_enter Tryz.func29,Tryz.ntmps29
        go_wp2
        go_ret
        exact ⟨jg (uh HG),uh BX⟩
      · have znd:(ln.length == 0)=false:=by simp [zn]
        have zni:((ln.length:Int) == 0)=false:=by simp [zn]
        have HG:=d9 (show 1=qu true lp ln by simp [qu,px,zpd,znd])
        clear zpd znd zp zn hA hB
        go_enter Tryz.func29,Tryz.ntmps29
        go_wp2
        go_ret
        exact ⟨jg (uh HG),uh BX⟩
    · have zpd:(lp.length == 0)=false:=by simp [zp]
      have zpi:((lp.length:Int) == 0)=false:=by simp [zp]
      by_cases zn:ln.length=0
      · have znd:(ln.length == 0)=true:=by simp [zn]
        have zni:((ln.length:Int) == 0)=true:=by simp [zn]
        have HG:=d9 (show 1=qu true lp ln by simp [qu,px,zpd])
        clear zpd znd zp zn hA hB
        go_enter Tryz.func29,Tryz.ntmps29
        go_wp2
        go_ret
        exact ⟨jg (uh HG),uh BX⟩
      · have znd:(ln.length == 0)=false:=by simp [zn]
        have zni:((ln.length:Int) == 0)=false:=by simp [zn]
        have HG:=d9 (show 1=qu true lp ln by simp [qu,px,zpd])
        clear zpd znd zp zn hA hB
        go_enter Tryz.func29,Tryz.ntmps29
        go_wp2
        go_ret
        exact ⟨jg (uh HG),uh BX⟩
  | false =>
    obtain ⟨a,ha⟩:∃ a,Fd K5 lp=a:=⟨_,rfl⟩
    obtain ⟨b,hb⟩:∃ b,Fd pe ln=b:=⟨_,rfl⟩
    rw [ha] at hA
    simp only [hb] at hB
    by_cases zp:lp.length=0
    · have zpd:(lp.length == 0)=true:=by simp [zp]
      have zpi:((lp.length:Int) == 0)=true:=by simp [zp]
      by_cases zn:ln.length=0
      · have znd:(ln.length == 0)=true:=by simp [zn]
        have zni:((ln.length:Int) == 0)=true:=by simp [zn]
        cases a with
        | false =>
          cases b with
          | false =>
            have HG:=d9 (show 1=qu false lp ln by simp [qu,px,ha,hb])
            clear zpd znd zp zn ha hb
            go_enter Tryz.func29,Tryz.ntmps29
            go_wp2_with (go_at_call 79;first | (refine hA.mono ?_;rintro e w1 ⟨rfl,b1⟩;have n2:=(b1.cell (p:=⟨w.heap.size,2,none⟩) lX).trans x2;have hB':=hB w1 b1;have B1:=d9 b1;clear b1 hA hB) | (refine hB'.mono ?_;rintro e w2 ⟨rfl,b2⟩;have B2:=d9 b2;clear b2))
            go_ret
            exact ⟨jg (uh HG),d8 (uh BX) (uh B1)⟩
          | true =>
            have HG:=d9 (show 1=qu false lp ln by simp [qu,px,ha,hb])
            clear zpd znd zp zn ha hb
            go_enter Tryz.func29,Tryz.ntmps29
            go_wp2_with (go_at_call 79;first | (refine hA.mono ?_;rintro e w1 ⟨rfl,b1⟩;have n2:=(b1.cell (p:=⟨w.heap.size,2,none⟩) lX).trans x2;have hB':=hB w1 b1;have B1:=d9 b1;clear b1 hA hB) | (refine hB'.mono ?_;rintro e w2 ⟨rfl,b2⟩;have B2:=d9 b2;clear b2))
            go_ret
            exact ⟨jg (uh HG),d8 (uh BX) (uh B1)⟩
        | true =>
          cases b with
          | false =>
            have HG:=d9 (show 1=qu false lp ln by simp [qu,px,ha,hb])
            clear zpd znd zp zn ha hb
            go_enter Tryz.func29,Tryz.ntmps29
            go_wp2_with (go_at_call 79;first | (refine hA.mono ?_;rintro e w1 ⟨rfl,b1⟩;have n2:=(b1.cell (p:=⟨w.heap.size,2,none⟩) lX).trans x2;have hB':=hB w1 b1;have B1:=d9 b1;clear b1 hA hB) | (refine hB'.mono ?_;rintro e w2 ⟨rfl,b2⟩;have B2:=d9 b2;clear b2))
            go_ret
            exact ⟨jg (uh HG),d8 (uh BX) (d8 (uh B1) (uh B2))⟩
          | true =>
            have HG:=d9 (show 0=qu false lp ln by simp [qu,px,ha,hb])
            clear zpd znd zp zn ha hb
            go_enter Tryz.func29,Tryz.ntmps29
            go_wp2_with (go_at_call 79;first | (refine hA.mono ?_;rintro e w1 ⟨rfl,b1⟩;have n2:=(b1.cell (p:=⟨w.heap.size,2,none⟩) lX).trans x2;have hB':=hB w1 b1;have B1:=d9 b1;clear b1 hA hB) | (refine hB'.mono ?_;rintro e w2 ⟨rfl,b2⟩;have B2:=d9 b2;clear b2))
            go_ret
            exact ⟨jg (uh HG),d8 (uh BX) (d8 (uh B1) (uh B2))⟩
      · have znd:(ln.length == 0)=false:=by simp [zn]
        have zni:((ln.length:Int) == 0)=false:=by simp [zn]
        cases a with
        | false =>
          cases b with
          | false =>
            have HG:=d9 (show 1=qu false lp ln by simp [qu,px,ha,hb])
            clear zpd znd zp zn ha hb
            go_enter Tryz.func29,Tryz.ntmps29
            go_wp2_with (go_at_call 79;first | (refine hA.mono ?_;rintro e w1 ⟨rfl,b1⟩;have n2:=(b1.cell (p:=⟨w.heap.size,2,none⟩) lX).trans x2;have hB':=hB w1 b1;have B1:=d9 b1;clear b1 hA hB) | (refine hB'.mono ?_;rintro e w2 ⟨rfl,b2⟩;have B2:=d9 b2;clear b2))
            go_ret
            exact ⟨jg (uh HG),d8 (uh BX) (uh B1)⟩
          | true =>
            have HG:=d9 (show 1=qu false lp ln by simp [qu,px,ha,hb])
            clear zpd znd zp zn ha hb
            go_enter Tryz.func29,Tryz.ntmps29
            go_wp2_with (go_at_call 79;first | (refine hA.mono ?_;rintro e w1 ⟨rfl,b1⟩;have n2:=(b1.cell (p:=⟨w.heap.size,2,none⟩) lX).trans x2;have hB':=hB w1 b1;have B1:=d9 b1;clear b1 hA hB) | (refine hB'.mono ?_;rintro e w2 ⟨rfl,b2⟩;have B2:=d9 b2;clear b2))
            go_ret
            exact ⟨jg (uh HG),d8 (uh BX) (uh B1)⟩
        | true =>
          cases b with
          | false =>
            have HG:=d9 (show 1=qu false lp ln by simp [qu,px,ha,hb])
            clear zpd znd zp zn ha hb
            go_enter Tryz.func29,Tryz.ntmps29
            go_wp2_with (go_at_call 79;first | (refine hA.mono ?_;rintro e w1 ⟨rfl,b1⟩;have n2:=(b1.cell (p:=⟨w.heap.size,2,none⟩) lX).trans x2;have hB':=hB w1 b1;have B1:=d9 b1;clear b1 hA hB) | (refine hB'.mono ?_;rintro e w2 ⟨rfl,b2⟩;have B2:=d9 b2;clear b2))
            go_ret
            exact ⟨jg (uh HG),d8 (uh BX) (d8 (uh B1) (uh B2))⟩
          | true =>
            have HG:=d9 (show 0=qu false lp ln by simp [qu,px,ha,hb])
            clear zpd znd zp zn ha hb
            go_enter Tryz.func29,Tryz.ntmps29
            go_wp2_with (go_at_call 79;first | (refine hA.mono ?_;rintro e w1 ⟨rfl,b1⟩;have n2:=(b1.cell (p:=⟨w.heap.size,2,none⟩) lX).trans x2;have hB':=hB w1 b1;have B1:=d9 b1;clear b1 hA hB) | (refine hB'.mono ?_;rintro e w2 ⟨rfl,b2⟩;have B2:=d9 b2;clear b2))
            go_ret
            exact ⟨jg (uh HG),d8 (uh BX) (d8 (uh B1) (uh B2))⟩
    · have zpd:(lp.length == 0)=false:=by simp [zp]
      have zpi:((lp.length:Int) == 0)=false:=by simp [zp]
      by_cases zn:ln.length=0
      · have znd:(ln.length == 0)=true:=by simp [zn]
        have zni:((ln.length:Int) == 0)=true:=by simp [zn]
        cases a with
        | false =>
          cases b with
          | false =>
            have HG:=d9 (show 1=qu false lp ln by simp [qu,px,ha,hb])
            clear zpd znd zp zn ha hb
            go_enter Tryz.func29,Tryz.ntmps29
            go_wp2_with (go_at_call 79;first | (refine hA.mono ?_;rintro e w1 ⟨rfl,b1⟩;have n2:=(b1.cell (p:=⟨w.heap.size,2,none⟩) lX).trans x2;have hB':=hB w1 b1;have B1:=d9 b1;clear b1 hA hB) | (refine hB'.mono ?_;rintro e w2 ⟨rfl,b2⟩;have B2:=d9 b2;clear b2))
            go_ret
            exact ⟨jg (uh HG),d8 (uh BX) (uh B1)⟩
          | true =>
            have HG:=d9 (show 1=qu false lp ln by simp [qu,px,ha,hb])
            clear zpd znd zp zn ha hb
            go_enter Tryz.func29,Tryz.ntmps29
            go_wp2_with (go_at_call 79;first | (refine hA.mono ?_;rintro e w1 ⟨rfl,b1⟩;have n2:=(b1.cell (p:=⟨w.heap.size,2,none⟩) lX).trans x2;have hB':=hB w1 b1;have B1:=d9 b1;clear b1 hA hB) | (refine hB'.mono ?_;rintro e w2 ⟨rfl,b2⟩;have B2:=d9 b2;clear b2))
            go_ret
            exact ⟨jg (uh HG),d8 (uh BX) (uh B1)⟩
        | true =>
          cases b with
          | false =>
            have HG:=d9 (show 1=qu false lp ln by simp [qu,px,ha,hb])
            clear zpd znd zp zn ha hb
            go_enter Tryz.func29,Tryz.ntmps29
            go_wp2_with (go_at_call 79;first | (refine hA.mono ?_;rintro e w1 ⟨rfl,b1⟩;have n2:=(b1.cell (p:=⟨w.heap.size,2,none⟩) lX).trans x2;have hB':=hB w1 b1;have B1:=d9 b1;clear b1 hA hB) | (refine hB'.mono ?_;rintro e w2 ⟨rfl,b2⟩;have B2:=d9 b2;clear b2))
            go_ret
            exact ⟨jg (uh HG),d8 (uh BX) (d8 (uh B1) (uh B2))⟩
          | true =>
            have HG:=d9 (show 0=qu false lp ln by simp [qu,px,ha,hb])
            clear zpd znd zp zn ha hb
            go_enter Tryz.func29,Tryz.ntmps29
            go_wp2_with (go_at_call 79;first | (refine hA.mono ?_;rintro e w1 ⟨rfl,b1⟩;have n2:=(b1.cell (p:=⟨w.heap.size,2,none⟩) lX).trans x2;have hB':=hB w1 b1;have B1:=d9 b1;clear b1 hA hB) | (refine hB'.mono ?_;rintro e w2 ⟨rfl,b2⟩;have B2:=d9 b2;clear b2))
            go_ret
            exact ⟨jg (uh HG),d8 (uh BX) (d8 (uh B1) (uh B2))⟩
      · have znd:(ln.length == 0)=false:=by simp [zn]
        have zni:((ln.length:Int) == 0)=false:=by simp [zn]
        cases a with
        | false =>
          cases b with
          | false =>
            have HG:=d9 (show 1=qu false lp ln by simp [qu,px,ha,hb])
            clear zpd znd zp zn ha hb
            go_enter Tryz.func29,Tryz.ntmps29
            go_wp2_with (go_at_call 79;first | (refine hA.mono ?_;rintro e w1 ⟨rfl,b1⟩;have n2:=(b1.cell (p:=⟨w.heap.size,2,none⟩) lX).trans x2;have hB':=hB w1 b1;have B1:=d9 b1;clear b1 hA hB) | (refine hB'.mono ?_;rintro e w2 ⟨rfl,b2⟩;have B2:=d9 b2;clear b2))
            go_ret
            exact ⟨jg (uh HG),d8 (uh BX) (uh B1)⟩
          | true =>
            have HG:=d9 (show 1=qu false lp ln by simp [qu,px,ha,hb])
            clear zpd znd zp zn ha hb
            go_enter Tryz.func29,Tryz.ntmps29
            go_wp2_with (go_at_call 79;first | (refine hA.mono ?_;rintro e w1 ⟨rfl,b1⟩;have n2:=(b1.cell (p:=⟨w.heap.size,2,none⟩) lX).trans x2;have hB':=hB w1 b1;have B1:=d9 b1;clear b1 hA hB) | (refine hB'.mono ?_;rintro e w2 ⟨rfl,b2⟩;have B2:=d9 b2;clear b2))
            go_ret
            exact ⟨jg (uh HG),d8 (uh BX) (uh B1)⟩
        | true =>
          cases b with
          | false =>
            have HG:=d9 (show 1=qu false lp ln by simp [qu,px,ha,hb])
            clear zpd znd zp zn ha hb
            go_enter Tryz.func29,Tryz.ntmps29
            go_wp2_with (go_at_call 79;first | (refine hA.mono ?_;rintro e w1 ⟨rfl,b1⟩;have n2:=(b1.cell (p:=⟨w.heap.size,2,none⟩) lX).trans x2;have hB':=hB w1 b1;have B1:=d9 b1;clear b1 hA hB) | (refine hB'.mono ?_;rintro e w2 ⟨rfl,b2⟩;have B2:=d9 b2;clear b2))
            go_ret
            exact ⟨jg (uh HG),d8 (uh BX) (d8 (uh B1) (uh B2))⟩
          | true =>
            have HG:=d9 (show 0=qu false lp ln by simp [qu,px,ha,hb])
            clear zpd znd zp zn ha hb
            go_enter Tryz.func29,Tryz.ntmps29
            go_wp2_with (go_at_call 79;first | (refine hA.mono ?_;rintro e w1 ⟨rfl,b1⟩;have n2:=(b1.cell (p:=⟨w.heap.size,2,none⟩) lX).trans x2;have hB':=hB w1 b1;have B1:=d9 b1;clear b1 hA hB) | (refine hB'.mono ?_;rintro e w2 ⟨rfl,b2⟩;have B2:=d9 b2;clear b2))
            go_ret
            exact ⟨jg (uh HG),d8 (uh BX) (d8 (uh B1) (uh B2))⟩
end Go.Proofs.YtimklglliffpcaaGreat
namespace Go.Proofs.YtimklglliffpcaaGreat
open Go.RowKit Go.Sort
/-- P holds here, and wherever, from the block B on, only the block g was written since. -/
def OffP (B:Nat) (P:World->Prop) (g:Option Nat) (w:World):Prop:=∀ w':World,w.heap.size<=w'.heap.size->(∀ b o,B<=b->b < w.heap.size->some b ≠ g->w'.cell? ⟨b,o,none⟩=w.cell? ⟨b,o,none⟩)->P w'
theorem OffP.now {B:Nat} {P:World->Prop} {g:Option Nat} {w:World} (h:OffP B P g w):P w:=h w (Nat.le_refl _) fun _ _ _ _ _=>rfl
theorem OffP.imp {B:Nat} {P Q:World->Prop} {g:Option Nat} {w:World} (h:OffP B P g w) (hi:∀ w,P w->Q w):OffP B Q g w:=fun w' hs hc=>hi _ (h w' hs hc)
theorem OffP.and {B:Nat} {P Q:World->Prop} {g:Option Nat} {w:World} (h:OffP B P g w) (k:OffP B Q g w):OffP B (fun w=>P w/\Q w) g w:=fun w' hs hc=>⟨h w' hs hc,k w' hs hc⟩
theorem OffP.below {B:Nat} {P:World->Prop} {g:Option Nat} {w w':World} (h:OffP B P g w) (hb:Below w.heap.size w w'):OffP B P g w':=fun w'' hs hc =>
 h w'' (Nat.le_trans hb.size hs) fun b o hB hlt hne=>(hc b o hB (Nat.lt_of_lt_of_le hlt hb.size) hne).trans (hb.cell (p:=⟨b,o,none⟩) hlt)
theorem OffP.step {B:Nat} {P:World->Prop} {g g':Option Nat} {w w':World} (h:OffP B P g w) (hg:w.grownBy w' g) (hor:g'=g ∨ g'=some w.heap.size):OffP B P g' w':=fun w'' hs hc =>
 h w'' (Nat.le_trans hg.size hs) fun b o hB hlt hne=>(hc b o hB (Nat.lt_of_lt_of_le hlt hg.size) (hor.elim (fun e=>by rw [e];exact hne) (fun e=>by rw [e];intro e2;cases e2;omega))).trans (World.cell?_of_block (w:=w) (a:=⟨b,o,none⟩) (hg.block b hlt hne))
theorem OffP.set {B:Nat} {P:World->Prop} {g:Option Nat} {w:World} (h:OffP B P g w) {p:Addr} (hp:p.block < B) (u:Value):OffP B P g (w.setCell p u):=fun w'' hs hc =>
 h w'' (by simpa using hs) fun b o hB hlt hne=>(hc b o hB (by simpa using hlt) hne).trans (World.cell?_of_block (w:=w) (a:=⟨b,o,none⟩) (Below.heap_setCell w p u b (by show b ≠ p.block;omega)))
theorem OffP.from {B:Nat} {w:World} {C:Nat} {v:Nv} {x:Nd} {g:Option Nat} (h:NdFrom w C v x) (hB:B<=C) (hg:∀ b,g=some b->b < C):OffP B (fun w=>NdFrom w C v x) g w:=fun _ hs hc =>
 h.up ⟨hs,fun b o hb hlt=>hc b o (by omega) hlt fun e=>by have:=hg b e.symm;omega⟩
theorem Hf {Q:Nv->Nd->Prop} {kids:List Nd} {us:List Nv} {v:Nv} {x:Nd} {k:Nat} (h:∀ (j:Nat) (v:Nv) (x:Nd),us[j]? = some v->kids[j]? = some x->Q v x) (hu:us.length=k) (hx:kids[k]? = some x) (sp:Q v x):∀ (j:Nat) (y:Nv) (z:Nd),(us ++ [v])[j]? = some y->kids[j]? = some z->Q y z:=by
 intro j y z hj hz
 by_cases hjk:j < k
 ·rw [List.getElem?_append_left (by omega)] at hj
  exact h j y z hj hz
 ·have hj2:=(List.getElem?_eq_some_iff.1 hj).1
  rw [List.length_append,hu] at hj2
  obtain rfl:j=k:=by simp at hj2;omega
  rw [List.getElem?_append_right (by omega),hu,Nat.sub_self] at hj
  rw [hx] at hz
  cases hj
  cases hz
  exact sp
def MineIn (B:Nat) (kids:List Nd) (us:List Nv) (w:World):Prop:=∀ (j:Nat) (v:Nv) (x:Nd),us[j]? = some v->kids[j]? = some x->SpIn w B v x
theorem MineIn.snoc {B:Nat} {kids:List Nd} {us:List Nv} {w:World} {v:Nv} {x:Nd} {k:Nat} (h:MineIn B kids us w) (hu:us.length=k) (hx:kids[k]? = some x) (sp:SpIn w B v x):MineIn B kids (us ++ [v]) w:=Hf h hu hx sp
def Bl (B:Nat) (kids:List Nd) (us:List Nv) (w:World):Prop:=∀ (j:Nat) (v:Nv) (x:Nd),us[j]? = some v->kids[j]? = some x->NdFrom w B v x
theorem OwnK.ownLt {B c k:Nat} {w:World} {q:Option Addr} {l:List Nv} (h:OwnK rb 56 8 B w q c l) (hl:l.length=k):∀ b,(Value.slice q k c).ownBlock=some b->b < w.heap.size:=fun b e=>by
 subst hl
 exact (World.ownsRow.lt h b e).2
theorem OwnK.ownGe {B c k:Nat} {w:World} {q:Option Addr} {l:List Nv} (h:OwnK rb 56 8 B w q c l) (hl:l.length=k):∀ b,(Value.slice q k c).ownBlock=some b->B<=b:=fun b e=>by
 subst hl
 exact (World.ownsRow.lt h b e).1
section
variable {α : Type} [Inhabited α] {enc : α -> List Value} {t e : TypeId} {k bytes : Nat}
/-- append, with where the answer's block is. -/
theorem Nw (R:RowOf enc t e k bytes) {o:Oper} {a:Act} {w:World} {K:Act->World->Prop} {Q:Exit->Act->World->Prop} (s x:Operand)
    (ho:o.op=.call { callee:=.builtin .append,args:=#[s,x],argTypes:=#[t,t] }) (B:Nat) (q:Option Addr) (cap:Nat) (l:List α) (ad:Addr) (c:Nat) (m:List α) (n n' N:Nat) (hn:l.length=n) (hn':m.length=n') (hN:n + n'=N)
    (es:a.eval s=.slice q n cap) (ex:a.eval x=.slice (some ad) n' c) (hown:OwnK enc e k B w q cap l) (hs:Cg enc k w (some ad) c m) (hm:N<=maxLen) (hb:N * bytes<=140737488355328) (hB:B<=w.heap.size)
    (h:∀ q' cap' w',OwnK enc e k B w' q' cap' (l ++ m)->Below B w w'->w.grownBy w' (Value.slice q n cap).ownBlock->((Value.slice q' N cap').ownBlock=(Value.slice q n cap).ownBlock ∨ (Value.slice q' N cap').ownBlock=some w.heap.size)->K (a.put o.dst (.slice q' N cap')) w'):o.wp Tryz.prog a w K Q:=by
  subst hn hn' hN
  obtain ⟨i0,z,hi,hz,hsz,hby,hzs⟩:=R.info
  obtain ⟨v',w',hr,hO,hg,hnil,hor⟩:=run_append_own_at (P:=Tryz.prog) w B t o.type e i0 z k bytes R.und hi hz hsz hby hzs R.pos _ _ _ hown ad m.length c (flatK enc k m.toArray).toList (by simp) (hs.2 ad rfl) (R.one m) hm hb hB
  obtain ⟨q',cap',rfl,hq⟩:=OwnK.shape hO
  unfold Oper.wp execOp
  simp only [ho,resolve,invoke,builtin,Sem.run_bind,Sem.run_pure,Result.andThen_ok,List.map_toArray,List.map_cons,List.map_nil,es,ex,hr]
  refine h q' cap' w' ?_ ((Below.refl _ _).grown hg hB fun j hj=>(World.ownsRow.lt hown j hj).1) hg hor
  unfold OwnK
  rw [ma enc k R.pos,List.length_append]
  exact hO
theorem nr (R:RowOf enc t e k bytes) {ops:Array Oper} {rest:List Oper} {o:Oper} {a:Act} {w:World} {Q:Exit->Act->World->Prop} (hgd:o.guard=none) (s x:Operand)
    (ho:o.op=.call { callee:=.builtin .append,args:=#[s,x],argTypes:=#[t,t] }) (B:Nat) (q:Option Addr) (cap:Nat) (l:List α) (ad:Addr) (c:Nat) (m:List α) (n n' N:Nat) (hn:l.length=n) (hn':m.length=n') (hN:n + n'=N)
    (es:a.eval s=.slice q n cap) (ex:a.eval x=.slice (some ad) n' c) (hown:OwnK enc e k B w q cap l) (hs:Cg enc k w (some ad) c m) (hm:N<=maxLen) (hb:N * bytes<=140737488355328) (hB:B<=w.heap.size)
    (h:∀ q' cap' w',OwnK enc e k B w' q' cap' (l ++ m)->Below B w w'->w.grownBy w' (Value.slice q n cap).ownBlock->((Value.slice q' N cap').ownBlock=(Value.slice q n cap).ownBlock ∨ (Value.slice q' N cap').ownBlock=some w.heap.size)->wpList Tryz.prog ops Q rest (a.put o.dst (.slice q' N cap')) w'):wpList Tryz.prog ops Q (o :: rest) a w :=
  wpList_plain hgd fun _ hK=>Nw R s x ho B q cap l ad c m n n' N hn hn' hN es ex hown hs hm hb hB fun q' cap' w' h2 h3 h4 h5=>hK _ _ (h q' cap' w' h2 h3 h4 h5)
theorem qb (R:RowOf enc t e k bytes) {ops:Array Oper} {o:Oper} {a:Act} {w:World} {K:Act->World->Prop} {Q:Exit->Act->World->Prop} {E:Prop} (hgd:o.guard=none) (s x:Operand)
    (ho:o.op=.call { callee:=.builtin .append,args:=#[s,x],argTypes:=#[t,t] }) (B:Nat) (q:Option Addr) (cap:Nat) (l:List α) (ad:Addr) (c:Nat) (m:List α) (n n' N:Nat) (hn:l.length=n) (hn':m.length=n') (hN:n + n'=N)
    (es:a.eval s=.slice q n cap) (ex:a.eval x=.slice (some ad) n' c) (hown:OwnK enc e k B w q cap l) (hs:Cg enc k w (some ad) c m) (hm:N<=maxLen) (hb:N * bytes<=140737488355328) (hB:B<=w.heap.size)
    (h:∀ q' cap' w',OwnK enc e k B w' q' cap' (l ++ m)->Below B w w'->w.grownBy w' (Value.slice q n cap).ownBlock->((Value.slice q' N cap').ownBlock=(Value.slice q n cap).ownBlock ∨ (Value.slice q' N cap').ownBlock=some w.heap.size)->K (a.put o.dst (.slice q' N cap')) w') :
    if Region.wanted o (yielded ops a.tmps)=true then Oper.wp Tryz.prog o a w K Q else E:=by
  have hw:Region.wanted o (yielded ops a.tmps)=true:=by simp [Region.wanted,hgd]
  rw [if_pos hw]
  exact Nw R s x ho B q cap l ad c m n n' N hn hn' hN es ex hown hs hm hb hB h
end
end Go.Proofs.YtimklglliffpcaaGreat
namespace Go.Proofs.YtimklglliffpcaaGreat
open Go.RowKit
def Et (kind:Int) (attr:ByteArray) (ni nw:Nat) (lo hi:Int):Bool:=decide (kind=0) && (decide (attr.size=0) && l8 ni nw lo hi)
/-- The node itself, without its kids. -/
def zx (kind:Int) (attr:ByteArray) (ints:List Int) (words:List ByteArray) (lo hi op:Int) (n:Nat):Bool :=
  if op=1 then kg kind attr ints words lo hi && decide (n=0) else if op=2 then Et kind attr ints.length words.length lo hi && decide (n=1) else if op=3 ∨ op=4 then Et kind attr ints.length words.length lo hi && decide (2<=n) else false
mutual
/-- Is the tree in form? -/
def ms:Nd->Bool
  | .mk kind attr ints words lo hi op ks=>zx kind attr ints words lo hi op ks.length && ts ks
def ts:List Nd->Bool
 | []=>true
 | x :: xs=>ms x && ts xs
end
theorem Qz (a b:List Nd):ts (a ++ b)=(ts a && ts b):=by
 induction a with
 | nil=>simp [ts]
 | cons x a ih=>simp only [List.cons_append,ts,ih,Bool.and_assoc]
theorem Af {l:List Nd} {k:Nat} {x:Nd} (h:l[k]? = some x):ts (l.take (k + 1))=(ts (l.take k) && ms x):=by
 rw [jh h,Qz];simp [ts]
theorem Cy {l:List Nd} {x:Nd} (h:x ∈ l) (hx:ms x=false):ts l=false:=by
 induction l with
 | nil=>simp at h
 | cons y l ih =>
  simp only [ts]
  rcases List.mem_cons.1 h with rfl | h
  ·rw [hx];rfl
  ·rw [ih h];simp
theorem N6 (kind:Int) (attr:ByteArray) (qi:Option Addr) (ni ci:Nat) (qw:Option Addr) (nw cw:Nat) (lo hi:Int) (w:World) :
 Calls Tryz.prog 144 #[.agg #[.int .i64 kind,.string attr,.slice qi ni ci,.slice qw nw cw,.int .i64 lo,.int .i64 hi]] w fun e w'=>e=.returned (.bool (Et kind attr ni nw lo hi))/\Below w.heap.size w w':=Rh kind attr qi ni ci qw nw cw lo hi w
/-- The box of a node, behind calls. -/
theorem Dn {w w1:World} {kind:Int} {attr:ByteArray} {qi:Option Addr} {ni ci:Nat} {qw:Option Addr} {nw cw:Nat} {lo hi op:Int} {qk:Option Addr} {nk ck:Nat} (hb:Below (w.alloc (.cells #[.int .i64 kind,.string attr,.slice qi ni ci,.slice qw nw cw,.int .i64 lo,.int .i64 hi,.int .i64 op,.slice qk nk ck] 56)).heap.size (w.alloc (.cells #[.int .i64 kind,.string attr,.slice qi ni ci,.slice qw nw cw,.int .i64 lo,.int .i64 hi,.int .i64 op,.slice qk nk ck] 56)) w1) :
    w.heap.size < w1.heap.size/\w1.cell? ⟨w.heap.size,6,none⟩=some (.int .i64 op)/\w1.cell? ⟨w.heap.size,7,none⟩=some (.slice qk nk ck):=by
  have hs:=hb.size
  obtain ⟨hc,hf⟩:=Gi hb
  have hlt:w.heap.size < (w.alloc (.cells #[.int .i64 kind,.string attr,.slice qi ni ci,.slice qw nw cw,.int .i64 lo,.int .i64 hi,.int .i64 op,.slice qk nk ck] 56)).heap.size:=by simp
  refine ⟨by simp at hs;omega, ?_, ?_⟩
  all_goals (rw [hc _ _ hlt];go_simp)
set_option maxHeartbeats 4000000 in
theorem Tw (kind:Int) (attr:ByteArray) (qi:Option Addr) (ci:Nat) (ints:List Int) (qw:Option Addr) (cw:Nat) (words:List ByteArray) (lo hi op:Int) (qk:Option Addr) (ck:Nat) (kids:List Nd) (w:World) (h1:SlOf jq 1 w qi ci ints) (h2:SlOf jy 1 w qw cw words) (l1:ints.length<=1000000000) (l2:words.length<=1000000000) (hg:zx kind attr ints words lo hi op kids.length=false) :
    Calls Tryz.prog 91 #[.agg #[.int .i64 kind,.string attr,.slice qi ints.length ci,.slice qw words.length cw,.int .i64 lo,.int .i64 hi,.int .i64 op,.slice qk kids.length ck]] w fun e w'=>e=.returned (.int .i64 (py (false && ts kids)))/\Below w.heap.size w w':=by
  have B0:=d9 ((Below.refl w.heap.size w).alloc (Nat.le_refl _) (.cells #[.int .i64 kind,.string attr,.slice qi ints.length ci,.slice qw words.length cw,.int .i64 lo,.int .i64 hi,.int .i64 op,.slice qk kids.length ck] 56))
  have hp:=kw kind attr qi ci ints qw cw words lo hi _ (h1.below (uh B0)) (h2.below (uh B0)) (by omega) (by omega)
  have hz:=fun w=>N6 kind attr qi ints.length ci qw words.length cw lo hi w
  unfold zx at hg
  rw [Bool.false_and]
  clear h1 h2
  by_cases o1:op=1
  · subst o1
    rw [if_pos rfl] at hg
    cases hq:kg kind attr ints words lo hi with
    | false =>
      rw [hq] at hp
      simp only [py,Bool.false_eq_true,if_false] at hp
      clear hg hq hz
      go_enter Tryz.func91,Tryz.ntmps91
      go_wp2_with (first
      | (go_at_call 54;refine hp.mono ?_;rintro e w1 ⟨rfl,b1⟩;obtain ⟨z1,d6,d7⟩:=Dn b1;have B1:=d9 b1;clear b1)
      | (go_at_call 144;refine (hz _).mono ?_;rintro e w1 ⟨rfl,b1⟩;obtain ⟨z1,d6,d7⟩:=Dn b1;have B1:=d9 b1;clear b1))
      go_ret
      exact ⟨rfl,d8 (uh B0) (uh B1)⟩
    | true =>
      rw [hq] at hp hg
      simp only [py,if_true] at hp
      have hk0:¬ kids.length=0:=by simpa using hg
      have e0:((kids.length:Int) == 0)=false:=by simpa using hk0
      clear hg hq hz
      go_enter Tryz.func91,Tryz.ntmps91
      go_wp2_with (first
      | (go_at_call 54;refine hp.mono ?_;rintro e w1 ⟨rfl,b1⟩;obtain ⟨z1,d6,d7⟩:=Dn b1;have B1:=d9 b1;clear b1)
      | (go_at_call 144;refine (hz _).mono ?_;rintro e w1 ⟨rfl,b1⟩;obtain ⟨z1,d6,d7⟩:=Dn b1;have B1:=d9 b1;clear b1))
      go_ret
      exact ⟨rfl,d8 (uh B0) (uh B1)⟩
  · have e1:(op == 1)=false:=by simpa using o1
    rw [if_neg o1] at hg
    by_cases o2:op=2
    · subst o2
      rw [if_pos rfl] at hg
      cases hq:Et kind attr ints.length words.length lo hi with
      | false =>
        rw [hq] at hz
        clear hg hq hp
        go_enter Tryz.func91,Tryz.ntmps91
        go_wp2_with (first
      | (go_at_call 54;refine hp.mono ?_;rintro e w1 ⟨rfl,b1⟩;obtain ⟨z1,d6,d7⟩:=Dn b1;have B1:=d9 b1;clear b1)
      | (go_at_call 144;refine (hz _).mono ?_;rintro e w1 ⟨rfl,b1⟩;obtain ⟨z1,d6,d7⟩:=Dn b1;have B1:=d9 b1;clear b1))
        go_ret
        exact ⟨rfl,d8 (uh B0) (uh B1)⟩
      | true =>
        rw [hq] at hz hg
        have hk0:¬ kids.length=1:=by simpa using hg
        have e0:((kids.length:Int) == 1)=false:=by simp;omega
        clear hg hq hp
        go_enter Tryz.func91,Tryz.ntmps91
        go_wp2_with (first
      | (go_at_call 54;refine hp.mono ?_;rintro e w1 ⟨rfl,b1⟩;obtain ⟨z1,d6,d7⟩:=Dn b1;have B1:=d9 b1;clear b1)
      | (go_at_call 144;refine (hz _).mono ?_;rintro e w1 ⟨rfl,b1⟩;obtain ⟨z1,d6,d7⟩:=Dn b1;have B1:=d9 b1;clear b1))
        go_ret
        exact ⟨rfl,d8 (uh B0) (uh B1)⟩
    · have e2:(op == 2)=false:=by simpa using o2
      rw [if_neg o2] at hg
      by_cases o3:op=3 ∨ op=4
      · rw [if_pos o3] at hg
        cases hq:Et kind attr ints.length words.length lo hi with
        | false =>
          rw [hq] at hz
          clear hg hq hp
          rcases o3 with rfl | rfl
          all_goals
            go_enter Tryz.func91,Tryz.ntmps91
            go_wp2_with (first
      | (go_at_call 54;refine hp.mono ?_;rintro e w1 ⟨rfl,b1⟩;obtain ⟨z1,d6,d7⟩:=Dn b1;have B1:=d9 b1;clear b1)
      | (go_at_call 144;refine (hz _).mono ?_;rintro e w1 ⟨rfl,b1⟩;obtain ⟨z1,d6,d7⟩:=Dn b1;have B1:=d9 b1;clear b1))
            go_ret
            exact ⟨rfl,d8 (uh B0) (uh B1)⟩
        | true =>
          rw [hq] at hz hg
          have hk0:¬ 2<=kids.length:=by simpa using hg
          have e0:decide (2<=kids.length)=false:=by simpa using hk0
          have e3:decide ((2:Int)<=(kids.length:Int))=false:=by rw [decide_eq_false_iff_not];omega
          clear hg hq hp
          rcases o3 with rfl | rfl
          all_goals
            go_enter Tryz.func91,Tryz.ntmps91
            go_wp2_with (first
      | (go_at_call 54;refine hp.mono ?_;rintro e w1 ⟨rfl,b1⟩;obtain ⟨z1,d6,d7⟩:=Dn b1;have B1:=d9 b1;clear b1)
      | (go_at_call 144;refine (hz _).mono ?_;rintro e w1 ⟨rfl,b1⟩;obtain ⟨z1,d6,d7⟩:=Dn b1;have B1:=d9 b1;clear b1))
            go_ret
            exact ⟨rfl,d8 (uh B0) (uh B1)⟩
      · have e3:(op == 3)=false:=by simp;omega
        have e4:(op == 4)=false:=by simp;omega
        clear hg hp hz
        go_enter Tryz.func91,Tryz.ntmps91
        go_wp2
        go_ret
        exact ⟨rfl,uh B0⟩
set_option maxHeartbeats 4000000 in
theorem Nx (kind:Int) (attr:ByteArray) (qi:Option Addr) (ci:Nat) (ints:List Int) (qw:Option Addr) (cw:Nat) (words:List ByteArray) (lo hi op:Int) (qk:Option Addr) (ck:Nat) (kids:List Nd) (w:World) (h1:SlOf jq 1 w qi ci ints) (h2:SlOf jy 1 w qw cw words) (hk:NdsOf w qk ck kids) (l1:ints.length<=1000000000) (l2:words.length<=1000000000) (l3:wtL kids<=1000000000) (hg:zx kind attr ints words lo hi op kids.length=true) (ih:∀ x ∈ kids,∀ (v:Nv) (w:World),NdIn w v x->wtN x<=1000000000->Calls Tryz.prog 91 #[v.val] w fun e w'=>e=.returned (.int .i64 (py (ms x)))/\Below w.heap.size w w') :
    Calls Tryz.prog 91 #[.agg #[.int .i64 kind,.string attr,.slice qi ints.length ci,.slice qw words.length cw,.int .i64 lo,.int .i64 hi,.int .i64 op,.slice qk kids.length ck]] w fun e w'=>e=.returned (.int .i64 (py (true && ts kids)))/\Below w.heap.size w w':=by
  have B0:=d9 ((Below.refl w.heap.size w).alloc (Nat.le_refl _) (.cells #[.int .i64 kind,.string attr,.slice qi ints.length ci,.slice qw words.length cw,.int .i64 lo,.int .i64 hi,.int .i64 op,.slice qk kids.length ck] 56))
  have hp:=kw kind attr qi ci ints qw cw words lo hi _ (h1.below (uh B0)) (h2.below (uh B0)) (by omega) (by omega)
  have hz:=fun w=>N6 kind attr qi ints.length ci qw words.length cw lo hi w
  unfold zx at hg
  rw [Bool.true_and]
  have IH:=d9 ih
  have HK:=d9 hk
  have hlen:=pl kids
  have hlw:=po kids
  have a0:(kids.length:Int)<=1000000000:=by omega
  clear h1 h2 ih hk
  by_cases o1:op=1
  · subst o1
    rw [if_pos rfl,Bool.and_eq_true] at hg
    have hk0:kids.length=0:=by simpa using hg.2
    have e0:((kids.length:Int) == 0)=true:=beq_iff_eq.2 (by omega)
    rw [hg.1] at hp
    simp only [py,if_true] at hp
    clear hg hz hk0
    go_enter Tryz.func91,Tryz.ntmps91
    go_wp2_with (first
      | (go_at_call 54;refine hp.mono ?_;rintro e w1 ⟨rfl,b1⟩;obtain ⟨z1,d6,d7⟩:=Dn b1;have B1:=d9 b1;clear b1)
      | (go_at_call 144;refine (hz _).mono ?_;rintro e w1 ⟨rfl,b1⟩;obtain ⟨z1,d6,d7⟩:=Dn b1;have B1:=d9 b1;clear b1))
    go_loopw [49] (fun i wr=>∃ k:Nat,k<=kids.length/\i=.int .i64 k/\ts (kids.take k)=true/\Below w.heap.size w wr) (fun i _=>kids.length - (intOf i).toNat)
    case atStart=>exact ⟨0,by omega,rfl,rfl,d8 (uh B0) (uh B1)⟩
    case round =>
      obtain ⟨k,hkk,rfl,hall,hbel⟩:=hrel
      have HALL:=d9 hall
      have HB:=d9 hbel
      by_cases hlt:k < kids.length
      · obtain ⟨x,hx,hxd⟩:=je hlt
        clear hxd
        obtain ⟨b,off,v',hq,hin,g0,g1,g2,g3,g4,g5,g6,g7⟩:=(uh HK).on hx hbel
        subst hq
        have hxm:x ∈ kids:=List.mem_of_getElem? hx
        have hxs:=qc hxm
        have ki0:(0:Int)<=(k:Int):=by omega
        have ki1:(k:Int) < (kids.length:Int):=by omega
        have HS:=d9 (Af hx)
        have HIN:=d9 hin
        have HC:=uh IH x hxm v' (wr.alloc (.cells #[.int .i64 v'.kind,.string v'.attr,.slice v'.qi v'.ni v'.ci,.slice v'.qw v'.nw v'.cw,.int .i64 v'.lo,.int .i64 v'.hi,.int .i64 v'.op,.slice v'.qk v'.nk v'.ck] 56)) (hin.keep ((Below.refl _ _).alloc (Nat.le_refl _) _)) (by omega)
        simp only [Nv.val] at HC
        cases hcx:ms x with
        | true =>
          rw [hcx] at HC
          simp only [py,if_true] at HC
          have HN:=d9 (show ts (kids.take (k + 1))=true by rw [uh HS,hall,hcx];rfl)
          clear hin hx hbel hxm hall hcx
          go_wp2_with (go_at_call 91;refine HC.mono ?_;rintro e w2 ⟨rfl,hb2⟩)
          exact ⟨⟨k + 1,by omega,by go_num,uh HN,((uh HB).alloc (uh HB).size _).trans (hb2.mono (by simp;have:=(uh HB).size;omega))⟩,by simp [intOf];omega⟩
        | false =>
          rw [hcx] at HC
          simp only [py,Bool.false_eq_true,if_false] at HC
          have HN:=d9 (Cy hxm hcx)
          clear hin hx hbel hxm hall hcx
          go_wp2_with (go_at_call 91;refine HC.mono ?_;rintro e w2 ⟨rfl,hb2⟩)
          go_ret
          exact ⟨by rw [uh HN];rfl,((uh HB).alloc (uh HB).size _).trans (hb2.mono (by simp;have:=(uh HB).size;omega))⟩
      · have ki1:¬ (k:Int) < (kids.length:Int):=by omega
        have HE:=d9 (show ts kids=true by rw [<- List.take_of_length_le (l:=kids) (i:=k) (by omega)];exact hall)
        clear hall
        go_wp2
        go_ret
        exact ⟨by rw [uh HE];rfl,uh HB⟩
  · have e1:(op == 1)=false:=by simpa using o1
    rw [if_neg o1] at hg
    by_cases o2:op=2
    · subst o2
      rw [if_pos rfl,Bool.and_eq_true] at hg
      have hk0:kids.length=1:=by simpa using hg.2
      have e0:((kids.length:Int) == 1)=true:=beq_iff_eq.2 (by omega)
      rw [hg.1] at hz
      clear hg hp hk0
      go_enter Tryz.func91,Tryz.ntmps91
      go_wp2_with (first
      | (go_at_call 54;refine hp.mono ?_;rintro e w1 ⟨rfl,b1⟩;obtain ⟨z1,d6,d7⟩:=Dn b1;have B1:=d9 b1;clear b1)
      | (go_at_call 144;refine (hz _).mono ?_;rintro e w1 ⟨rfl,b1⟩;obtain ⟨z1,d6,d7⟩:=Dn b1;have B1:=d9 b1;clear b1))
      go_loopw [49] (fun i wr=>∃ k:Nat,k<=kids.length/\i=.int .i64 k/\ts (kids.take k)=true/\Below w.heap.size w wr) (fun i _=>kids.length - (intOf i).toNat)
      case atStart=>exact ⟨0,by omega,rfl,rfl,d8 (uh B0) (uh B1)⟩
      case round =>
        obtain ⟨k,hkk,rfl,hall,hbel⟩:=hrel
        have HALL:=d9 hall
        have HB:=d9 hbel
        by_cases hlt:k < kids.length
        · obtain ⟨x,hx,hxd⟩:=je hlt
          clear hxd
          obtain ⟨b,off,v',hq,hin,g0,g1,g2,g3,g4,g5,g6,g7⟩:=(uh HK).on hx hbel
          subst hq
          have hxm:x ∈ kids:=List.mem_of_getElem? hx
          have hxs:=qc hxm
          have ki0:(0:Int)<=(k:Int):=by omega
          have ki1:(k:Int) < (kids.length:Int):=by omega
          have HS:=d9 (Af hx)
          have HIN:=d9 hin
          have HC:=uh IH x hxm v' (wr.alloc (.cells #[.int .i64 v'.kind,.string v'.attr,.slice v'.qi v'.ni v'.ci,.slice v'.qw v'.nw v'.cw,.int .i64 v'.lo,.int .i64 v'.hi,.int .i64 v'.op,.slice v'.qk v'.nk v'.ck] 56)) (hin.keep ((Below.refl _ _).alloc (Nat.le_refl _) _)) (by omega)
          simp only [Nv.val] at HC
          cases hcx:ms x with
          | true =>
            rw [hcx] at HC
            simp only [py,if_true] at HC
            have HN:=d9 (show ts (kids.take (k + 1))=true by rw [uh HS,hall,hcx];rfl)
            clear hin hx hbel hxm hall hcx
            go_wp2_with (go_at_call 91;refine HC.mono ?_;rintro e w2 ⟨rfl,hb2⟩)
            exact ⟨⟨k + 1,by omega,by go_num,uh HN,((uh HB).alloc (uh HB).size _).trans (hb2.mono (by simp;have:=(uh HB).size;omega))⟩,by simp [intOf];omega⟩
          | false =>
            rw [hcx] at HC
            simp only [py,Bool.false_eq_true,if_false] at HC
            have HN:=d9 (Cy hxm hcx)
            clear hin hx hbel hxm hall hcx
            go_wp2_with (go_at_call 91;refine HC.mono ?_;rintro e w2 ⟨rfl,hb2⟩)
            go_ret
            exact ⟨by rw [uh HN];rfl,((uh HB).alloc (uh HB).size _).trans (hb2.mono (by simp;have:=(uh HB).size;omega))⟩
        · have ki1:¬ (k:Int) < (kids.length:Int):=by omega
          have HE:=d9 (show ts kids=true by rw [<- List.take_of_length_le (l:=kids) (i:=k) (by omega)];exact hall)
          clear hall
          go_wp2
          go_ret
          exact ⟨by rw [uh HE];rfl,uh HB⟩
    · have e2:(op == 2)=false:=by simpa using o2
      rw [if_neg o2] at hg
      by_cases o3:op=3 ∨ op=4
      · rw [if_pos o3,Bool.and_eq_true] at hg
        have hk0:2<=kids.length:=by simpa using hg.2
        have e0:decide (2<=kids.length)=true:=by simpa using hk0
        have e3:decide ((2:Int)<=(kids.length:Int))=true:=by rw [decide_eq_true_eq];omega
        rw [hg.1] at hz
        clear hg hp
        rcases o3 with rfl | rfl
        all_goals
          go_enter Tryz.func91,Tryz.ntmps91
          go_wp2_with (first
      | (go_at_call 54;refine hp.mono ?_;rintro e w1 ⟨rfl,b1⟩;obtain ⟨z1,d6,d7⟩:=Dn b1;have B1:=d9 b1;clear b1)
      | (go_at_call 144;refine (hz _).mono ?_;rintro e w1 ⟨rfl,b1⟩;obtain ⟨z1,d6,d7⟩:=Dn b1;have B1:=d9 b1;clear b1))
          go_loopw [49] (fun i wr=>∃ k:Nat,k<=kids.length/\i=.int .i64 k/\ts (kids.take k)=true/\Below w.heap.size w wr) (fun i _=>kids.length - (intOf i).toNat)
          case atStart=>exact ⟨0,by omega,rfl,rfl,d8 (uh B0) (uh B1)⟩
          case round =>
            obtain ⟨k,hkk,rfl,hall,hbel⟩:=hrel
            have HALL:=d9 hall
            have HB:=d9 hbel
            by_cases hlt:k < kids.length
            · obtain ⟨x,hx,hxd⟩:=je hlt
              clear hxd
              obtain ⟨b,off,v',hq,hin,g0,g1,g2,g3,g4,g5,g6,g7⟩:=(uh HK).on hx hbel
              subst hq
              have hxm:x ∈ kids:=List.mem_of_getElem? hx
              have hxs:=qc hxm
              have ki0:(0:Int)<=(k:Int):=by omega
              have ki1:(k:Int) < (kids.length:Int):=by omega
              have HS:=d9 (Af hx)
              have HIN:=d9 hin
              have HC:=uh IH x hxm v' (wr.alloc (.cells #[.int .i64 v'.kind,.string v'.attr,.slice v'.qi v'.ni v'.ci,.slice v'.qw v'.nw v'.cw,.int .i64 v'.lo,.int .i64 v'.hi,.int .i64 v'.op,.slice v'.qk v'.nk v'.ck] 56)) (hin.keep ((Below.refl _ _).alloc (Nat.le_refl _) _)) (by omega)
              simp only [Nv.val] at HC
              cases hcx:ms x with
              | true =>
                rw [hcx] at HC
                simp only [py,if_true] at HC
                have HN:=d9 (show ts (kids.take (k + 1))=true by rw [uh HS,hall,hcx];rfl)
                clear hin hx hbel hxm hall hcx
                go_wp2_with (go_at_call 91;refine HC.mono ?_;rintro e w2 ⟨rfl,hb2⟩)
                exact ⟨⟨k + 1,by omega,by go_num,uh HN,((uh HB).alloc (uh HB).size _).trans (hb2.mono (by simp;have:=(uh HB).size;omega))⟩,by simp [intOf];omega⟩
              | false =>
                rw [hcx] at HC
                simp only [py,Bool.false_eq_true,if_false] at HC
                have HN:=d9 (Cy hxm hcx)
                clear hin hx hbel hxm hall hcx
                go_wp2_with (go_at_call 91;refine HC.mono ?_;rintro e w2 ⟨rfl,hb2⟩)
                go_ret
                exact ⟨by rw [uh HN];rfl,((uh HB).alloc (uh HB).size _).trans (hb2.mono (by simp;have:=(uh HB).size;omega))⟩
            · have ki1:¬ (k:Int) < (kids.length:Int):=by omega
              have HE:=d9 (show ts kids=true by rw [<- List.take_of_length_le (l:=kids) (i:=k) (by omega)];exact hall)
              clear hall
              go_wp2
              go_ret
              exact ⟨by rw [uh HE];rfl,uh HB⟩
      · rw [if_neg o3] at hg;cases hg
theorem Ke:∀ (t:Nd) (v:Nv) (w:World),NdIn w v t->wtN t<=1000000000 ->
  Calls Tryz.prog 91 #[v.val] w fun e w'=>e=.returned (.int .i64 (py (ms t)))/\Below w.heap.size w w':=by
 intro t
 induction t using Nd.ind with
 | h kind attr ints words lo hi op kids ih =>
  intro v w hin hsz
  obtain ⟨qi,ci,qw,cw,qk,ck,rfl,hi1,hw1,hk⟩:=hin.parts
  simp only [wtN] at hsz
  simp only [Nv.val,ms]
  have hwl:=pz words
  cases hg:zx kind attr ints words lo hi op kids.length with
  | false=>exact Tw kind attr qi ci ints qw cw words lo hi op qk ck kids w hi1 hw1 (by omega) (by omega) hg
  | true=>exact Nx kind attr qi ci ints qw cw words lo hi op qk ck kids w hi1 hw1 hk (by omega) (by omega) (by omega) hg ih
end Go.Proofs.YtimklglliffpcaaGreat
namespace Go.Proofs.YtimklglliffpcaaGreat
open Go.RowKit Go.Sort
mutual
/-- The truth of a tree. -/
def Vq (ev:List Pr):Nd->Bool
  | .mk kind attr ints words lo hi op ks=>if op=2 then !(Xr ev ks) else if op=3 then zbu ev ks else if op=4 then Xr ev ks else mr kind attr ints words lo hi ev
def Xr (ev:List Pr):List Nd->Bool
 | []=>false
 | x :: xs=>Vq ev x || Xr ev xs
def zbu (ev:List Pr):List Nd->Bool
 | []=>true
 | x :: xs=>Vq ev x && zbu ev xs
end
theorem Gu {l:List Nd} (h:ts l=true) {x:Nd} (hx:x ∈ l):ms x=true:=by
 cases hc:ms x with
 | true=>rfl
 | false=>rw [Cy hx hc] at h;cases h
end Go.Proofs.YtimklglliffpcaaGreat
namespace Go.Proofs.YtimklglliffpcaaGreat
open Go.RowKit Go.Sort
theorem two {w Y:World} {o1 o2:Obj} (h:(w.alloc o1).alloc o2=Y):Y.heap[w.heap.size]? = some o1/\Y.heap[w.heap.size + 1]? = some o2/\Below w.heap.size w Y/\Y.heap.size=w.heap.size + 2:=by
 subst h
 have nw:=jf (w.alloc o1) o2
 have hs:(w.alloc o1).heap.size=w.heap.size + 1:=by simp
 rw [hs] at nw
 refine ⟨?_,nw,((Below.refl _ _).alloc (Nat.le_refl _) _).alloc (by simp) _,by simp⟩
 rw [((Below.refl (w.alloc o1).heap.size (w.alloc o1)).alloc (Nat.le_refl _) o2).block _ (by omega)]
 exact jf _ _
theorem Ad {kind:Int} {attr:ByteArray} {ints:List Int} {words:List ByteArray} {lo hi op:Int} {kids:List Nd} (h:wtN (.mk kind attr ints words lo hi op kids)<=1000000000):ints.length<=1000000000/\words.length<=1000000000/\wtL kids<=1000000000:=by
 simp only [wtN] at h
 have:=pz words
 omega
end Go.Proofs.YtimklglliffpcaaGreat
namespace Go.Proofs.YtimklglliffpcaaGreat
open Go.RowKit Go.Sort
def bnd (m:Int):Int:=min (max m 0) 4611686018427387904
def Cp (M:Int):List Int->Int->Int
 | [],s=>s
 | x :: xs,s=>if M - s < x then M + 1 else Cp M xs (s + max x 0)
def vo (M:Int):List Int->Int->Int
 | [],p=>p
 | x :: xs,p=>if M.tdiv x < p then M + 1 else vo M xs (p * x)
/-- The sum, cut behind most. -/
def Vt (m:Int) (l:List Int):Int:=Cp (bnd m) l 0
/-- The product, cut behind most. -/
def En (m:Int) (l:List Int):Int:=if l.any (fun x=>decide (x<=0)) then 0 else vo (bnd m) l 1
theorem V6 (m:Int):0<=bnd m:=by unfold bnd;omega
theorem Vw (m:Int):bnd m<=4611686018427387904:=by unfold bnd;omega
theorem vb (x:Int) (h0:-9223372036854775808<=x) (h1:x < 9223372036854775808):IntKind.i64.wrap x=x:=by
 have e:(2:Int) ^ IntKind.i64.bits=18446744073709551616:=by decide
 have e2:(2:Int) ^ (IntKind.i64.bits - 1)=9223372036854775808:=by decide
 have es:IntKind.i64.signed=true:=rfl
 simp [IntKind.wrap,e,e2,es]
 split <;> omega
theorem Ab (m:Int) (w:World):Calls Tryz.prog 204 #[.int .i64 m] w fun e w'=>e=.returned (.int .i64 (bnd m))/\w'=w:=by
 go_enter Tryz.func204,Tryz.ntmps204
 go_wp2
 go_ret
 exact ⟨by simp [bnd],rfl⟩
theorem K7 (x:Int) (w:World):Calls Tryz.prog 206 #[.int .i64 x] w fun e w'=>e=.returned (.bool (decide (x<=0)))/\w'=w:=by
 go_enter Tryz.func206,Tryz.ntmps206
 go_wp2
 go_ret
 exact ⟨rfl,rfl⟩
set_option maxHeartbeats 4000000 in
theorem Lr (q:Option Addr) (c:Nat) (l:List Int) (w:World) (h:SlOf jq 1 w q c l) (hl:l.length<=1000000000000000000) :
  Calls Tryz.prog 150 #[.slice q l.length c,.func (.func 206) #[] #[]] w fun e w'=>(∃ n:Int,e=.returned (.int .i64 n)/\decide (0<=n)=l.any (fun x=>decide (x<=0)))/\Below w.heap.size w w':=by
 have HA:=d9 h
 have a0:(l.length:Int)<=1000000000000000000:=by omega
 clear h
 go_enter Tryz.func150,Tryz.ntmps150
 go_wp2
 go_loopw [8] (fun i wr=>∃ k:Nat,k<=l.length/\i=.int .i64 k/\(∀ (j:Nat) (x:Int),j < k->l[j]? = some x->0 < x)/\Below w.heap.size w wr) (fun i _=>l.length - (intOf i).toNat)
 case atStart=>exact ⟨0,by omega,rfl,fun j x h=>absurd h (by omega),Below.refl _ _⟩
 case round =>
  obtain ⟨k,hk,rfl,hall,hbel⟩:=hrel
  have HALL:=d9 hall
  have HB:=d9 hbel
  by_cases hlt:k < l.length
  ·obtain ⟨x,hx,hxd⟩:=je hlt
   obtain ⟨b,off,hq,hb,hc⟩:=mh (uh HA) hx
   subst hq
   have g:=(hbel.cell (p:=⟨b,off + k,none⟩) hb).trans hc
   have ki0:(0:Int)<=(k:Int):=by omega
   have ki1:(k:Int) < (l.length:Int):=by omega
   have hn:=fun w=>K7 x w
   have HX:=d9 hx
   by_cases hx0:x<=0
   ·have d:decide (x<=0)=true:=by simp [hx0]
    rw [d] at hn
    clear hall hbel hxd hx hc d
    go_wp2_with (go_at_call 206;refine (hn _).mono ?_;rintro e w2 ⟨rfl,hw2⟩;subst hw2)
    go_ret
    refine ⟨⟨k,rfl, ?_⟩,uh HB⟩
    have:l.any (fun x=>decide (x<=0))=true:=List.any_eq_true.2 ⟨x,List.mem_of_getElem? (uh HX),by simp [hx0]⟩
    rw [this];simp
   ·have d:decide (x<=0)=false:=by simp [hx0]
    rw [d] at hn
    clear hall hbel hxd hx hc d
    go_wp2_with (go_at_call 206;refine (hn _).mono ?_;rintro e w2 ⟨rfl,hw2⟩;subst hw2)
    go_roundw
    case rel =>
     refine ⟨k + 1,by omega,by go_num,fun j y hj hy=>?_,uh HB⟩
     by_cases e:j=k
     ·subst e;rw [uh HX] at hy;cases hy;omega
     ·exact uh HALL j y (by omega) hy
    case measure=>simp [intOf];omega
  ·have ki1:¬ (k:Int) < (l.length:Int):=by omega
   clear hall hbel
   go_wp2
   go_ret
   refine ⟨⟨-1,rfl, ?_⟩,uh HB⟩
   have:l.any (fun x=>decide (x<=0))=false:=by
    rw [List.any_eq_false]
    intro x hx
    obtain ⟨j,hj⟩:=List.getElem?_of_mem hx
    have:=uh HALL j x (by have:=(List.getElem?_eq_some_iff.1 hj).1;omega) hj
    simp;omega
   rw [this];simp
theorem Ec (q:Option Addr) (c:Nat) (l:List Int) (w:World) (h:SlOf jq 1 w q c l) (hl:l.length<=1000000000000000000) :
  Calls Tryz.prog 205 #[.slice q l.length c,.func (.func 206) #[] #[]] w fun e w'=>e=.returned (.bool (l.any (fun x=>decide (x<=0))))/\Below w.heap.size w w':=by
 have hi:=Lr q c l w h hl
 go_enter Tryz.func205,Tryz.ntmps205
 go_wp2_with (go_at_call 150;refine hi.mono ?_;rintro e w2 ⟨⟨n,rfl,hn⟩,b2⟩;have B2:=d9 b2;have HN:=d9 hn;clear b2 hn)
 go_ret
 exact ⟨by rw [<- uh HN];simp,uh B2⟩
set_option maxHeartbeats 4000000 in
theorem Qk (m:Int) (q:Option Addr) (c:Nat) (l:List Int) (w:World) (h:SlOf jq 1 w q c l) (hl:l.length<=1000000000000000000) :
  Calls Tryz.prog 172 #[.int .i64 m,.slice q l.length c] w fun e w'=>e=.returned (.int .i64 (Vt m l))/\Below w.heap.size w w':=by
 have HA:=d9 h
 have a0:(l.length:Int)<=1000000000000000000:=by omega
 have hb:=fun w=>Ab m w
 have h0:=V6 m
 have h1:=Vw m
 unfold Vt
 obtain ⟨M,hM⟩:∃ M,bnd m=M:=⟨_,rfl⟩
 rw [hM] at hb h0 h1
 rw [hM]
 clear h hM
 go_enter Tryz.func172,Tryz.ntmps172
 go_wp2_with (go_at_call 204;refine (hb _).mono ?_;rintro e w2 ⟨rfl,hw2⟩;subst hw2)
 go_loopw [5,12] (fun sv i wr=>∃ (k:Nat) (s:Int),k<=l.length/\i=.int .i64 k/\sv=.int .i64 s/\0<=s/\s<=M/\Cp M (l.drop k) s=Cp M l 0/\Below w2.heap.size w2 wr) (fun _ i _=>l.length - (intOf i).toNat)
 case atStart=>exact ⟨0,0,by omega,rfl,rfl,Int.le_refl _,h0,rfl,Below.refl _ _⟩
 case round =>
  obtain ⟨k,s,hk,rfl,rfl,s0,s1,heq,hbel⟩:=hrel
  have HB:=d9 hbel
  by_cases hlt:k < l.length
  ·obtain ⟨x,hx,hxd⟩:=je hlt
   obtain ⟨b,off,hq,hb,hc⟩:=mh (uh HA) hx
   subst hq
   have g:=(hbel.cell (p:=⟨b,off + k,none⟩) hb).trans hc
   have ki0:(0:Int)<=(k:Int):=by omega
   have ki1:(k:Int) < (l.length:Int):=by omega
   rw [hxd] at heq
   have w1:IntKind.i64.wrap (M - s)=M - s:=vb _ (by omega) (by omega)
   by_cases hgt:M - s < x
   ·simp only [Cp,if_pos hgt] at heq
    have w2:IntKind.i64.wrap (M + 1)=M + 1:=vb _ (by omega) (by omega)
    have HE:=d9 heq
    clear heq hbel hxd hx hc
    go_wp2
    go_ret
    exact ⟨by rw [<- uh HE];rfl,uh HB⟩
   ·simp only [Cp,if_neg hgt] at heq
    have w2:IntKind.i64.wrap (s + max x 0)=s + max x 0:=vb _ (by omega) (by omega)
    have HE:=d9 heq
    clear heq hbel hxd hx hc
    go_wp2
    go_roundw
    case rel=>exact ⟨k + 1,s + max x 0,by omega,by go_num,rfl,by omega,by omega,uh HE,uh HB⟩
    case measure=>simp [intOf];omega
  ·have ki1:¬ (k:Int) < (l.length:Int):=by omega
   rw [List.drop_of_length_le (by omega)] at heq
   have HE:=d9 heq
   clear heq hbel
   go_wp2
   go_ret
   exact ⟨by rw [<- uh HE];rfl,uh HB⟩
theorem El {M p x:Int} (hM:0<=M) (hp:1<=p) (hx:0 < x) (h:¬ M.tdiv x < p):1<=p * x/\p * x<=M:=by
 have hle:p<=M.tdiv x:=by omega
 have h2:M.tdiv x * x<=M:=by
  rw [Int.tdiv_eq_ediv_of_nonneg hM];exact Int.ediv_mul_le M (by omega)
 refine ⟨?_,Int.le_trans (Int.mul_le_mul_of_nonneg_right hle (by omega)) h2⟩
 have:=Int.mul_le_mul hp (show (1:Int)<=x by omega) (by omega) (by omega)
 omega
set_option maxHeartbeats 4000000 in
theorem Ho (m:Int) (q:Option Addr) (c:Nat) (l:List Int) (w:World) (h:SlOf jq 1 w q c l) (hl:l.length<=1000000000000000000) :
  Calls Tryz.prog 173 #[.int .i64 m,.slice q l.length c] w fun e w'=>e=.returned (.int .i64 (En m l))/\Below w.heap.size w w':=by
 have HA:=d9 h
 have a0:(l.length:Int)<=1000000000000000000:=by omega
 have hb:=fun w=>Ab m w
 have h0:=V6 m
 have h1:=Vw m
 have hcn:=Ec q c l w h hl
 unfold En
 obtain ⟨M,hM⟩:∃ M,bnd m=M:=⟨_,rfl⟩
 rw [hM] at hb h0 h1
 rw [hM]
 clear h hM
 cases han:l.any (fun x=>decide (x<=0)) with
 | true =>
  rw [han] at hcn
  simp only [if_true]
  go_enter Tryz.func173,Tryz.ntmps173
  go_wp2_with (first
   | (go_at_call 204;refine (hb _).mono ?_;rintro e w2 ⟨rfl,hw2⟩;subst hw2)
   | (go_at_call 205;refine hcn.mono ?_;rintro e w3 ⟨rfl,b3⟩;have B3:=d9 b3;clear b3))
  go_ret
  exact ⟨rfl,uh B3⟩
 | false =>
  rw [han] at hcn
  have hpos:∀ (j:Nat) (x:Int),l[j]? = some x->0 < x:=fun j x hj=>by
   have:=(List.any_eq_false.1 han) x (List.mem_of_getElem? hj)
   simp at this;omega
  have HP:=d9 hpos
  clear hpos han
  simp only [Bool.false_eq_true,if_false]
  go_enter Tryz.func173,Tryz.ntmps173
  go_wp2_with (first
   | (go_at_call 204;refine (hb _).mono ?_;rintro e w2 ⟨rfl,hw2⟩;subst hw2)
   | (go_at_call 205;refine hcn.mono ?_;rintro e w3 ⟨rfl,b3⟩;have B3:=d9 b3;clear b3))
  clear hcn
  go_loopw [5,14] (fun pv i wr=>∃ (k:Nat) (p:Int),k<=l.length/\i=.int .i64 k/\pv=.int .i64 p/\1<=p/\p<=max M 1/\vo M (l.drop k) p=vo M l 1/\Below w2.heap.size w2 wr) (fun _ i _=>l.length - (intOf i).toNat)
  case atStart=>exact ⟨0,1,by omega,rfl,rfl,Int.le_refl _,by omega,rfl,uh B3⟩
  case round =>
   obtain ⟨k,p,hk,rfl,rfl,s0,s1,heq,hbel⟩:=hrel
   have HB:=d9 hbel
   by_cases hlt:k < l.length
   ·obtain ⟨x,hx,hxd⟩:=je hlt
    obtain ⟨b,off,hq,hb,hc⟩:=mh (uh HA) hx
    subst hq
    have g:=(hbel.cell (p:=⟨b,off + k,none⟩) hb).trans hc
    have ki0:(0:Int)<=(k:Int):=by omega
    have ki1:(k:Int) < (l.length:Int):=by omega
    rw [hxd] at heq
    have x0:=uh HP k x hx
    have xn:¬ x=0:=by omega
    obtain ⟨D,hD⟩:∃ D,M.tdiv x=D:=⟨_,rfl⟩
    have D0:0<=D/\D<=M:=by
     rw [<- hD,Int.tdiv_eq_ediv_of_nonneg h0]
     exact ⟨Int.ediv_nonneg h0 (by omega),Int.ediv_le_self x h0⟩
    have w1:IntKind.i64.wrap D=D:=vb _ (by omega) (by omega)
    by_cases hgt:D < p
    ·simp only [vo,hD,if_pos hgt] at heq
     have w2:IntKind.i64.wrap (M + 1)=M + 1:=vb _ (by omega) (by omega)
     have HE:=d9 heq
     clear heq hbel hxd hx hc
     go_wp2
     go_ret
     exact ⟨by rw [<- uh HE];rfl,uh HB⟩
    ·have hps:=El h0 s0 x0 (by rw [hD];exact hgt)
     simp only [vo,hD,if_neg hgt] at heq
     obtain ⟨Z,hZ⟩:∃ Z,p * x=Z:=⟨_,rfl⟩
     rw [hZ] at hps heq
     have w2:IntKind.i64.wrap Z=Z:=vb _ (by omega) (by omega)
     have HE:=d9 heq
     clear heq hbel hxd hx hc
     go_wp2
     go_roundw
     case rel=>exact ⟨k + 1,Z,by omega,by go_num,rfl,by omega,by omega,uh HE,uh HB⟩
     case measure=>simp [intOf];omega
   ·have ki1:¬ (k:Int) < (l.length:Int):=by omega
    rw [List.drop_of_length_le (by omega)] at heq
    have HE:=d9 heq
    clear heq hbel
    go_wp2
    go_ret
    exact ⟨by rw [<- uh HE];rfl,uh HB⟩
end Go.Proofs.YtimklglliffpcaaGreat

/- conj.Meet: what a row of predicates comes to. -/
import Derived.Test.YtimklglliffpcaaGreatQZae
import Derived.BigQuiet
import Derived.Lib.QuietBelow
import Derived.Test.YtimklglliffpcaaGreatQMemNode
namespace Go.Proofs.YtimklglliffpcaaGreat
open Go.RowKit Go.Sort Go.Shelf

/-- What conj.both does. -/
def BothAny:Prop:=∀ (u v:Pv) (a b:Pd) (B:Nat) (w:World),B≤w.heap.size→PdOwn B w u a→PdOwn B w v b→Gd a→Gd b→Apart u a v b→∀ (T:Nat→Prop),(∀ k,T k→k < w.heap.size)→Off u T→Off v T →
    Calls Tryz.prog 50 #[u.val,v.val] w fun e w'=>(∃ r:Pv,e=.returned (.tuple #[.agg #[.int .i64 r.kind,.string r.attr,.slice r.qi r.ni r.ci,.slice r.qw r.nw r.cw,.int .i64 r.lo,.int .i64 r.hi],.bool (bothD a b).isSome])∧PdOwn B w' r ((bothD a b).getD zeroD)∧Off r T)∧Below B w w'∧∀ k,T k→w'.heap[k]? = w.heap[k]?
/-- A list of predicates in memory. -/
def PdsOf (w:World) (q:Option Addr) (c:Nat) (l:List Pd):Prop:=∃ us,SlOf encD 6 w q c us∧us.length=l.length∧∀ (j:Nat) (u:Pv) (p:Pd),us[j]? = some u→l[j]? = some p→PdIn w u p
theorem PdsOf.below {w w':World} {q:Option Addr} {c:Nat} {l:List Pd} (h:PdsOf w q c l) (hb:Below w.heap.size w w'):PdsOf w' q c l:=by
  obtain ⟨us,h1,h2,h3⟩:=h
  exact ⟨us,h1.below hb,h2,fun j u p hj hp=>(h3 j u p hj hp).keep hb⟩
theorem PdsOf.at {w:World} {q:Option Addr} {c:Nat} {l:List Pd} {j:Nat} {p:Pd} (h:PdsOf w q c l) (hj:l[j]? = some p) :
    ∃ b off u,q=some ⟨b,off,none⟩∧b < w.heap.size∧PdIn w u p∧w.cell? ⟨b,off + j * 6,none⟩=some (.int .i64 u.kind)∧w.cell? ⟨b,off + j * 6 + 1,none⟩=some (.string u.attr)∧w.cell? ⟨b,off + j * 6 + 2,none⟩=some (.slice u.qi u.ni u.ci)∧w.cell? ⟨b,off + j * 6 + 3,none⟩=some (.slice u.qw u.nw u.cw)∧w.cell? ⟨b,off + j * 6 + 4,none⟩=some (.int .i64 u.lo)∧w.cell? ⟨b,off + j * 6 + 5,none⟩=some (.int .i64 u.hi):=by
  obtain ⟨us,h1,h2,h3⟩:=h
  have hl:j < l.length:=(List.getElem?_eq_some_iff.1 hj).1
  obtain ⟨u,hu,_⟩:=get_at (l:=us) (k:=j) (by omega)
  obtain ⟨b,off,hq,hb,hc⟩:=h1.2.2.2.at hu
  exact ⟨b,off,u,hq,hb,h3 j u p hu hj,hc 0 (by omega),hc 1 (by omega),hc 2 (by omega),hc 3 (by omega),hc 4 (by omega),hc 5 (by omega)⟩
theorem PdsOf.cap {w:World} {q:Option Addr} {c:Nat} {l:List Pd} (h:PdsOf w q c l):l.length≤c∧c≤maxLen:=by
  obtain ⟨us,h1,h2,_⟩:=h
  exact ⟨by rw [← h2];exact h1.2.1,h1.2.2.1⟩
def Small (l:List Pd):Prop:=∀ p ∈ l,p.small
theorem meetGo_none (l:List Pd):meetGo none l=none:=by cases l <;> rfl
theorem own_lt {B:Nat} {w:World} {u:Pv} {p:Pd} (h:PdOwn B w u p):∀ x,(u.qi=some x∧p.ints ≠ [] ∨ u.qw=some x∧p.words ≠ [])→x.block < w.heap.size:=fun x hx=>by
  rcases hx with ⟨hq,hn⟩ | ⟨hq,hn⟩
  · obtain ⟨b,off,hq2,hb,_⟩:=h.1.2.2.2.2.2.2.1.2.2.2 (List.length_pos_iff.2 hn)
    rw [hq] at hq2
    cases hq2
    exact hb
  · obtain ⟨b,off,hq2,hb,_⟩:=h.1.2.2.2.2.2.2.2.2.2.2 (List.length_pos_iff.2 hn)
    rw [hq] at hq2
    cases hq2
    exact hb
theorem own_ge2 {B:Nat} {w:World} {u:Pv} {p:Pd} (h:PdOwn B w u p):∀ x,(u.qi=some x∧p.ints ≠ [] ∨ u.qw=some x∧p.words ≠ [])→B≤x.block:=fun x hx=>by
  rcases hx with ⟨hq,_⟩ | ⟨hq,_⟩
  · exact h.2.1.1 x hq
  · exact h.2.1.2 x hq
theorem off_lt {B:Nat} {w:World} {u:Pv} {p:Pd} {T:Nat→Prop} (h:PdOwn B w u p) (hT:∀ k,T k→k < B):Off u T:=⟨fun a e ht=>by have h1:=h.2.1.1 a e;have h2:=hT _ ht;omega,fun a e ht=>by have h1:=h.2.1.2 a e;have h2:=hT _ ht;omega⟩
set_option maxHeartbeats 1000000 in
set_option maxRecDepth 100000 in
theorem meet_nil (q:Option Addr) (c:Nat) (w:World) :
    Calls Tryz.prog 14 #[.slice q 0 c] w fun e w'=>e=.returned (.tuple #[.agg #[.int .i64 0,.string ⟨#[]⟩,.slice none 0 0,.slice none 0 0,.int .i64 0,.int .i64 0],.bool false])∧Below w.heap.size w w':=by
  obtain ⟨X,HX⟩:∃ X,w.alloc (.cells #[.int .i64 0,.string ⟨#[]⟩,.slice none 0 0,.slice none 0 0,.int .i64 0,.int .i64 0] 26)=X:=⟨_,rfl⟩
  have bX:Below w.heap.size w X:=by rw [← HX];exact (Below.refl _ _).alloc (Nat.le_refl _) _
  have x8:X.heap[w.heap.size]? = some (.cells #[.int .i64 0,.string ⟨#[]⟩,.slice none 0 0,.slice none 0 0,.int .i64 0,.int .i64 0] 26 (0,0)):=by rw [← HX];exact World.alloc_heap_new _ _
  obtain ⟨x0,x1,x2,x3,x4,x5⟩:=of6C x8
  have xf:=fun o=>frozen_free (o:=o) x8
  have BX:=hide bX
  clear bX x8
  go_enter Tryz.func14,Tryz.ntmps14
  go_wp2
  exact bodyPost_ret (v:=.tuple #[.agg #[.int .i64 0,.string ⟨#[]⟩,.slice none 0 0,.slice none 0 0,.int .i64 0,.int .i64 0],.bool false]) (by simp [results,Tryz.results14,go_sem, *]) rfl ⟨rfl,(((((((uh BX).setCell (p:=⟨w.heap.size,0,none⟩) (Nat.le_refl _) _).setCell (p:=⟨w.heap.size,1,none⟩) (Nat.le_refl _) _).setCell (p:=⟨w.heap.size,2,none⟩) (Nat.le_refl _) _).setCell (p:=⟨w.heap.size,3,none⟩) (Nat.le_refl _) _).setCell (p:=⟨w.heap.size,4,none⟩) (Nat.le_refl _) _).setCell (p:=⟨w.heap.size,5,none⟩) (Nat.le_refl _) _)⟩
end Go.Proofs.YtimklglliffpcaaGreat
namespace Go.Proofs.YtimklglliffpcaaGreat
open Go.RowKit Go.Sort Go.Shelf

theorem cell_regrownC {w:World} {p:Addr} {v:Value} (h:w.cell? p=some v):∀ n os,(grow (redrawn w n) os).cell? p=some v:=fun n os=>by
  have hb:p.block < w.heap.size:=by
    rcases Nat.lt_or_ge p.block w.heap.size with h' | h'
    · exact h'
    · exfalso
      unfold World.cell? at h
      rw [Array.getElem?_eq_none h'] at h
      simp at h
  exact ((below_regrown w n os).cell hb).trans h
/-- conj.same. -/
theorem sameD (u v:Pv) (p r:Pd) (w:World) (hu:PdIn w u p) (hv:PdIn w v r) (hs:p.small):Calls Tryz.prog 128 #[u.val,v.val] w fun e w'=>e=.returned (.bool (decide (p=r)))∧Below w.heap.size w w':=by
  obtain ⟨X,HX,bX,sX,x8,x9⟩:=two_boxes w u v
  obtain ⟨a0,a1,a2,a3,a4,a5⟩:=of6C x8
  obtain ⟨b0,b1,b2,b3,b4,b5⟩:=of6C x9
  have hC:=compareD u v p r X (hu.keep bX) (hv.keep bX) hs
  unfold Pv.val at hC ⊢
  have BX:=hide bX
  have hz:=isCmp_D.eq p r
  clear bX x8 x9 hu hv hs
  by_cases hpr:p=r
  · rw [hz.2 hpr] at hC
    rw [decide_eq_true hpr]
    clear hz hpr
    go_enter Tryz.func128,Tryz.ntmps128
    go_wp2_with (go_at_call 20;refine hC.mono ?_;rintro e w1 ⟨rfl,b1⟩;have B1:=hide b1;clear b1)
    go_ret
    exact ⟨rfl,below_sub (uh BX) (uh B1)⟩
  · obtain ⟨z,hzz⟩:∃ z,cmpD p r=z:=⟨_,rfl⟩
    rw [hzz] at hC hz
    have h0:(z == 0)=false:=by rw [beq_eq_false_iff_ne];exact fun e=>hpr (hz.1 e)
    rw [decide_eq_false hpr]
    clear hz hpr hzz
    go_enter Tryz.func128,Tryz.ntmps128
    go_wp2_with (go_at_call 20;refine hC.mono ?_;rintro e w1 ⟨rfl,b1⟩;have B1:=hide b1;clear b1)
    go_ret
    exact ⟨rfl,below_sub (uh BX) (uh B1)⟩
def isNorm (p:Pd):Bool:=decide (normD p=some p)
/-- conj.normal. -/
theorem isNorm_any (u:Pv) (p:Pd) (w:World) (hu:PdIn w u p) (hs:p.small):Calls Tryz.prog 129 #[u.val] w fun e w'=>e=.returned (.bool (isNorm p))∧Below w.heap.size w w':=by
  obtain ⟨X,HX,bX,x8⟩:=one_box w u
  obtain ⟨a0,a1,a2,a3,a4,a5⟩:=of6C x8
  have lX:w.heap.size < X.heap.size:=(Array.getElem?_eq_some_iff.1 x8).1
  have hN:=normal_any u p X (hu.keep bX) hs
  unfold Pv.val at hN ⊢
  have BX:=hide bX
  have X8:=hide x8
  have HU:=hide (hu.keep bX)
  have HS:=hide hs
  clear bX x8 hu hs
  cases hn:normD p with
  | none =>
    rw [hn] at hN
    have HR:=hide (show isNorm p=false by unfold isNorm;rw [hn];simp)
    clear hn
    go_enter Tryz.func129,Tryz.ntmps129
    go_wp2_with (go_at_call 16;refine hN.mono ?_;rintro e w1 ⟨⟨r,rfl,ho⟩,b1⟩;have B1:=hide b1;clear b1 ho)
    go_ret
    exact ⟨ret_bool (uh HR).symm,below_sub (uh BX) (below_sub (uh B1) ((Below.refl _ _).alloc (Nat.le_refl _) _))⟩
  | some m =>
    rw [hn] at hN
    have HR:=hide (show isNorm p=decide (m=p) by unfold isNorm;rw [hn];simp)
    have HM:=hide (gd_norm (uh HS) hn)
    clear hn
    go_enter Tryz.func129,Tryz.ntmps129
    go_upto_region 2 with (go_at_call 16;refine hN.mono ?_;rintro e w1 ⟨⟨r,rfl,ho⟩,b1⟩;have B1:=hide b1;have O1:=hide ho;clear b1 ho)
    obtain ⟨Y,HY⟩:∃ Y,w1.alloc (.cells #[.int .i64 r.kind,.string r.attr,.slice r.qi r.ni r.ci,.slice r.qw r.nw r.cw,.int .i64 r.lo,.int .i64 r.hi] 26)=Y:=⟨_,rfl⟩
    rw [HY]
    have y8:Y.heap[w1.heap.size]? = some (.cells #[.int .i64 r.kind,.string r.attr,.slice r.qi r.ni r.ci,.slice r.qw r.nw r.cw,.int .i64 r.lo,.int .i64 r.hi] 26 (0,0)):=by rw [← HY];exact World.alloc_heap_new _ _
    have bY:Below w1.heap.size w1 Y:=by rw [← HY];exact (Below.refl _ _).alloc (Nat.le_refl _) _
    have hC:=sameD r u m p Y ((uh O1).below bY).1 ((uh HU).keep (below_sub (uh B1) bY)) ⟨Nat.le_trans (uh HM).1.2.2.1 (by decide),Nat.le_trans (uh HM).1.2.2.2.1 (by decide)⟩
    unfold Pv.val at hC
    obtain ⟨f0,f1,f2,f3,f4,f5⟩:=of6C y8
    clear a0 a1 a2 a3 a4 a5
    obtain ⟨a0,a1,a2,a3,a4,a5⟩:=of6C (((below_sub (uh B1) bY).block _ lX).trans (uh X8))
    have BY:=hide (below_sub (uh BX) (below_sub (uh B1) bY))
    obtain ⟨z,hz⟩:∃ z,decide (m=p)=z:=⟨_,rfl⟩
    rw [hz] at hC HR
    clear y8 bY HY hN hz
    go_wp2_with (go_at_call 128;refine hC.mono ?_;rintro e w2 ⟨rfl,b2⟩;have B2:=hide b2;clear b2)
    go_ret
    exact ⟨ret_bool (by rw [uh HR]),below_sub (uh BY) (uh B2)⟩
def risAt (ord:Pd→Pd→Int) (l:List Pd) (k:Nat):Bool:=isNorm l[k]! && (decide (k=0) || decide (ord l[k - 1]! l[k]! < 0))
def risB (ord:Pd→Pd→Int) (l:List Pd):Bool:=(List.range l.length).all (risAt ord l)
theorem getB {l:List Pd} {k:Nat} {p:Pd} (h:l[k]? = some p):l[k]! = p:=by
  rw [List.getElem!_eq_getElem?_getD,h];rfl
theorem risB_no {ord:Pd→Pd→Int} {l:List Pd} {k:Nat} (hk:k < l.length) (h:risAt ord l k=false):risB ord l=false:=List.all_eq_false.2 ⟨k,List.mem_range.2 hk,by rw [h];simp⟩
theorem risB_yes {ord:Pd→Pd→Int} {l:List Pd} (h:∀ t,t < l.length→risAt ord l t=true):risB ord l=true:=List.all_eq_true.2 fun t ht=>h t (List.mem_range.1 ht)
def cmpA (p r:Pd):Int:=cmpB p.attr r.attr
end Go.Proofs.YtimklglliffpcaaGreat
namespace Go.Proofs.YtimklglliffpcaaGreat
open Go.RowKit Go.Sort Go.Shelf

set_option maxHeartbeats 4000000 in
set_option maxRecDepth 100000 in
/-- conj.rising by attr. -/
theorem rising_attr (q:Option Addr) (c:Nat) (l:List Pd) (w:World) (h:PdsOf w q c l) (hs:Small l) (hl:l.length≤100000000) :
    Calls Tryz.prog 79 #[.slice q l.length c,.func (.func 68) #[] #[]] w fun e w'=>e=.returned (.bool (risB cmpA l))∧Below w.heap.size w w':=by
  have mixed:Tryz.prog.follows .mixedOrders=true:=by kernel_rfl
  have en129:∀ args w,(callFunc 129 args).run Tryz.prog w=.ok (.enter 129 args) w:=enters_of Tryz.func129 (by kernel_rfl) rfl
  have en68:∀ args w,(callFunc 68 args).run Tryz.prog w=.ok (.enter 68 args) w:=enters_of Tryz.func68 (by kernel_rfl) rfl
  have i9:(l.length:Int)≤100000000:=by omega
  have HH:=hide h
  have HS:=hide hs
  clear h hs
  go_enter Tryz.func79,Tryz.ntmps79
  go_wp2
  go_loopw [9] (fun iv wr=>∃ k:Nat,k≤l.length∧iv=.int .i64 k∧Hid (∀ t,t < k→risAt cmpA l t=true)∧Hid (Below w.heap.size w wr)) (fun iv _=>l.length - (intOf iv).toNat)
  case atStart=>exact ⟨0,Nat.zero_le _,rfl,hide (fun t ht=>absurd ht (by omega)),hide (Below.refl _ _)⟩
  case round =>
    obtain ⟨k,hk,rfl,HA,HB⟩:=hrel
    by_cases hlt:k < l.length
    · obtain ⟨p,hp,_⟩:=get_at hlt
      obtain ⟨b,off,u,hq,hb,hu,c0,c1,c2,c3,c4,c5⟩:=(uh HH).at hp
      subst hq
      have g0:=((uh HB).cell (p:=⟨b,_,none⟩) hb).trans c0
      have g1:=((uh HB).cell (p:=⟨b,_,none⟩) hb).trans c1
      have g2:=((uh HB).cell (p:=⟨b,_,none⟩) hb).trans c2
      have g3:=((uh HB).cell (p:=⟨b,_,none⟩) hb).trans c3
      have g4:=((uh HB).cell (p:=⟨b,_,none⟩) hb).trans c4
      have g5:=((uh HB).cell (p:=⟨b,_,none⟩) hb).trans c5
      have k0:(0:Int)≤(k:Int):=by omega
      have k1:(k:Int) < (l.length:Int):=by omega
      obtain ⟨W1,HW1⟩:∃ W1,wr.alloc (.cells #[.int .i64 u.kind,.string u.attr,.slice u.qi u.ni u.ci,.slice u.qw u.nw u.cw,.int .i64 u.lo,.int .i64 u.hi] 26)=W1:=⟨_,rfl⟩
      have b1:Below wr.heap.size wr W1:=by rw [← HW1];exact (Below.refl _ _).alloc (Nat.le_refl _) _
      have w8:W1.heap[wr.heap.size]? = some (.cells #[.int .i64 u.kind,.string u.attr,.slice u.qi u.ni u.ci,.slice u.qw u.nw u.cw,.int .i64 u.lo,.int .i64 u.hi] 26 (0,0)):=by rw [← HW1];exact World.alloc_heap_new _ _
      have lW:wr.heap.size < W1.heap.size:=(Array.getElem?_eq_some_iff.1 w8).1
      obtain ⟨e0,e1,e2,e3,e4,e5⟩:=of6C w8
      have e0r:=cell_regrownC e0
      have e1r:=cell_regrownC e1
      have e2r:=cell_regrownC e2
      have e3r:=cell_regrownC e3
      have e4r:=cell_regrownC e4
      have e5r:=cell_regrownC e5
      have BW1:=hide b1
      have hPI:∀ n os,PdIn (grow (redrawn W1 n) os) u p:=fun n os=>hu.keep (below_sub (uh HB) (below_sub b1 (below_regrown W1 n os)))
      have hN:=fun n os=>isNorm_any u p (grow (redrawn W1 n) os) (hPI n os) (uh HS p (List.mem_of_getElem? hp))
      unfold Pv.val at hN
      have HX:=hide hp
      clear c0 c1 c2 c3 c4 c5 w8 b1
      cases hn:isNorm p with
      | false =>
        rw [hn] at hN
        have HR:=hide (show false=risB cmpA l from (risB_no hlt (by unfold risAt;rw [getB (uh HX),hn];rfl)).symm)
        clear hn hPI
        go_wp2
        skip
        clear HW1 g0 g1 g2 g3 g4 g5
        refine wp_region_quiet_below (by assumption) (by kernel_rfl) ?_
        repeat (go_big_quiet_step (first | (go_at_fn 129;refine Calls.regrown_of (hN _ _))))
        refine wpQuiet_nil ?_
        intro _ hw'
        obtain ⟨⟨dq,osq⟩,hw''⟩:=hw'
        subst hw''
        go_wp2
        go_ret
        exact ⟨ret_bool (uh HR),uh (hide (below_sub (uh HB) (below_sub (uh BW1) (below_regrown W1 dq osq))))⟩
      | true =>
        rw [hn] at hN
        by_cases hz:k=0
        · subst hz
          simp only [Nat.zero_mul,Nat.add_zero] at g0 g1 g2 g3 g4 g5
          have HT:=hide (show risAt cmpA l 0=true by unfold risAt;rw [getB (uh HX),hn];rfl)
          clear hn hPI
          go_wp2
          skip
          clear HW1 g0 g1 g2 g3 g4 g5
          refine wp_region_quiet_below (by assumption) (by kernel_rfl) ?_
          repeat (go_big_quiet_step (first | (go_at_fn 129;refine Calls.regrown_of (hN _ _))))
          refine wpQuiet_nil ?_
          intro _ hw'
          obtain ⟨⟨dq,osq⟩,hw''⟩:=hw'
          subst hw''
          have BF:=hide (below_sub (uh HB) (below_sub (uh BW1) (below_regrown W1 dq osq)))
          generalize grow (redrawn W1 dq) osq=V4 at BF ⊢
          go_wp2
          go_roundw
          case rel=>exact ⟨1,by omega,rfl,hide (fun t ht=>by obtain rfl:t=0:=(by omega);exact uh HT),BF⟩
          case measure=>simp [intOf];omega
        · obtain ⟨j,rfl⟩:∃ j,k=j + 1:=⟨k - 1,by omega⟩
          obtain ⟨r,hr,_⟩:=get_at (l:=l) (k:=j) (by omega)
          obtain ⟨b',off',v,hq',hb',hv,d0,d1,d2,d3,d4,d5⟩:=(uh HH).at hr
          cases hq'
          have m0:=cell_regrownC ((below_sub (uh HB) (uh BW1)).cell (p:=⟨b,_,none⟩) hb |>.trans d0)
          have m1:=cell_regrownC ((below_sub (uh HB) (uh BW1)).cell (p:=⟨b,_,none⟩) hb |>.trans d1)
          have m2:=cell_regrownC ((below_sub (uh HB) (uh BW1)).cell (p:=⟨b,_,none⟩) hb |>.trans d2)
          have m3:=cell_regrownC ((below_sub (uh HB) (uh BW1)).cell (p:=⟨b,_,none⟩) hb |>.trans d3)
          have m4:=cell_regrownC ((below_sub (uh HB) (uh BW1)).cell (p:=⟨b,_,none⟩) hb |>.trans d4)
          have m5:=cell_regrownC ((below_sub (uh HB) (uh BW1)).cell (p:=⟨b,_,none⟩) hb |>.trans d5)
          have j0:(0:Int)≤(j:Int):=by omega
          have j1:(j:Int) < (l.length:Int):=by omega
          have j2:(j:Int)≤100000000:=by omega
          have j3:(0:Int) < (j:Int) + 1:=by omega
          have hO:=fun n os=>byAttr_any v u (grow (redrawn W1 n) os)
          unfold Pv.val at hO
          have HY:=hide hr
          have hat:risAt cmpA l (j + 1)=decide (cmpA r p < 0):=by
            unfold risAt
            rw [getB (uh HX),hn,Nat.add_sub_cancel,getB (uh HY)]
            simp
          obtain ⟨z,hzz⟩:∃ z,cmpA r p=z:=⟨_,rfl⟩
          rw [hzz] at hat
          have hO':=hO
          have hzA:cmpB v.attr u.attr=z:=(by rw [hv.2.1,hu.2.1];exact hzz)
          simp only [hzA] at hO
          clear hO'
          by_cases hc:0≤z
          · have HR:=hide (show false=risB cmpA l from (risB_no hlt (by rw [hat];simp;omega)).symm)
            clear hn hPI d0 d1 d2 d3 d4 d5 hat hzz
            go_wp2
            skip
            clear HW1 g0 g1 g2 g3 g4 g5
            refine wp_region_quiet_below (by assumption) (by kernel_rfl) ?_
            repeat (go_big_quiet_step (first | (go_at_fn 129;refine Calls.regrown_of (hN _ _)) | (go_at_fn 68;refine Calls.regrown_of (hO _ _))))
            refine wpQuiet_nil ?_
            intro _ hw'
            obtain ⟨⟨dq,osq⟩,hw''⟩:=hw'
            subst hw''
            go_wp2
            go_ret
            exact ⟨ret_bool (uh HR),uh (hide (below_sub (uh HB) (below_sub (uh BW1) (below_regrown W1 dq osq))))⟩
          · have HT:=hide (show risAt cmpA l (j + 1)=true by rw [hat];simp;omega)
            clear hn hPI d0 d1 d2 d3 d4 d5 hat hzz
            go_wp2
            skip
            clear HW1 g0 g1 g2 g3 g4 g5
            refine wp_region_quiet_below (by assumption) (by kernel_rfl) ?_
            repeat (go_big_quiet_step (first | (go_at_fn 129;refine Calls.regrown_of (hN _ _)) | (go_at_fn 68;refine Calls.regrown_of (hO _ _))))
            refine wpQuiet_nil ?_
            intro _ hw'
            obtain ⟨⟨dq,osq⟩,hw''⟩:=hw'
            subst hw''
            have BF:=hide (below_sub (uh HB) (below_sub (uh BW1) (below_regrown W1 dq osq)))
            generalize grow (redrawn W1 dq) osq=V4 at BF ⊢
            go_wp2
            go_roundw
            case rel=>exact ⟨j + 1 + 1,by omega,by go_num,hide (fun t ht=>by
              by_cases e:t=j + 1
              · rw [e];exact uh HT
              · exact uh HA t (by omega)),BF⟩
            case measure=>simp [intOf];omega
    · have k1:¬ (k:Int) < (l.length:Int):=by omega
      have HR:=hide (show true=risB cmpA l from (risB_yes (fun t ht=>uh HA t (by omega))).symm)
      go_wp2
      go_ret
      exact ⟨ret_bool (uh HR),uh HB⟩
set_option maxHeartbeats 4000000 in
set_option maxRecDepth 100000 in
/-- conj.rising by pred. -/
theorem rising_pred (q:Option Addr) (c:Nat) (l:List Pd) (w:World) (h:PdsOf w q c l) (hs:Small l) (hl:l.length≤100000000) :
    Calls Tryz.prog 79 #[.slice q l.length c,.func (.func 20) #[] #[]] w fun e w'=>e=.returned (.bool (risB cmpD l))∧Below w.heap.size w w':=by
  have mixed:Tryz.prog.follows .mixedOrders=true:=by kernel_rfl
  have en129:∀ args w,(callFunc 129 args).run Tryz.prog w=.ok (.enter 129 args) w:=enters_of Tryz.func129 (by kernel_rfl) rfl
  have en20:∀ args w,(callFunc 20 args).run Tryz.prog w=.ok (.enter 20 args) w:=enters_of Tryz.func20 (by kernel_rfl) rfl
  have i9:(l.length:Int)≤100000000:=by omega
  have HH:=hide h
  have HS:=hide hs
  clear h hs
  go_enter Tryz.func79,Tryz.ntmps79
  go_wp2
  go_loopw [9] (fun iv wr=>∃ k:Nat,k≤l.length∧iv=.int .i64 k∧Hid (∀ t,t < k→risAt cmpD l t=true)∧Hid (Below w.heap.size w wr)) (fun iv _=>l.length - (intOf iv).toNat)
  case atStart=>exact ⟨0,Nat.zero_le _,rfl,hide (fun t ht=>absurd ht (by omega)),hide (Below.refl _ _)⟩
  case round =>
    obtain ⟨k,hk,rfl,HA,HB⟩:=hrel
    by_cases hlt:k < l.length
    · obtain ⟨p,hp,_⟩:=get_at hlt
      obtain ⟨b,off,u,hq,hb,hu,c0,c1,c2,c3,c4,c5⟩:=(uh HH).at hp
      subst hq
      have g0:=((uh HB).cell (p:=⟨b,_,none⟩) hb).trans c0
      have g1:=((uh HB).cell (p:=⟨b,_,none⟩) hb).trans c1
      have g2:=((uh HB).cell (p:=⟨b,_,none⟩) hb).trans c2
      have g3:=((uh HB).cell (p:=⟨b,_,none⟩) hb).trans c3
      have g4:=((uh HB).cell (p:=⟨b,_,none⟩) hb).trans c4
      have g5:=((uh HB).cell (p:=⟨b,_,none⟩) hb).trans c5
      have k0:(0:Int)≤(k:Int):=by omega
      have k1:(k:Int) < (l.length:Int):=by omega
      obtain ⟨W1,HW1⟩:∃ W1,wr.alloc (.cells #[.int .i64 u.kind,.string u.attr,.slice u.qi u.ni u.ci,.slice u.qw u.nw u.cw,.int .i64 u.lo,.int .i64 u.hi] 26)=W1:=⟨_,rfl⟩
      have b1:Below wr.heap.size wr W1:=by rw [← HW1];exact (Below.refl _ _).alloc (Nat.le_refl _) _
      have w8:W1.heap[wr.heap.size]? = some (.cells #[.int .i64 u.kind,.string u.attr,.slice u.qi u.ni u.ci,.slice u.qw u.nw u.cw,.int .i64 u.lo,.int .i64 u.hi] 26 (0,0)):=by rw [← HW1];exact World.alloc_heap_new _ _
      have lW:wr.heap.size < W1.heap.size:=(Array.getElem?_eq_some_iff.1 w8).1
      obtain ⟨e0,e1,e2,e3,e4,e5⟩:=of6C w8
      have e0r:=cell_regrownC e0
      have e1r:=cell_regrownC e1
      have e2r:=cell_regrownC e2
      have e3r:=cell_regrownC e3
      have e4r:=cell_regrownC e4
      have e5r:=cell_regrownC e5
      have BW1:=hide b1
      have hPI:∀ n os,PdIn (grow (redrawn W1 n) os) u p:=fun n os=>hu.keep (below_sub (uh HB) (below_sub b1 (below_regrown W1 n os)))
      have hN:=fun n os=>isNorm_any u p (grow (redrawn W1 n) os) (hPI n os) (uh HS p (List.mem_of_getElem? hp))
      unfold Pv.val at hN
      have HX:=hide hp
      clear c0 c1 c2 c3 c4 c5 w8 b1
      cases hn:isNorm p with
      | false =>
        rw [hn] at hN
        have HR:=hide (show false=risB cmpD l from (risB_no hlt (by unfold risAt;rw [getB (uh HX),hn];rfl)).symm)
        clear hn hPI
        go_wp2
        skip
        clear HW1 g0 g1 g2 g3 g4 g5
        refine wp_region_quiet_below (by assumption) (by kernel_rfl) ?_
        repeat (go_big_quiet_step (first | (go_at_fn 129;refine Calls.regrown_of (hN _ _))))
        refine wpQuiet_nil ?_
        intro _ hw'
        obtain ⟨⟨dq,osq⟩,hw''⟩:=hw'
        subst hw''
        go_wp2
        go_ret
        exact ⟨ret_bool (uh HR),uh (hide (below_sub (uh HB) (below_sub (uh BW1) (below_regrown W1 dq osq))))⟩
      | true =>
        rw [hn] at hN
        by_cases hz:k=0
        · subst hz
          simp only [Nat.zero_mul,Nat.add_zero] at g0 g1 g2 g3 g4 g5
          have HT:=hide (show risAt cmpD l 0=true by unfold risAt;rw [getB (uh HX),hn];rfl)
          clear hn hPI
          go_wp2
          skip
          clear HW1 g0 g1 g2 g3 g4 g5
          refine wp_region_quiet_below (by assumption) (by kernel_rfl) ?_
          repeat (go_big_quiet_step (first | (go_at_fn 129;refine Calls.regrown_of (hN _ _))))
          refine wpQuiet_nil ?_
          intro _ hw'
          obtain ⟨⟨dq,osq⟩,hw''⟩:=hw'
          subst hw''
          have BF:=hide (below_sub (uh HB) (below_sub (uh BW1) (below_regrown W1 dq osq)))
          generalize grow (redrawn W1 dq) osq=V4 at BF ⊢
          go_wp2
          go_roundw
          case rel=>exact ⟨1,by omega,rfl,hide (fun t ht=>by obtain rfl:t=0:=(by omega);exact uh HT),BF⟩
          case measure=>simp [intOf];omega
        · obtain ⟨j,rfl⟩:∃ j,k=j + 1:=⟨k - 1,by omega⟩
          obtain ⟨r,hr,_⟩:=get_at (l:=l) (k:=j) (by omega)
          obtain ⟨b',off',v,hq',hb',hv,d0,d1,d2,d3,d4,d5⟩:=(uh HH).at hr
          cases hq'
          have m0:=cell_regrownC ((below_sub (uh HB) (uh BW1)).cell (p:=⟨b,_,none⟩) hb |>.trans d0)
          have m1:=cell_regrownC ((below_sub (uh HB) (uh BW1)).cell (p:=⟨b,_,none⟩) hb |>.trans d1)
          have m2:=cell_regrownC ((below_sub (uh HB) (uh BW1)).cell (p:=⟨b,_,none⟩) hb |>.trans d2)
          have m3:=cell_regrownC ((below_sub (uh HB) (uh BW1)).cell (p:=⟨b,_,none⟩) hb |>.trans d3)
          have m4:=cell_regrownC ((below_sub (uh HB) (uh BW1)).cell (p:=⟨b,_,none⟩) hb |>.trans d4)
          have m5:=cell_regrownC ((below_sub (uh HB) (uh BW1)).cell (p:=⟨b,_,none⟩) hb |>.trans d5)
          have j0:(0:Int)≤(j:Int):=by omega
          have j1:(j:Int) < (l.length:Int):=by omega
          have j2:(j:Int)≤100000000:=by omega
          have j3:(0:Int) < (j:Int) + 1:=by omega
          have hO:=fun n os=>compareD v u r p (grow (redrawn W1 n) os) (hv.keep (below_sub (uh HB) (below_sub (uh BW1) (below_regrown W1 n os)))) (hPI n os) (uh HS r (List.mem_of_getElem? hr))
          unfold Pv.val at hO
          have HY:=hide hr
          have hat:risAt cmpD l (j + 1)=decide (cmpD r p < 0):=by
            unfold risAt
            rw [getB (uh HX),hn,Nat.add_sub_cancel,getB (uh HY)]
            simp
          obtain ⟨z,hzz⟩:∃ z,cmpD r p=z:=⟨_,rfl⟩
          rw [hzz] at hat
          have hO':=hO
          skip
          simp only [hzz] at hO
          clear hO'
          by_cases hc:0≤z
          · have HR:=hide (show false=risB cmpD l from (risB_no hlt (by rw [hat];simp;omega)).symm)
            clear hn hPI d0 d1 d2 d3 d4 d5 hat hzz
            go_wp2
            skip
            clear HW1 g0 g1 g2 g3 g4 g5
            refine wp_region_quiet_below (by assumption) (by kernel_rfl) ?_
            repeat (go_big_quiet_step (first | (go_at_fn 129;refine Calls.regrown_of (hN _ _)) | (go_at_fn 20;refine Calls.regrown_of (hO _ _))))
            refine wpQuiet_nil ?_
            intro _ hw'
            obtain ⟨⟨dq,osq⟩,hw''⟩:=hw'
            subst hw''
            go_wp2
            go_ret
            exact ⟨ret_bool (uh HR),uh (hide (below_sub (uh HB) (below_sub (uh BW1) (below_regrown W1 dq osq))))⟩
          · have HT:=hide (show risAt cmpD l (j + 1)=true by rw [hat];simp;omega)
            clear hn hPI d0 d1 d2 d3 d4 d5 hat hzz
            go_wp2
            skip
            clear HW1 g0 g1 g2 g3 g4 g5
            refine wp_region_quiet_below (by assumption) (by kernel_rfl) ?_
            repeat (go_big_quiet_step (first | (go_at_fn 129;refine Calls.regrown_of (hN _ _)) | (go_at_fn 20;refine Calls.regrown_of (hO _ _))))
            refine wpQuiet_nil ?_
            intro _ hw'
            obtain ⟨⟨dq,osq⟩,hw''⟩:=hw'
            subst hw''
            have BF:=hide (below_sub (uh HB) (below_sub (uh BW1) (below_regrown W1 dq osq)))
            generalize grow (redrawn W1 dq) osq=V4 at BF ⊢
            go_wp2
            go_roundw
            case rel=>exact ⟨j + 1 + 1,by omega,by go_num,hide (fun t ht=>by
              by_cases e:t=j + 1
              · rw [e];exact uh HT
              · exact uh HA t (by omega)),BF⟩
            case measure=>simp [intOf];omega
    · have k1:¬ (k:Int) < (l.length:Int):=by omega
      have HR:=hide (show true=risB cmpD l from (risB_yes (fun t ht=>uh HA t (by omega))).symm)
      go_wp2
      go_ret
      exact ⟨ret_bool (uh HR),uh HB⟩
end Go.Proofs.YtimklglliffpcaaGreat
namespace Go.Proofs.YtimklglliffpcaaGreat
open Go.RowKit Go.Sort Go.Shelf

def goodC (nv:Bool) (lp ln:List Pd):Bool:=if nv then (lp.length == 0 && ln.length == 0) else risB cmpA lp && risB cmpD ln
def errC (nv:Bool) (lp ln:List Pd):Int:=if goodC nv lp ln then 0 else 1
theorem of3C {w:World} {M:Nat} {a0 a1 a2:Value} {T:TypeId} (h:w.heap[M]? = some (.cells #[a0,a1,a2] T (0,0))):w.cell? ⟨M,0,none⟩=some a0∧w.cell? ⟨M,1,none⟩=some a1∧w.cell? ⟨M,2,none⟩=some a2:=by
  unfold World.cell?
  simp [h]
theorem box3 (w:World) (a0 a1 a2:Value) (T:TypeId):∃ X,w.alloc (.cells #[a0,a1,a2] T)=X∧Below w.heap.size w X∧X.heap[w.heap.size]? = some (.cells #[a0,a1,a2] T (0,0)) :=
  ⟨_,rfl,(Below.refl _ _).alloc (Nat.le_refl _) _,World.alloc_heap_new _ _⟩
/-- conj.Count. -/
theorem ccount_any (nv:Bool) (qp qn:Option Addr) (cp cn:Nat) (np nn:Nat) (w:World) :
    Calls Tryz.prog 30 #[.agg #[.bool nv,.slice qp np cp,.slice qn nn cn]] w fun e w'=>e=.returned (.int .i64 np)∧Below w.heap.size w w':=by
  obtain ⟨X,HX,bX,x8⟩:=box3 w (.bool nv) (.slice qp np cp) (.slice qn nn cn) 39
  obtain ⟨x0,x1,x2⟩:=of3C x8
  have BX:=hide bX
  clear bX x8
  go_enter Tryz.func30,Tryz.ntmps30
  go_wp2
  go_ret
  exact ⟨rfl,uh BX⟩
set_option maxHeartbeats 4000000 in
set_option maxRecDepth 100000 in
/-- conj.Check. -/
theorem ccheck_any (nv:Bool) (qp qn:Option Addr) (cp cn:Nat) (lp ln:List Pd) (w:World) (hp:PdsOf w qp cp lp) (hn:PdsOf w qn cn ln) (sp:Small lp) (sn:Small ln) (ip:lp.length≤100000000) (iN:ln.length≤100000000) :
    Calls Tryz.prog 29 #[.agg #[.bool nv,.slice qp lp.length cp,.slice qn ln.length cn]] w fun e w'=>e=.returned (.int .i64 (errC nv lp ln))∧Below w.heap.size w w':=by
  obtain ⟨X,HX,bX,x8⟩:=box3 w (.bool nv) (.slice qp lp.length cp) (.slice qn ln.length cn) 39
  obtain ⟨x0,x1,x2⟩:=of3C x8
  have lX:w.heap.size < X.heap.size:=(Array.getElem?_eq_some_iff.1 x8).1
  have hA:=rising_attr qp cp lp X (hp.below bX) sp ip
  have hB:∀ w1,Below X.heap.size X w1→_:=fun w1 b1=>rising_pred qn cn ln w1 (hn.below (below_sub bX b1)) sn iN
  have BX:=hide bX
  clear bX x8 hp hn sp sn
  cases nv with
  | true =>
    by_cases zp:lp.length=0
    · have zpd:(lp.length == 0)=true:=by simp [zp]
      have zpi:((lp.length:Int) == 0)=true:=by simp [zp]
      by_cases zn:ln.length=0
      · have znd:(ln.length == 0)=true:=by simp [zn]
        have zni:((ln.length:Int) == 0)=true:=by simp [zn]
        have HG:=hide (show 0=errC true lp ln by simp [errC,goodC,zpd,znd])
        clear zpd znd zp zn hA hB
        go_enter Tryz.func29,Tryz.ntmps29
        go_wp2
        go_ret
        exact ⟨ret_int (uh HG),uh BX⟩

      · have znd:(ln.length == 0)=false:=by simp [zn]
        have zni:((ln.length:Int) == 0)=false:=by simp [zn]
        have HG:=hide (show 1=errC true lp ln by simp [errC,goodC,zpd,znd])
        clear zpd znd zp zn hA hB
        go_enter Tryz.func29,Tryz.ntmps29
        go_wp2
        go_ret
        exact ⟨ret_int (uh HG),uh BX⟩


    · have zpd:(lp.length == 0)=false:=by simp [zp]
      have zpi:((lp.length:Int) == 0)=false:=by simp [zp]
      by_cases zn:ln.length=0
      · have znd:(ln.length == 0)=true:=by simp [zn]
        have zni:((ln.length:Int) == 0)=true:=by simp [zn]
        have HG:=hide (show 1=errC true lp ln by simp [errC,goodC,zpd])
        clear zpd znd zp zn hA hB
        go_enter Tryz.func29,Tryz.ntmps29
        go_wp2
        go_ret
        exact ⟨ret_int (uh HG),uh BX⟩

      · have znd:(ln.length == 0)=false:=by simp [zn]
        have zni:((ln.length:Int) == 0)=false:=by simp [zn]
        have HG:=hide (show 1=errC true lp ln by simp [errC,goodC,zpd])
        clear zpd znd zp zn hA hB
        go_enter Tryz.func29,Tryz.ntmps29
        go_wp2
        go_ret
        exact ⟨ret_int (uh HG),uh BX⟩



  | false =>
    obtain ⟨a,ha⟩:∃ a,risB cmpA lp=a:=⟨_,rfl⟩
    obtain ⟨b,hb⟩:∃ b,risB cmpD ln=b:=⟨_,rfl⟩
    rw [ha] at hA
    simp only [hb] at hB
    by_cases zp:lp.length=0
    · have zpd:(lp.length == 0)=true:=by simp [zp]
      have zpi:((lp.length:Int) == 0)=true:=by simp [zp]
      by_cases zn:ln.length=0
      · have znd:(ln.length == 0)=true:=by simp [zn]
        have zni:((ln.length:Int) == 0)=true:=by simp [zn]
        cases a with
        | false =>
          cases b with
          | false =>
            have HG:=hide (show 1=errC false lp ln by simp [errC,goodC,ha,hb])
            clear zpd znd zp zn ha hb
            go_enter Tryz.func29,Tryz.ntmps29
            go_wp2_with (go_at_call 79;first | (refine hA.mono ?_;rintro e w1 ⟨rfl,b1⟩;have n2:=(b1.cell (p:=⟨w.heap.size,2,none⟩) lX).trans x2;have hB':=hB w1 b1;have B1:=hide b1;clear b1 hA hB) | (refine hB'.mono ?_;rintro e w2 ⟨rfl,b2⟩;have B2:=hide b2;clear b2))
            go_ret
            exact ⟨ret_int (uh HG),below_sub (uh BX) (uh B1)⟩

          | true =>
            have HG:=hide (show 1=errC false lp ln by simp [errC,goodC,ha,hb])
            clear zpd znd zp zn ha hb
            go_enter Tryz.func29,Tryz.ntmps29
            go_wp2_with (go_at_call 79;first | (refine hA.mono ?_;rintro e w1 ⟨rfl,b1⟩;have n2:=(b1.cell (p:=⟨w.heap.size,2,none⟩) lX).trans x2;have hB':=hB w1 b1;have B1:=hide b1;clear b1 hA hB) | (refine hB'.mono ?_;rintro e w2 ⟨rfl,b2⟩;have B2:=hide b2;clear b2))
            go_ret
            exact ⟨ret_int (uh HG),below_sub (uh BX) (uh B1)⟩


        | true =>
          cases b with
          | false =>
            have HG:=hide (show 1=errC false lp ln by simp [errC,goodC,ha,hb])
            clear zpd znd zp zn ha hb
            go_enter Tryz.func29,Tryz.ntmps29
            go_wp2_with (go_at_call 79;first | (refine hA.mono ?_;rintro e w1 ⟨rfl,b1⟩;have n2:=(b1.cell (p:=⟨w.heap.size,2,none⟩) lX).trans x2;have hB':=hB w1 b1;have B1:=hide b1;clear b1 hA hB) | (refine hB'.mono ?_;rintro e w2 ⟨rfl,b2⟩;have B2:=hide b2;clear b2))
            go_ret
            exact ⟨ret_int (uh HG),below_sub (uh BX) (below_sub (uh B1) (uh B2))⟩

          | true =>
            have HG:=hide (show 0=errC false lp ln by simp [errC,goodC,ha,hb])
            clear zpd znd zp zn ha hb
            go_enter Tryz.func29,Tryz.ntmps29
            go_wp2_with (go_at_call 79;first | (refine hA.mono ?_;rintro e w1 ⟨rfl,b1⟩;have n2:=(b1.cell (p:=⟨w.heap.size,2,none⟩) lX).trans x2;have hB':=hB w1 b1;have B1:=hide b1;clear b1 hA hB) | (refine hB'.mono ?_;rintro e w2 ⟨rfl,b2⟩;have B2:=hide b2;clear b2))
            go_ret
            exact ⟨ret_int (uh HG),below_sub (uh BX) (below_sub (uh B1) (uh B2))⟩



      · have znd:(ln.length == 0)=false:=by simp [zn]
        have zni:((ln.length:Int) == 0)=false:=by simp [zn]
        cases a with
        | false =>
          cases b with
          | false =>
            have HG:=hide (show 1=errC false lp ln by simp [errC,goodC,ha,hb])
            clear zpd znd zp zn ha hb
            go_enter Tryz.func29,Tryz.ntmps29
            go_wp2_with (go_at_call 79;first | (refine hA.mono ?_;rintro e w1 ⟨rfl,b1⟩;have n2:=(b1.cell (p:=⟨w.heap.size,2,none⟩) lX).trans x2;have hB':=hB w1 b1;have B1:=hide b1;clear b1 hA hB) | (refine hB'.mono ?_;rintro e w2 ⟨rfl,b2⟩;have B2:=hide b2;clear b2))
            go_ret
            exact ⟨ret_int (uh HG),below_sub (uh BX) (uh B1)⟩

          | true =>
            have HG:=hide (show 1=errC false lp ln by simp [errC,goodC,ha,hb])
            clear zpd znd zp zn ha hb
            go_enter Tryz.func29,Tryz.ntmps29
            go_wp2_with (go_at_call 79;first | (refine hA.mono ?_;rintro e w1 ⟨rfl,b1⟩;have n2:=(b1.cell (p:=⟨w.heap.size,2,none⟩) lX).trans x2;have hB':=hB w1 b1;have B1:=hide b1;clear b1 hA hB) | (refine hB'.mono ?_;rintro e w2 ⟨rfl,b2⟩;have B2:=hide b2;clear b2))
            go_ret
            exact ⟨ret_int (uh HG),below_sub (uh BX) (uh B1)⟩


        | true =>
          cases b with
          | false =>
            have HG:=hide (show 1=errC false lp ln by simp [errC,goodC,ha,hb])
            clear zpd znd zp zn ha hb
            go_enter Tryz.func29,Tryz.ntmps29
            go_wp2_with (go_at_call 79;first | (refine hA.mono ?_;rintro e w1 ⟨rfl,b1⟩;have n2:=(b1.cell (p:=⟨w.heap.size,2,none⟩) lX).trans x2;have hB':=hB w1 b1;have B1:=hide b1;clear b1 hA hB) | (refine hB'.mono ?_;rintro e w2 ⟨rfl,b2⟩;have B2:=hide b2;clear b2))
            go_ret
            exact ⟨ret_int (uh HG),below_sub (uh BX) (below_sub (uh B1) (uh B2))⟩

          | true =>
            have HG:=hide (show 0=errC false lp ln by simp [errC,goodC,ha,hb])
            clear zpd znd zp zn ha hb
            go_enter Tryz.func29,Tryz.ntmps29
            go_wp2_with (go_at_call 79;first | (refine hA.mono ?_;rintro e w1 ⟨rfl,b1⟩;have n2:=(b1.cell (p:=⟨w.heap.size,2,none⟩) lX).trans x2;have hB':=hB w1 b1;have B1:=hide b1;clear b1 hA hB) | (refine hB'.mono ?_;rintro e w2 ⟨rfl,b2⟩;have B2:=hide b2;clear b2))
            go_ret
            exact ⟨ret_int (uh HG),below_sub (uh BX) (below_sub (uh B1) (uh B2))⟩




    · have zpd:(lp.length == 0)=false:=by simp [zp]
      have zpi:((lp.length:Int) == 0)=false:=by simp [zp]
      by_cases zn:ln.length=0
      · have znd:(ln.length == 0)=true:=by simp [zn]
        have zni:((ln.length:Int) == 0)=true:=by simp [zn]
        cases a with
        | false =>
          cases b with
          | false =>
            have HG:=hide (show 1=errC false lp ln by simp [errC,goodC,ha,hb])
            clear zpd znd zp zn ha hb
            go_enter Tryz.func29,Tryz.ntmps29
            go_wp2_with (go_at_call 79;first | (refine hA.mono ?_;rintro e w1 ⟨rfl,b1⟩;have n2:=(b1.cell (p:=⟨w.heap.size,2,none⟩) lX).trans x2;have hB':=hB w1 b1;have B1:=hide b1;clear b1 hA hB) | (refine hB'.mono ?_;rintro e w2 ⟨rfl,b2⟩;have B2:=hide b2;clear b2))
            go_ret
            exact ⟨ret_int (uh HG),below_sub (uh BX) (uh B1)⟩

          | true =>
            have HG:=hide (show 1=errC false lp ln by simp [errC,goodC,ha,hb])
            clear zpd znd zp zn ha hb
            go_enter Tryz.func29,Tryz.ntmps29
            go_wp2_with (go_at_call 79;first | (refine hA.mono ?_;rintro e w1 ⟨rfl,b1⟩;have n2:=(b1.cell (p:=⟨w.heap.size,2,none⟩) lX).trans x2;have hB':=hB w1 b1;have B1:=hide b1;clear b1 hA hB) | (refine hB'.mono ?_;rintro e w2 ⟨rfl,b2⟩;have B2:=hide b2;clear b2))
            go_ret
            exact ⟨ret_int (uh HG),below_sub (uh BX) (uh B1)⟩


        | true =>
          cases b with
          | false =>
            have HG:=hide (show 1=errC false lp ln by simp [errC,goodC,ha,hb])
            clear zpd znd zp zn ha hb
            go_enter Tryz.func29,Tryz.ntmps29
            go_wp2_with (go_at_call 79;first | (refine hA.mono ?_;rintro e w1 ⟨rfl,b1⟩;have n2:=(b1.cell (p:=⟨w.heap.size,2,none⟩) lX).trans x2;have hB':=hB w1 b1;have B1:=hide b1;clear b1 hA hB) | (refine hB'.mono ?_;rintro e w2 ⟨rfl,b2⟩;have B2:=hide b2;clear b2))
            go_ret
            exact ⟨ret_int (uh HG),below_sub (uh BX) (below_sub (uh B1) (uh B2))⟩

          | true =>
            have HG:=hide (show 0=errC false lp ln by simp [errC,goodC,ha,hb])
            clear zpd znd zp zn ha hb
            go_enter Tryz.func29,Tryz.ntmps29
            go_wp2_with (go_at_call 79;first | (refine hA.mono ?_;rintro e w1 ⟨rfl,b1⟩;have n2:=(b1.cell (p:=⟨w.heap.size,2,none⟩) lX).trans x2;have hB':=hB w1 b1;have B1:=hide b1;clear b1 hA hB) | (refine hB'.mono ?_;rintro e w2 ⟨rfl,b2⟩;have B2:=hide b2;clear b2))
            go_ret
            exact ⟨ret_int (uh HG),below_sub (uh BX) (below_sub (uh B1) (uh B2))⟩



      · have znd:(ln.length == 0)=false:=by simp [zn]
        have zni:((ln.length:Int) == 0)=false:=by simp [zn]
        cases a with
        | false =>
          cases b with
          | false =>
            have HG:=hide (show 1=errC false lp ln by simp [errC,goodC,ha,hb])
            clear zpd znd zp zn ha hb
            go_enter Tryz.func29,Tryz.ntmps29
            go_wp2_with (go_at_call 79;first | (refine hA.mono ?_;rintro e w1 ⟨rfl,b1⟩;have n2:=(b1.cell (p:=⟨w.heap.size,2,none⟩) lX).trans x2;have hB':=hB w1 b1;have B1:=hide b1;clear b1 hA hB) | (refine hB'.mono ?_;rintro e w2 ⟨rfl,b2⟩;have B2:=hide b2;clear b2))
            go_ret
            exact ⟨ret_int (uh HG),below_sub (uh BX) (uh B1)⟩

          | true =>
            have HG:=hide (show 1=errC false lp ln by simp [errC,goodC,ha,hb])
            clear zpd znd zp zn ha hb
            go_enter Tryz.func29,Tryz.ntmps29
            go_wp2_with (go_at_call 79;first | (refine hA.mono ?_;rintro e w1 ⟨rfl,b1⟩;have n2:=(b1.cell (p:=⟨w.heap.size,2,none⟩) lX).trans x2;have hB':=hB w1 b1;have B1:=hide b1;clear b1 hA hB) | (refine hB'.mono ?_;rintro e w2 ⟨rfl,b2⟩;have B2:=hide b2;clear b2))
            go_ret
            exact ⟨ret_int (uh HG),below_sub (uh BX) (uh B1)⟩


        | true =>
          cases b with
          | false =>
            have HG:=hide (show 1=errC false lp ln by simp [errC,goodC,ha,hb])
            clear zpd znd zp zn ha hb
            go_enter Tryz.func29,Tryz.ntmps29
            go_wp2_with (go_at_call 79;first | (refine hA.mono ?_;rintro e w1 ⟨rfl,b1⟩;have n2:=(b1.cell (p:=⟨w.heap.size,2,none⟩) lX).trans x2;have hB':=hB w1 b1;have B1:=hide b1;clear b1 hA hB) | (refine hB'.mono ?_;rintro e w2 ⟨rfl,b2⟩;have B2:=hide b2;clear b2))
            go_ret
            exact ⟨ret_int (uh HG),below_sub (uh BX) (below_sub (uh B1) (uh B2))⟩

          | true =>
            have HG:=hide (show 0=errC false lp ln by simp [errC,goodC,ha,hb])
            clear zpd znd zp zn ha hb
            go_enter Tryz.func29,Tryz.ntmps29
            go_wp2_with (go_at_call 79;first | (refine hA.mono ?_;rintro e w1 ⟨rfl,b1⟩;have n2:=(b1.cell (p:=⟨w.heap.size,2,none⟩) lX).trans x2;have hB':=hB w1 b1;have B1:=hide b1;clear b1 hA hB) | (refine hB'.mono ?_;rintro e w2 ⟨rfl,b2⟩;have B2:=hide b2;clear b2))
            go_ret
            exact ⟨ret_int (uh HG),below_sub (uh BX) (below_sub (uh B1) (uh B2))⟩





end Go.Proofs.YtimklglliffpcaaGreat
namespace Go.Proofs.YtimklglliffpcaaGreat
open Go.RowKit Go.Sort

/-- P holds here, and wherever, from the block B on, only the block g was written since. -/
def OffP (B:Nat) (P:World→Prop) (g:Option Nat) (w:World):Prop:=∀ w':World,w.heap.size≤w'.heap.size→(∀ b o,B≤b→b < w.heap.size→some b ≠ g→w'.cell? ⟨b,o,none⟩=w.cell? ⟨b,o,none⟩)→P w'
theorem OffP.now {B:Nat} {P:World→Prop} {g:Option Nat} {w:World} (h:OffP B P g w):P w:=h w (Nat.le_refl _) fun _ _ _ _ _=>rfl
theorem OffP.imp {B:Nat} {P Q:World→Prop} {g:Option Nat} {w:World} (h:OffP B P g w) (hi:∀ w,P w→Q w):OffP B Q g w:=fun w' hs hc=>hi _ (h w' hs hc)
theorem OffP.and {B:Nat} {P Q:World→Prop} {g:Option Nat} {w:World} (h:OffP B P g w) (k:OffP B Q g w):OffP B (fun w=>P w∧Q w) g w:=fun w' hs hc=>⟨h w' hs hc,k w' hs hc⟩
theorem OffP.below {B:Nat} {P:World→Prop} {g:Option Nat} {w w':World} (h:OffP B P g w) (hb:Below w.heap.size w w'):OffP B P g w':=fun w'' hs hc =>
  h w'' (Nat.le_trans hb.size hs) fun b o hB hlt hne=>(hc b o hB (Nat.lt_of_lt_of_le hlt hb.size) hne).trans (hb.cell (p:=⟨b,o,none⟩) hlt)
theorem OffP.step {B:Nat} {P:World→Prop} {g g':Option Nat} {w w':World} (h:OffP B P g w) (hg:w.grownBy w' g) (hor:g'=g ∨ g'=some w.heap.size):OffP B P g' w':=fun w'' hs hc =>
  h w'' (Nat.le_trans hg.size hs) fun b o hB hlt hne=>(hc b o hB (Nat.lt_of_lt_of_le hlt hg.size) (hor.elim (fun e=>by rw [e];exact hne) (fun e=>by rw [e];intro e2;cases e2;omega))).trans (World.cell?_of_block (w:=w) (a:=⟨b,o,none⟩) (hg.block b hlt hne))
theorem OffP.set {B:Nat} {P:World→Prop} {g:Option Nat} {w:World} (h:OffP B P g w) {p:Addr} (hp:p.block < B) (u:Value):OffP B P g (w.setCell p u):=fun w'' hs hc =>
  h w'' (by simpa using hs) fun b o hB hlt hne=>(hc b o hB (by simpa using hlt) hne).trans (World.cell?_of_block (w:=w) (a:=⟨b,o,none⟩) (Below.heap_setCell w p u b (by show b ≠ p.block;omega)))
theorem OffP.from {B:Nat} {w:World} {C:Nat} {v:Nv} {x:Nd} {g:Option Nat} (h:NdFrom w C v x) (hB:B≤C) (hg:∀ b,g=some b→b < C):OffP B (fun w=>NdFrom w C v x) g w:=fun _ hs hc =>
  h.up ⟨hs,fun b o hb hlt=>hc b o (by omega) hlt fun e=>by have:=hg b e.symm;omega⟩
theorem snoc_all {Q:Nv→Nd→Prop} {kids:List Nd} {us:List Nv} {v:Nv} {x:Nd} {k:Nat} (h:∀ (j:Nat) (v:Nv) (x:Nd),us[j]? = some v→kids[j]? = some x→Q v x) (hu:us.length=k) (hx:kids[k]? = some x) (sp:Q v x):∀ (j:Nat) (y:Nv) (z:Nd),(us ++ [v])[j]? = some y→kids[j]? = some z→Q y z:=by
  intro j y z hj hz
  by_cases hjk:j < k
  · rw [List.getElem?_append_left (by omega)] at hj
    exact h j y z hj hz
  · have hj2:=(List.getElem?_eq_some_iff.1 hj).1
    rw [List.length_append,hu] at hj2
    obtain rfl:j=k:=by simp at hj2;omega
    rw [List.getElem?_append_right (by omega),hu,Nat.sub_self] at hj
    rw [hx] at hz
    cases hj
    cases hz
    exact sp
def MineIn (B:Nat) (kids:List Nd) (us:List Nv) (w:World):Prop:=∀ (j:Nat) (v:Nv) (x:Nd),us[j]? = some v→kids[j]? = some x→SpIn w B v x
theorem MineIn.snoc {B:Nat} {kids:List Nd} {us:List Nv} {w:World} {v:Nv} {x:Nd} {k:Nat} (h:MineIn B kids us w) (hu:us.length=k) (hx:kids[k]? = some x) (sp:SpIn w B v x):MineIn B kids (us ++ [v]) w:=snoc_all h hu hx sp
def FromIn (B:Nat) (kids:List Nd) (us:List Nv) (w:World):Prop:=∀ (j:Nat) (v:Nv) (x:Nd),us[j]? = some v→kids[j]? = some x→NdFrom w B v x
theorem OwnK.ownLt {B c k:Nat} {w:World} {q:Option Addr} {l:List Nv} (h:OwnK encV 56 8 B w q c l) (hl:l.length=k):∀ b,(Value.slice q k c).ownBlock=some b→b < w.heap.size:=fun b e=>by
  subst hl
  exact (World.ownsRow.lt h b e).2
theorem OwnK.ownGe {B c k:Nat} {w:World} {q:Option Addr} {l:List Nv} (h:OwnK encV 56 8 B w q c l) (hl:l.length=k):∀ b,(Value.slice q k c).ownBlock=some b→B≤b:=fun b e=>by
  subst hl
  exact (World.ownsRow.lt h b e).1
section
variable {α : Type} [Inhabited α] {enc : α → List Value} {t e : TypeId} {k bytes : Nat}
/-- append, with where the answer's block is. -/
theorem wp_appG (R:RowOf enc t e k bytes) {o:Oper} {a:Act} {w:World} {K:Act→World→Prop} {Q:Exit→Act→World→Prop} (s x:Operand)
    (ho:o.op=.call { callee:=.builtin .append,args:=#[s,x],argTypes:=#[t,t] }) (B:Nat) (q:Option Addr) (cap:Nat) (l:List α) (ad:Addr) (c:Nat) (m:List α) (n n' N:Nat) (hn:l.length=n) (hn':m.length=n') (hN:n + n'=N)
    (es:a.eval s=.slice q n cap) (ex:a.eval x=.slice (some ad) n' c) (hown:OwnK enc e k B w q cap l) (hs:SrcK enc k w (some ad) c m) (hm:N≤maxLen) (hb:N * bytes≤140737488355328) (hB:B≤w.heap.size)
    (h:∀ q' cap' w',OwnK enc e k B w' q' cap' (l ++ m)→Below B w w'→w.grownBy w' (Value.slice q n cap).ownBlock→((Value.slice q' N cap').ownBlock=(Value.slice q n cap).ownBlock ∨ (Value.slice q' N cap').ownBlock=some w.heap.size)→K (a.put o.dst (.slice q' N cap')) w'):o.wp Tryz.prog a w K Q:=by
  subst hn hn' hN
  obtain ⟨i0,z,hi,hz,hsz,hby,hzs⟩:=R.info
  obtain ⟨v',w',hr,hO,hg,hnil,hor⟩:=run_append_own_at (P:=Tryz.prog) w B t o.type e i0 z k bytes R.und hi hz hsz hby hzs R.pos _ _ _ hown ad m.length c (flatK enc k m.toArray).toList (by simp) (hs.2 ad rfl) (R.one m) hm hb hB
  obtain ⟨q',cap',rfl,hq⟩:=OwnK.shape hO
  unfold Oper.wp execOp
  simp only [ho,resolve,invoke,builtin,Sem.run_bind,Sem.run_pure,Result.andThen_ok,List.map_toArray,List.map_cons,List.map_nil,es,ex,hr]
  refine h q' cap' w' ?_ ((Below.refl _ _).grown hg hB fun j hj=>(World.ownsRow.lt hown j hj).1) hg hor
  unfold OwnK
  rw [flat_app enc k R.pos,List.length_append]
  exact hO
theorem wpList_appG (R:RowOf enc t e k bytes) {ops:Array Oper} {rest:List Oper} {o:Oper} {a:Act} {w:World} {Q:Exit→Act→World→Prop} (hgd:o.guard=none) (s x:Operand)
    (ho:o.op=.call { callee:=.builtin .append,args:=#[s,x],argTypes:=#[t,t] }) (B:Nat) (q:Option Addr) (cap:Nat) (l:List α) (ad:Addr) (c:Nat) (m:List α) (n n' N:Nat) (hn:l.length=n) (hn':m.length=n') (hN:n + n'=N)
    (es:a.eval s=.slice q n cap) (ex:a.eval x=.slice (some ad) n' c) (hown:OwnK enc e k B w q cap l) (hs:SrcK enc k w (some ad) c m) (hm:N≤maxLen) (hb:N * bytes≤140737488355328) (hB:B≤w.heap.size)
    (h:∀ q' cap' w',OwnK enc e k B w' q' cap' (l ++ m)→Below B w w'→w.grownBy w' (Value.slice q n cap).ownBlock→((Value.slice q' N cap').ownBlock=(Value.slice q n cap).ownBlock ∨ (Value.slice q' N cap').ownBlock=some w.heap.size)→wpList Tryz.prog ops Q rest (a.put o.dst (.slice q' N cap')) w'):wpList Tryz.prog ops Q (o :: rest) a w :=
  wpList_plain hgd fun _ hK=>wp_appG R s x ho B q cap l ad c m n n' N hn hn' hN es ex hown hs hm hb hB fun q' cap' w' h2 h3 h4 h5=>hK _ _ (h q' cap' w' h2 h3 h4 h5)
theorem step_appG (R:RowOf enc t e k bytes) {ops:Array Oper} {o:Oper} {a:Act} {w:World} {K:Act→World→Prop} {Q:Exit→Act→World→Prop} {E:Prop} (hgd:o.guard=none) (s x:Operand)
    (ho:o.op=.call { callee:=.builtin .append,args:=#[s,x],argTypes:=#[t,t] }) (B:Nat) (q:Option Addr) (cap:Nat) (l:List α) (ad:Addr) (c:Nat) (m:List α) (n n' N:Nat) (hn:l.length=n) (hn':m.length=n') (hN:n + n'=N)
    (es:a.eval s=.slice q n cap) (ex:a.eval x=.slice (some ad) n' c) (hown:OwnK enc e k B w q cap l) (hs:SrcK enc k w (some ad) c m) (hm:N≤maxLen) (hb:N * bytes≤140737488355328) (hB:B≤w.heap.size)
    (h:∀ q' cap' w',OwnK enc e k B w' q' cap' (l ++ m)→Below B w w'→w.grownBy w' (Value.slice q n cap).ownBlock→((Value.slice q' N cap').ownBlock=(Value.slice q n cap).ownBlock ∨ (Value.slice q' N cap').ownBlock=some w.heap.size)→K (a.put o.dst (.slice q' N cap')) w') :
    if Region.wanted o (yielded ops a.tmps)=true then Oper.wp Tryz.prog o a w K Q else E:=by
  have hw:Region.wanted o (yielded ops a.tmps)=true:=by simp [Region.wanted,hgd]
  rw [if_pos hw]
  exact wp_appG R s x ho B q cap l ad c m n n' N hn hn' hN es ex hown hs hm hb hB h
end
end Go.Proofs.YtimklglliffpcaaGreat

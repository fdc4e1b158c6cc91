/- The document's Meet and Compare; ConjPreds' law. -/
import Derived.Test.YtimklglliffpcaaGreatQZab
import Derived.Test.YtimklglliffpcaaGreatQCjCpt
import Derived.Test.YtimklglliffpcaaGreatQZad
import Derived.Lib.QuietBelow
import Derived.BigQuiet
import Derived.Test.YtimklglliffpcaaGreatQZRb
import Derived.Test.YtimklglliffpcaaGreatQZRa
import Derived.Test.YtimklglliffpcaaGreatQZRc
import Derived.Test.YtimklglliffpcaaGreatQZSp
import Derived.Test.YtimklglliffpcaaGreatQZRd
import Derived.Test.YtimklglliffpcaaGreatQCjMeetsQ
import Derived.Test.YtimklglliffpcaaGreatQZOp
import Derived.Test.YtimklglliffpcaaGreatQZal
namespace Go.Proofs.YtimklglliffpcaaGreat
open Go.RowKit Go.Sort Go.Shelf
theorem Zd {p0 p:Pd} (h:p.ok=false):Bb p0 p=false:=by unfold Bb;rw [h];rfl
theorem Yw {p0 p:Pd} (h:¬ p.attr=p0.attr):Bb p0 p=false:=by unfold Bb;rw [decide_eq_false h];simp
theorem Yt {p0 p:Pd} (h:(xa p == xa p0)=false):Bb p0 p=false:=by unfold Bb;rw [h];simp
theorem Zx {p0 p:Pd} (h1:p.ok=true) (h2:p.attr=p0.attr) (h3:(xa p == xa p0)=true):Bb p0 p=true:=by unfold Bb;rw [h1,decide_eq_true h2,h3];rfl
theorem Zc {a b:Bool} (h:¬ (a == b)=true):(a=true/\b=false) ∨ (a=false/\b=true):=by revert h;cases a <;> cases b <;> simp
theorem Rd {p:Pd} (h:p.ok=true):p.ints.length<=64/\p.words.length<=64:=by
 rcases (j5 h).2 with ⟨_,h1,h2,_⟩ | ⟨_,h1,h2,_⟩ | ⟨_,_,_,h1,h2⟩ | ⟨_,h1,h2,_⟩
 ·have:=pm h1;rw [h2];simp only [List.length_nil];omega
 ·have:=pm h1;rw [h2];simp only [List.length_nil];omega
 ·rw [h1,h2];simp only [List.length_nil];omega
 ·have:=pm h1;rw [h2];simp only [List.length_nil];omega
/-- A box that is not the list's own block stays, whatever the list grows to. -/
theorem Rk {e:TypeId} {k:Nat} {α:Type} [Inhabited α] {enc:α->List Value} {V:World} {G:Nat} {ob:Obj} {o:Obj} {q:Option Addr} {c m:Nat} {l:List α} (h:V.heap[G]? = some ob) (ho:OwnK enc e k (G + 1) (V.alloc o) q c l) (hl:l.length=m) (w5:World) {A:World} (hg:A.grownBy w5 (Value.slice q m c).ownBlock) (hA:A.heap=(V.alloc o).heap:=by rfl):Hid (w5.heap[G]? = some ob):=by
  subst hl
  have hlt:G < A.heap.size:=by rw [hA];have:=jc h;simp;omega
  refine d9 ((hg.block G hlt fun e=>?_).trans ?_)
  · have:=(World.ownsRow.lt ho G e.symm).1
    omega
  · rw [hA]
    exact (Below.heap_alloc _ _ G (jc h)).trans h
theorem P5 {e:TypeId} {k:Nat} {α:Type} [Inhabited α] {enc:α->List Value} {V W1:World} {o:Obj} {q:Option Addr} {c m:Nat} {l:List α} (ho:OwnK enc e k (W1.heap.size + 1) (V.alloc o) q c l) (hl:l.length=m) (w5:World) {A:World} (hg:A.grownBy w5 (Value.slice q m c).ownBlock) (hb:Below W1.heap.size W1 V) (hA:A.heap=(V.alloc o).heap:=by rfl) (h1:A.os=V.os:=by rfl) (h2:A.tape=V.tape:=by rfl) (h3:A.output=V.output:=by rfl):Below W1.heap.size W1 w5:=by
 subst hl
 have hs:V.heap.size + 1=A.heap.size:=by rw [hA];simp
 refine ⟨(hg.os.trans h1).trans hb.os,(hg.tape.trans h2).trans hb.tape,(hg.output.trans h3).trans hb.output,by have:=hg.size;have:=hb.size;omega,fun b hlt=>?_⟩
 have:=hb.size
 refine ((hg.block b (by omega) fun e=>?_).trans ?_)
 ·have:=(World.ownsRow.lt ho b e.symm).1
  omega
 ·rw [hA]
  exact (Below.heap_alloc _ _ b (by omega)).trans (hb.block b hlt)
theorem Ng {e:TypeId} {k B:Nat} {α:Type} [Inhabited α] {enc:α->List Value} {V:World} {q:Option Addr} {c:Nat} {l:List α} (ho:OwnK enc e k B V q c l) {g:Nat} (hg:g < B) (o:Nat) (v:Value):OwnK enc e k B (V.setCell ⟨g,o,none⟩ v) q c l:=by
 rcases ho.2 with ⟨h1,h2⟩ | ⟨g',cap',cur,hv,hB,hblk,hc⟩
 ·exact ⟨ho.1,Or.inl ⟨h1,h2⟩⟩
 ·refine ⟨ho.1,Or.inr ⟨g',cap',cur,hv,hB, ?_,hc⟩⟩
  rw [Below.heap_setCell _ _ _ _ (show g' ≠ g by omega)]
  exact hblk
theorem Mz {e:TypeId} {k B:Nat} {α:Type} [Inhabited α] {enc:α->List Value} {V:World} {G:Nat} {ob:Obj} {o:Obj} {q:Option Addr} {c m:Nat} {l:List α} (h:V.heap[G]? = some ob) (ho:OwnK enc e k B (V.alloc o) q c l) (hl:l.length=m) (hB:G < B) (w5:World) {A:World} (hg:A.grownBy w5 (Value.slice q m c).ownBlock) (hA:A.heap=(V.alloc o).heap:=by rfl):Hid (w5.heap[G]? = some ob):=by
 subst hl
 have hlt:G < A.heap.size:=by rw [hA];have:=jc h;simp;omega
 refine d9 ((hg.block G hlt fun e=>?_).trans ?_)
 ·have:=(World.ownsRow.lt ho G e.symm).1
  omega
 ·rw [hA]
  exact (Below.heap_alloc _ _ G (jc h)).trans h
theorem Kz {e:TypeId} {k B:Nat} {α:Type} [Inhabited α] {enc:α->List Value} {V W1:World} {o:Obj} {q:Option Addr} {c m:Nat} {l:List α} (ho:OwnK enc e k B (V.alloc o) q c l) (hl:l.length=m) (hB:W1.heap.size<=B) (w5:World) {A:World} (hg:A.grownBy w5 (Value.slice q m c).ownBlock) (hb:Below W1.heap.size W1 V) (hA:A.heap=(V.alloc o).heap:=by rfl) (h1:A.os=V.os:=by rfl) (h2:A.tape=V.tape:=by rfl) (h3:A.output=V.output:=by rfl):Below W1.heap.size W1 w5:=by
 subst hl
 have hs:V.heap.size + 1=A.heap.size:=by rw [hA];simp
 refine ⟨(hg.os.trans h1).trans hb.os,(hg.tape.trans h2).trans hb.tape,(hg.output.trans h3).trans hb.output,by have:=hg.size;have:=hb.size;omega,fun b hlt=>?_⟩
 have:=hb.size
 refine ((hg.block b (by omega) fun e=>?_).trans ?_)
 ·have:=(World.ownsRow.lt ho b e.symm).1
  omega
 ·rw [hA]
  exact (Below.heap_alloc _ _ b (by omega)).trans (hb.block b hlt)
theorem Mo {e:TypeId} {k B:Nat} {α:Type} [Inhabited α] {enc:α->List Value} {V:World} {q:Option Addr} {c:Nat} {l:List α} (ho:OwnK enc e k B V q c l) {ad:Addr} (h:q=some ad):ad.block < V.heap.size:=by
 rcases ho.2 with ⟨h1,_⟩ | ⟨g',cap',cur,hv,hB,hblk,_⟩
 ·injection h1 with e1
  rw [h] at e1
  cases e1
 ·injection hv with e1
  rw [h] at e1
  cases e1
  exact jc hblk
theorem R8 {e:TypeId} {k k' B:Nat} {α β:Type} [Inhabited α] [Inhabited β] {enc:α->List Value} {enc':β->List Value} {V:World} {o:Obj} {q q':Option Addr} {c c' m:Nat} {l:List α} {l':List β} (h:SlOf enc' k' (V.alloc o) q' c' l') (ho:OwnK enc e k B (V.alloc o) q c l) (hl:l.length=m) (hf:∀ ad,q'=some ad->ad.block < B) (w5:World) {A:World} (hg:A.grownBy w5 (Value.slice q m c).ownBlock) (hA:A.heap=(V.alloc o).heap:=by rfl):SlOf enc' k' w5 q' c' l':=by
 subst hl
 refine ⟨h.1,h.2.1,h.2.2.1,fun h0=>?_⟩
 obtain ⟨b,off,e1,e2,e3⟩:=h.2.2.2 h0
 have hlt:b < A.heap.size:=by rw [hA];exact e2
 refine ⟨b,off,e1,Nat.lt_of_lt_of_le hlt hg.size,fun j u hj=>?_⟩
 have hb:w5.heap[b]? = (V.alloc o).heap[b]?:=by
  rw [hg.block b hlt fun e=>?_,hA]
  have h1:=(World.ownsRow.lt ho b e.symm).1
  have h2:=hf _ e1
  simp only at h2
  omega
 exact (World.cell?_of_block (a:=⟨b,off + j,Option.none⟩) hb).trans (e3 j u hj)
theorem Ma {k:Nat} {α:Type} [Inhabited α] {enc:α->List Value} {V:World} {q:Option Addr} {c:Nat} {l:List α} {g:Nat} (h:SlOf enc k V q c l) (hf:∀ ad,q=some ad->ad.block ≠ g) (o:Nat) (v:Value):SlOf enc k (V.setCell ⟨g,o,Option.none⟩ v) q c l:=h.set hf o v
theorem G0 {p:Pd} (hp:p.ok=true) (k n:Int) (x:ByteArray) (hc:rx k n x=0):mm [⟨p.attr,k,n,x⟩] p=lw p ⟨p.attr,k,n,x⟩:=by
 rw [Pl _ hp]
 have hg:qr p.attr [⟨p.attr,k,n,x⟩]=some ⟨p.attr,k,n,x⟩:=by unfold qr;simp
 rw [hg]
 simp only [hc]
 rfl
theorem Br {l:List Pd} (h:∀ p ∈ l,p.ok=true) (k n:Int) (x:ByteArray) (hc:rx k n x=0) (y:Pr) (hy:∀ p:Pd,lw p ⟨p.attr,k,n,x⟩=lw p y):km l k n x=jo l y:=by
 unfold km jo
 rw [Bool.eq_iff_iff,List.all_eq_true,List.all_eq_true]
 exact ⟨fun hx p hp=>by have:=hx p hp;rw [G0 (h p hp) k n x hc,hy p] at this;exact this,fun hx p hp=>by rw [G0 (h p hp) k n x hc,hy p];exact hx p hp⟩
theorem Rf {x:Int} (h:ki x=true):rx 1 x ⟨#[]⟩=0:=by
 have:=my.1 h
 unfold rx
 rw [if_pos (Or.inl ⟨rfl,this.1,this.2,rfl⟩)]
theorem Nh {x:ByteArray} (h:jp x=true):rx 2 0 x=0:=by
 unfold jp at h
 have:=of_decide_eq_true h
 unfold rx
 rw [if_pos (Or.inr ⟨rfl,rfl,this⟩)]
theorem L9 {l:List Pd} (h:∀ p ∈ l,p.ok=true) {x:Int} (hx:ki x=true):km l 1 x ⟨#[]⟩=jo l (yI x):=Br h 1 x ⟨#[]⟩ (Rf hx) _ fun _=>G8 rfl rfl rfl
theorem A7 {l:List Pd} (h:∀ p ∈ l,p.ok=true) {x:ByteArray} (hx:jp x=true):km l 2 0 x=jo l (yS x):=Br h 2 0 x (Nh hx) _ fun _=>Ej rfl rfl rfl
theorem Yi {p:Pd} (h:p.ok=true):∀ x ∈ p.ints,ki x=true:=fun x hx=>by
 rcases (j5 h).2 with ⟨_,h1,_⟩ | ⟨_,_,h2,_⟩ | ⟨_,_,_,h2,_⟩ | ⟨_,_,h2,_⟩
 ·simp only [p9,Bool.and_eq_true] at h1;exact List.all_eq_true.1 h1.1 x hx
 all_goals (rw [h2] at hx;simp at hx)
theorem Ji {p:Pd} (h:p.ok=true):∀ x ∈ p.words,jp x=true:=fun x hx=>by
 rcases (j5 h).2 with ⟨_,_,h2,_⟩ | ⟨_,h1,_⟩ | ⟨_,_,_,_,h2⟩ | ⟨_,h1,_⟩
 ·rw [h2] at hx;simp at hx
 ·simp only [p9,Bool.and_eq_true] at h1;exact List.all_eq_true.1 h1.1 x hx
 ·rw [h2] at hx;simp at hx
 ·simp only [p9,Bool.and_eq_true] at h1;exact List.all_eq_true.1 h1.1 x hx
theorem L4:∀ (l:List Pd) (s:ByteArray),(∀ p ∈ l,p.ok=true)->jp s=true->jp (l.foldl ly s)=true
 | [],_,_,hs=>hs
 | p :: l,s,h,hs=>by
  rw [List.foldl_cons]
  refine L4 l _ (fun q hq=>h q (by simp [hq])) ?_
  unfold ly
  split
  ·next hk =>
   split
   ·obtain ⟨x,hx⟩:∃ x,p.words=[x]:=by
     rcases ql (h p (by simp)) with e | e | e | ⟨_,e⟩
     ·omega
     ·omega
     ·omega
     ·exact e
    have:sm p=x:=by unfold sm;rw [hx];rfl
    rw [this]
    exact Ji (h p (by simp)) x (by rw [hx];simp)
   ·exact hs
  ·exact hs
theorem Q7 {l:List Pd} {a:ByteArray} {n:Bool} {s:Pd} (hf:l.find? mu=some s) (h:∀ p ∈ l,p.ok=true):vp l a n=jr ⟨s.kind,a,s.ints.filter fun x=>km l 1 x ⟨#[]⟩,s.words.filter fun x=>km l 2 0 x,0,0⟩:=by
 have hs:=h s (List.mem_of_find?_eq_some hf)
 have e1:(s.ints.filter fun x=>km l 1 x ⟨#[]⟩)=s.ints.filter fun x=>jo l (yI x):=List.filter_congr fun x hx=>L9 h (Yi hs x hx)
 have e2:(s.words.filter fun x=>km l 2 0 x)=s.words.filter fun x=>jo l (yS x):=List.filter_congr fun x hx=>A7 h (Ji hs x hx)
 unfold vp
 rw [hf,e1,e2]
theorem vc {w:World} {B g:Nat} {v:Pv} {m:Pd} (h:PdFrom w B v m) (hg:g < B) (a b c d e f:Value):PdIn ((((((w.setCell ⟨g,0,none⟩ a).setCell ⟨g,1,none⟩ b).setCell ⟨g,2,none⟩ c).setCell ⟨g,3,none⟩ d).setCell ⟨g,4,none⟩ e).setCell ⟨g,5,none⟩ f) v m:=by
 obtain ⟨⟨h1,h2,h3,h4,h5,h6,h7,h8⟩,f1,f2⟩:=h
 exact ⟨h1,h2,h3,h4,h5,h6,(((((h7.setR f1 hg 0 a).setR f1 hg 1 b).setR f1 hg 2 c).setR f1 hg 3 d).setR f1 hg 4 e).setR f1 hg 5 f,(((((h8.setR f2 hg 0 a).setR f2 hg 1 b).setR f2 hg 2 c).setR f2 hg 3 d).setR f2 hg 4 e).setR f2 hg 5 f⟩
theorem Dz {l:List Pd} {t:Nat} {p:Pd} {si:Int} (h:l[t]? = some p) (hs:mu p=false) (e:Ap (l.take t)=si):Ap (l.take (t + 1))=si:=by
 rw [zr h,e,hs]
 have:=(Yc (l.take t)).1
 rw [e] at this
 by_cases h0:si < 0
 ·rw [if_pos h0];simp;omega
 ·rw [if_neg h0]
set_option maxHeartbeats 16000000 in
set_option maxRecDepth 100000 in
theorem Yy (q:Option Addr) (c:Nat) (l:List Pd) (w:World) (h:PdsOf w q c l) (hs:Small l) (hl:l.length<=10000000000000) :
  Calls Tryz.prog 15 #[.slice q l.length c] w fun e w'=>(∃ r:Pv,e=.returned (.tuple #[.agg #[.int .i64 r.kind,.string r.attr,.slice r.qi r.ni r.ci,.slice r.qw r.nw r.cw,.int .i64 r.lo,.int .i64 r.hi],.bool (kz l).isSome])/\PdIn w' r ((kz l).getD pr))/\Below w.heap.size w w':=by
 have mixed:Tryz.prog.follows .mixedOrders=true:=by kernel_rfl
 have en51:∀ args w,(callFunc 51 args).run Tryz.prog w=.ok (.enter 51 args) w:=enters_of Tryz.func51 (by kernel_rfl) rfl
 have en52:∀ args w,(callFunc 52 args).run Tryz.prog w=.ok (.enter 52 args) w:=enters_of Tryz.func52 (by kernel_rfl) rfl
 have i9:(l.length:Int)<=10000000000000:=by omega
 obtain ⟨X,HX0⟩:∃ X,w.alloc (.cells #[.int .i64 0,.string ⟨#[]⟩,.slice none 0 0,.slice none 0 0,.int .i64 0,.int .i64 0] 26)=X:=⟨_,rfl⟩
 have bX:Below w.heap.size w X:=by rw [<- HX0];exact (Below.refl _ _).alloc (Nat.le_refl _) _
 have X8:=d9 (show X.heap[w.heap.size]? = some (.cells #[.int .i64 0,.string ⟨#[]⟩,.slice none 0 0,.slice none 0 0,.int .i64 0,.int .i64 0] 26 (0,0)) by rw [<- HX0];exact jf _ _)
 have HH:=d9 (h.below bX)
 have HS:=d9 hs
 have BX:=d9 bX
 clear h hs bX
 by_cases hn:l.length=0
 ·obtain rfl:l=[]:=List.length_eq_zero_iff.1 hn
  have hm:kz []=none:=rfl
  have q9:=jn (uh X8) (Below.refl _ _)
  obtain ⟨z0,z1,z2,z3,z4,z5⟩:=qg q9
  have zf:=fun o=>gy (o:=o) q9
  clear q9
  go_enter Tryz.func15,Tryz.ntmps15
  go_wp2
  exact bodyPost_ret (v:=.tuple #[.agg #[.int .i64 0,.string ⟨#[]⟩,.slice none 0 0,.slice none 0 0,.int .i64 0,.int .i64 0],.bool false]) (by simp [results,Tryz.results15,go_sem, *]) rfl (by
   rw [hm]
   exact ⟨⟨pc,rfl,pn _⟩,(((((((uh BX).setCell (p:=⟨w.heap.size,0,none⟩) (Nat.le_refl _) _).setCell (p:=⟨w.heap.size,1,none⟩) (Nat.le_refl _) _).setCell (p:=⟨w.heap.size,2,none⟩) (Nat.le_refl _) _).setCell (p:=⟨w.heap.size,3,none⟩) (Nat.le_refl _) _).setCell (p:=⟨w.heap.size,4,none⟩) (Nat.le_refl _) _).setCell (p:=⟨w.heap.size,5,none⟩) (Nat.le_refl _) _)⟩)
 ·have hn0:((l.length:Int) == 0)=false:=by rw [beq_eq_false_iff_ne];omega
  obtain ⟨p0,hp0,_⟩:=je (l:=l) (k:=0) (by omega)
  have HP0:=d9 hp0
  have n0:0 < l.length:=by omega
  clear hn
  go_enter Tryz.func15,Tryz.ntmps15
  go_wp2
  clear HX0
  go_loopw [4,5,6,7,8] (fun sv lv hv gv iv wr=>∃ t:Nat,t<=l.length/\iv=.int .i64 t/\sv=.int .i64 (Ap (l.take t))/\lv=.int .i64 (Ff (l.take t))/\hv=.int .i64 (tw (l.take t))/\gv=.string (rp (l.take t))/\Hid (∀ p ∈ l.take t,Bb p0 p=true)/\Hid (Below X.heap.size X wr)) (fun _ _ _ _ iv _=>l.length - (intOf iv).toNat)
  case atStart=>exact ⟨0,Nat.zero_le _,rfl,rfl,rfl,rfl,rfl,d9 (fun p hp=>by simp at hp),d9 (Below.refl _ _)⟩
  case round =>
   obtain ⟨t,ht,rfl,rfl,rfl,rfl,rfl,HF,HB⟩:=hrel
   obtain ⟨si,hsi⟩:∃ z,Ap (l.take t)=z:=⟨_,rfl⟩
   obtain ⟨lo0,hlo⟩:∃ z,Ff (l.take t)=z:=⟨_,rfl⟩
   obtain ⟨hi0,hhi⟩:∃ z,tw (l.take t)=z:=⟨_,rfl⟩
   obtain ⟨lg,hlg⟩:∃ z,rp (l.take t)=z:=⟨_,rfl⟩
   rw [hsi,hlo,hhi,hlg]
   have HSI:=d9 hsi
   have HLO:=d9 hlo
   have HHI:=d9 hhi
   have HLG:=d9 hlg
   clear hsi hlo hhi hlg hp0
   by_cases hlt:t < l.length
   ·obtain ⟨p,hp,_⟩:=je hlt
    obtain ⟨b,off,u,hq,hb,hu,c0,c1,c2,c3,c4,c5⟩:=((uh HH).below (uh HB)).at hp
    obtain ⟨b',off',u0,hq',hb',hu0,d0,d1,d2,d3,d4,d5⟩:=((uh HH).below (uh HB)).at (uh HP0)
    subst hq
    cases hq'
    simp only [Nat.zero_mul,Nat.add_zero] at d0 d1 d2 d3 d4 d5
    have k0:(0:Int)<=(t:Int):=by omega
    have k1:(t:Int) < (l.length:Int):=by omega
    obtain ⟨Z,HZ⟩:∃ Z,wr.alloc (.cells #[.int .i64 u.kind,.string u.attr,.slice u.qi u.ni u.ci,.slice u.qw u.nw u.cw,.int .i64 u.lo,.int .i64 u.hi] 26)=Z:=⟨_,rfl⟩
    have bZ:Below wr.heap.size wr Z:=by rw [<- HZ];exact (Below.refl _ _).alloc (Nat.le_refl _) _
    have zk:Z.heap[wr.heap.size]? = some (.cells #[.int .i64 u.kind,.string u.attr,.slice u.qi u.ni u.ci,.slice u.qw u.nw u.cw,.int .i64 u.lo,.int .i64 u.hi] 26 (0,0)):=by rw [<- HZ];exact World.alloc_heap_new _ _
    have ZK:=d9 zk
    have BZ:=d9 (d8 (uh HB) bZ)
    have BZ2:=d9 bZ
    have HX:=d9 hp
    have HPM:=d9 (List.mem_of_getElem? hp)
    have HUK:=d9 hu.1
    have HUL:=d9 hu.2.2.2.2.1
    have HUH:=d9 hu.2.2.2.2.2.1
    have HU:=d9 hu
    have HBB:=d9 hb
    have hP:=fun n os=>zcs u p (grow (redrawn Z n) os) (hu.keep (d8 bZ (below_regrown Z n os))) (uh HS p (List.mem_of_getElem? hp))
    have hN1:=fun n os=>Ae u p (grow (redrawn Z n) os) hu.1
    have hN0:=fun n os=>Ae u0 p0 (grow (redrawn Z n) os) hu0.1
    have hat:(u.attr=u0.attr)=(p.attr=p0.attr):=by rw [hu.2.1,hu0.2.1]
    obtain ⟨e0,e1,e2,e3,e4,e5⟩:=kq zk
    have r0:=ja e0
    have r1:=ja e1
    have r2:=ja e2
    have r3:=ja e3
    have r4:=ja e4
    have r5:=ja e5
    have s0:=ja ((bZ.cell (p:=⟨b,_,none⟩) hb).trans d0)
    have s1:=ja ((bZ.cell (p:=⟨b,_,none⟩) hb).trans d1)
    have s2:=ja ((bZ.cell (p:=⟨b,_,none⟩) hb).trans d2)
    have s3:=ja ((bZ.cell (p:=⟨b,_,none⟩) hb).trans d3)
    have s4:=ja ((bZ.cell (p:=⟨b,_,none⟩) hb).trans d4)
    have s5:=ja ((bZ.cell (p:=⟨b,_,none⟩) hb).trans d5)
    have q9:=jn (uh X8) (uh BZ)
    obtain ⟨z0,z1,z2,z3,z4,z5⟩:=qg q9
    have zf:=fun o=>gy (o:=o) q9
    clear q9
    clear hu hu0 hb hb' zk bZ hp d0 d1 d2 d3 d4 d5
    go_upto_region 8 with (fail)
    clear HZ c0 c1 c2 c3 c4 c5 e0 e1 e2 e3 e4 e5
    cases hok:p.ok with
    | false =>
     rw [hok] at hP
     have HNO:=d9 (xm (uh HP0) (uh HPM) (Zd hok))
     clear hok hat
     refine wp_region_quiet_below (by assumption) (by kernel_rfl) ?_
     repeat (go_big_quiet_step (first | (go_at_fn 51;with_reducible refine Calls.regrown_of (hP _ _)) | (go_at_fn 52;with_reducible refine Calls.regrown_of (hN1 _ _)) | (go_at_fn 52;with_reducible refine Calls.regrown_of (hN0 _ _))))
     refine wpQuiet_nil ?_
     intro _ hw'
     obtain ⟨⟨dq,osq⟩,hw''⟩:=hw'
     subst hw''
     have BF:=d9 (d8 (uh BZ) (below_regrown Z dq osq))
     generalize grow (redrawn Z dq) osq=V4 at BF ⊢
     clear z0 z1 z2 z3 z4 z5 zf
     have q9:=jn (uh X8) (uh BF)
     obtain ⟨z0,z1,z2,z3,z4,z5⟩:=qg q9
     have zf:=fun o=>gy (o:=o) q9
     clear q9
     go_wp2
     exact bodyPost_ret (v:=.tuple #[.agg #[.int .i64 0,.string ⟨#[]⟩,.slice none 0 0,.slice none 0 0,.int .i64 0,.int .i64 0],.bool false]) (by simp [results,Tryz.results15,go_sem, *]) rfl (by
      rw [uh HNO]
      exact ⟨⟨pc,rfl,pn _⟩,(((((((d8 (uh BX) (uh BF)).setCell (p:=⟨w.heap.size,0,none⟩) (Nat.le_refl _) _).setCell (p:=⟨w.heap.size,1,none⟩) (Nat.le_refl _) _).setCell (p:=⟨w.heap.size,2,none⟩) (Nat.le_refl _) _).setCell (p:=⟨w.heap.size,3,none⟩) (Nat.le_refl _) _).setCell (p:=⟨w.heap.size,4,none⟩) (Nat.le_refl _) _).setCell (p:=⟨w.heap.size,5,none⟩) (Nat.le_refl _) _)⟩)
    | true =>
     rw [hok] at hP
     have HPOK:=d9 hok
     clear hok
     by_cases hc:u.attr=u0.attr
     ·have hb1:(u.attr.toList == u0.attr.toList)=true:=by rw [hc];simp
      have HPA:=d9 (hat ▸ hc)
      clear hat hc
      obtain ⟨m1,hm1⟩:∃ z,xa p=z:=⟨_,rfl⟩
      obtain ⟨m0,hm0⟩:∃ z,xa p0=z:=⟨_,rfl⟩
      rw [hm1] at hN1
      rw [hm0] at hN0
      by_cases hnn:(m1 == m0)=true
      ·obtain rfl:m1=m0:=by simpa using hnn
       have HF2:=d9 (show ∀ y ∈ l.take (t + 1),Bb p0 y=true from fun y hy=>by
        rw [jh (uh HX)] at hy
        rcases List.mem_append.1 hy with hy | hy
        ·exact uh HF y hy
        ·obtain rfl:y=p:=by simpa using hy
         exact Zx (uh HPOK) (uh HPA) (by rw [hm1,hm0];simp))
       clear hm1 hm0
       refine wp_region_quiet_below (by assumption) (by kernel_rfl) ?_
       repeat (go_big_quiet_step (first | (go_at_fn 51;with_reducible refine Calls.regrown_of (hP _ _)) | (go_at_fn 52;with_reducible refine Calls.regrown_of (hN1 _ _)) | (go_at_fn 52;with_reducible refine Calls.regrown_of (hN0 _ _))))
       refine wpQuiet_nil ?_
       intro _ hw'
       obtain ⟨⟨dq,osq⟩,hw''⟩:=hw'
       subst hw''
       have BF:=d9 (d8 (uh BZ) (below_regrown Z dq osq))
       have ZV:=d9 (jn (uh ZK) (below_regrown Z dq osq))
       have BWV:=d9 (d8 (uh BZ2) (below_regrown Z dq osq))
       generalize grow (redrawn Z dq) osq=V4 at BF ZV BWV ⊢
       clear z0 z1 z2 z3 z4 z5 zf hP hN0 hN1
       obtain ⟨e0,e1,e2,e3,e4,e5⟩:=kq (uh ZV)
       by_cases k3:u.kind=3
       ·have k3b:(u.kind == 3)=true:=by simp [k3]
        have k3p:p.kind=3:=(uh HUK) ▸ k3
        have HS':=d9 (Dz (uh HX) (by unfold mu;simp [k3p]) (uh HSI))
        have HL':=d9 (show Ff (l.take (t + 1))=max lo0 u.lo by rw [Dx (uh HX),if_pos k3p,uh HLO,uh HUL])
        have HH':=d9 (show tw (l.take (t + 1))=min hi0 u.hi by rw [Bp (uh HX),if_pos k3p,uh HHI,uh HUH])
        have HG':=d9 (show rp (l.take (t + 1))=lg by rw [xg (uh HX),uh HLG];unfold ly;rw [if_neg (by omega)])
        have r4:=ja e4
        have r5:=ja e5
        clear k3 k3p
        go_upto_region 14 with (fail)
        clear e0 e1 e2 e3 e4 e5
        refine wp_region_quiet_below (by assumption) (by kernel_rfl) ?_
        repeat (go_big_quiet_step (fail))
        refine wpQuiet_nil ?_
        intro _ hw'
        obtain ⟨⟨dq,osq⟩,hw''⟩:=hw'
        subst hw''
        have BF2:=d9 (d8 (uh BF) (below_regrown V4 dq osq))
        generalize grow (redrawn V4 dq) osq=V5 at BF2 ⊢
        go_wp2
        go_roundw
        case rel=>exact ⟨t + 1,by omega,by go_num,by rw [uh HS'],by rw [uh HL'],by rw [uh HH'],by rw [uh HG'],HF2,BF2⟩
        case measure=>simp [intOf];omega
       ·have k3b:(u.kind == 3)=false:=by simpa using k3
        have k3p:¬ p.kind=3:=fun e=>k3 ((uh HUK).trans e)
        have HL':=d9 (show Ff (l.take (t + 1))=lo0 by rw [Dx (uh HX),if_neg k3p,uh HLO])
        have HH':=d9 (show tw (l.take (t + 1))=hi0 by rw [Bp (uh HX),if_neg k3p,uh HHI])
        by_cases k4:u.kind=4
        ·have k4b:(u.kind == 4)=true:=by simp [k4]
         have k4p:p.kind=4:=(uh HUK) ▸ k4
         obtain ⟨x,hx⟩:∃ x,p.words=[x]:=by
          rcases ql (uh HPOK) with e | e | e | ⟨_,e⟩
          ·omega
          ·omega
          ·omega
          ·exact e
         have HS':=d9 (Dz (uh HX) (by unfold mu;simp [k4p]) (uh HSI))
         have hfw:sm p=x:=by unfold sm;rw [hx];rfl
         have hpv:=(uh HU).keep (uh BWV)
         obtain ⟨bw,ow,hqw,hbw,xc⟩:=j6 hpv.2.2.2.2.2.2.2 (by rw [hx];rfl:p.words[0]? = some x)
         have hnw:u.nw=1:=by rw [hpv.2.2.2.1,hx];rfl
         rw [hqw,hnw] at e3
         rw [Nat.add_zero] at xc
         have HG9:=d9 (show rp (l.take (t + 1))=if lg.size < x.size then x else lg by rw [xg (uh HX),uh HLG];unfold ly;rw [if_pos k4p,hfw])
         clear hpv hnw hqw hfw hx k3 k4 k3p k4p
         by_cases hgt:lg.size < x.size
         ·have hgi:(lg.size:Int) < (x.size:Int):=by omega
          rw [if_pos hgt] at HG9
          clear hgt
          go_wp2
          go_roundw
          case rel=>exact ⟨t + 1,by omega,by go_num,by rw [uh HS'],by rw [uh HL'],by rw [uh HH'],by rw [uh HG9],HF2,BF⟩
          case measure=>simp [intOf];omega
         ·have hgi:¬ (lg.size:Int) < (x.size:Int):=by omega
          rw [if_neg hgt] at HG9
          clear hgt
          go_wp2
          go_roundw
          case rel=>exact ⟨t + 1,by omega,by go_num,by rw [uh HS'],by rw [uh HL'],by rw [uh HH'],by rw [uh HG9],HF2,BF⟩
          case measure=>simp [intOf];omega
        ·have k4b:(u.kind == 4)=false:=by simpa using k4
         have k4p:¬ p.kind=4:=fun e=>k4 ((uh HUK).trans e)
         have HG':=d9 (show rp (l.take (t + 1))=lg by rw [xg (uh HX),uh HLG];unfold ly;rw [if_neg k4p])
         have hsk:mu p=true:=by
          rcases tg (uh HPOK) with e | e | e | e
          ·unfold mu;simp [e]
          ·unfold mu;simp [e]
          ·exact absurd e k3p
          ·exact absurd e k4p
         by_cases hsi:si < 0
         ·have HS':=d9 (show Ap (l.take (t + 1))=(t:Int) by rw [zr (uh HX),uh HSI,if_pos hsi,if_pos hsk])
          clear k3 k4 k3p k4p
          go_wp2
          go_roundw
          case rel=>exact ⟨t + 1,by omega,by go_num,by rw [uh HS'],by rw [uh HL'],by rw [uh HH'],by rw [uh HG'],HF2,BF⟩
          case measure=>simp [intOf];omega
         ·have HS':=d9 (show Ap (l.take (t + 1))=si by rw [zr (uh HX),uh HSI,if_neg hsi])
          clear k3 k4 k3p k4p
          go_wp2
          go_roundw
          case rel=>exact ⟨t + 1,by omega,by go_num,by rw [uh HS'],by rw [uh HL'],by rw [uh HH'],by rw [uh HG'],HF2,BF⟩
          case measure=>simp [intOf];omega
      ·have hcs:(m1=true/\m0=false) ∨ (m1=false/\m0=true):=Zc hnn
       have HNO:=d9 (xm (uh HP0) (uh HPM) (Yt (by rw [hm1,hm0];simpa using hnn)))
       clear hm1 hm0 hnn
       rcases hcs with ⟨rfl,rfl⟩ | ⟨rfl,rfl⟩
       all_goals
        refine wp_region_quiet_below (by assumption) (by kernel_rfl) ?_
        repeat (go_big_quiet_step (first | (go_at_fn 51;with_reducible refine Calls.regrown_of (hP _ _)) | (go_at_fn 52;with_reducible refine Calls.regrown_of (hN1 _ _)) | (go_at_fn 52;with_reducible refine Calls.regrown_of (hN0 _ _))))
        refine wpQuiet_nil ?_
        intro _ hw'
        obtain ⟨⟨dq,osq⟩,hw''⟩:=hw'
        subst hw''
        have BF:=d9 (d8 (uh BZ) (below_regrown Z dq osq))
        generalize grow (redrawn Z dq) osq=V4 at BF ⊢
        clear z0 z1 z2 z3 z4 z5 zf
        have q9:=jn (uh X8) (uh BF)
        obtain ⟨z0,z1,z2,z3,z4,z5⟩:=qg q9
        have zf:=fun o=>gy (o:=o) q9
        clear q9
        go_wp2
        exact bodyPost_ret (v:=.tuple #[.agg #[.int .i64 0,.string ⟨#[]⟩,.slice none 0 0,.slice none 0 0,.int .i64 0,.int .i64 0],.bool false]) (by simp [results,Tryz.results15,go_sem, *]) rfl (by
         rw [uh HNO]
         exact ⟨⟨pc,rfl,pn _⟩,(((((((d8 (uh BX) (uh BF)).setCell (p:=⟨w.heap.size,0,none⟩) (Nat.le_refl _) _).setCell (p:=⟨w.heap.size,1,none⟩) (Nat.le_refl _) _).setCell (p:=⟨w.heap.size,2,none⟩) (Nat.le_refl _) _).setCell (p:=⟨w.heap.size,3,none⟩) (Nat.le_refl _) _).setCell (p:=⟨w.heap.size,4,none⟩) (Nat.le_refl _) _).setCell (p:=⟨w.heap.size,5,none⟩) (Nat.le_refl _) _)⟩)
     ·have hb1:(u.attr.toList == u0.attr.toList)=false:=mg hc
      have HNO:=d9 (xm (uh HP0) (uh HPM) (Yw (fun e=>hc (hat ▸ e))))
      clear hat hc
      refine wp_region_quiet_below (by assumption) (by kernel_rfl) ?_
      repeat (go_big_quiet_step (first | (go_at_fn 51;with_reducible refine Calls.regrown_of (hP _ _)) | (go_at_fn 52;with_reducible refine Calls.regrown_of (hN1 _ _)) | (go_at_fn 52;with_reducible refine Calls.regrown_of (hN0 _ _))))
      refine wpQuiet_nil ?_
      intro _ hw'
      obtain ⟨⟨dq,osq⟩,hw''⟩:=hw'
      subst hw''
      have BF:=d9 (d8 (uh BZ) (below_regrown Z dq osq))
      generalize grow (redrawn Z dq) osq=V4 at BF ⊢
      clear z0 z1 z2 z3 z4 z5 zf
      have q9:=jn (uh X8) (uh BF)
      obtain ⟨z0,z1,z2,z3,z4,z5⟩:=qg q9
      have zf:=fun o=>gy (o:=o) q9
      clear q9
      go_wp2
      exact bodyPost_ret (v:=.tuple #[.agg #[.int .i64 0,.string ⟨#[]⟩,.slice none 0 0,.slice none 0 0,.int .i64 0,.int .i64 0],.bool false]) (by simp [results,Tryz.results15,go_sem, *]) rfl (by
       rw [uh HNO]
       exact ⟨⟨pc,rfl,pn _⟩,(((((((d8 (uh BX) (uh BF)).setCell (p:=⟨w.heap.size,0,none⟩) (Nat.le_refl _) _).setCell (p:=⟨w.heap.size,1,none⟩) (Nat.le_refl _) _).setCell (p:=⟨w.heap.size,2,none⟩) (Nat.le_refl _) _).setCell (p:=⟨w.heap.size,3,none⟩) (Nat.le_refl _) _).setCell (p:=⟨w.heap.size,4,none⟩) (Nat.le_refl _) _).setCell (p:=⟨w.heap.size,5,none⟩) (Nat.le_refl _) _)⟩)
   ·have k1:¬ (t:Int) < (l.length:Int):=by omega
    obtain rfl:t=l.length:=by omega
    have htk:l.take l.length=l:=List.take_length
    have HFA:=d9 (show ∀ p ∈ l,Bb p0 p=true by have:=uh HF;rwa [htk] at this)
    have HMD:=d9 (Tc (uh HP0) (uh HFA))
    have HSA:=d9 (show Ap l=si by have:=uh HSI;rwa [htk] at this)
    have HLA:=d9 (show Ff l=lo0 by have:=uh HLO;rwa [htk] at this)
    have HHA:=d9 (show tw l=hi0 by have:=uh HHI;rwa [htk] at this)
    have HGA:=d9 (show rp l=lg by have:=uh HLG;rwa [htk] at this)
    have HOKA:=d9 (show ∀ p ∈ l,p.ok=true/\p.attr=p0.attr from fun p hp=>by
     have:=uh HFA p hp
     unfold Bb at this
     simp only [Bool.and_eq_true,decide_eq_true_eq] at this
     exact ⟨this.1,this.2.1⟩)
    obtain ⟨b,off,u0,hq,hb,hu0,d0,d1,d2,d3,d4,d5⟩:=((uh HH).below (uh HB)).at (uh HP0)
    subst hq
    simp only [Nat.zero_mul,Nat.add_zero] at d0 d1 d2 d3 d4 d5
    obtain ⟨W1,hW1⟩:∃ W1,W1=wr:=⟨_,rfl⟩
    subst hW1
    have HA0:=d9 hu0.2.1
    have HU0:=d9 hu0
    clear HSI HLO HHI HLG HF htk hu0
    by_cases hsi:si < 0
    ·have HFD:=d9 (Tl (l:=l) (by rw [uh HSA];exact hsi))
     have hsi2:¬ 0<=si:=by omega
     clear en51 en52
     go_upto_region 19 with (fail)
     obtain ⟨Y,HY⟩:∃ Y,W1.alloc (.cells #[.int .i64 0,.string u0.attr,.slice none 0 0,.slice none 0 0,.int .i64 0,.int .i64 0] 26)=Y:=⟨_,rfl⟩
     rw [HY]
     have bY:Below W1.heap.size W1 Y:=by rw [<- HY];exact (Below.refl _ _).alloc (Nat.le_refl _) _
     have Y8:=d9 (show Y.heap[W1.heap.size]? = some (.cells #[.int .i64 0,.string u0.attr,.slice none 0 0,.slice none 0 0,.int .i64 0,.int .i64 0] 26 (0,0)) by rw [<- HY];exact World.alloc_heap_new _ _)
     have BY:=d9 bY
     have hN0:=Ae u0 p0 Y (uh HU0).1
     obtain ⟨e0,e1,e2,e3,e4,e5⟩:Y.cell? ⟨b,off,none⟩=some (.int .i64 u0.kind)/\Y.cell? ⟨b,off + 1,none⟩=some (.string u0.attr)/\Y.cell? ⟨b,off + 2,none⟩=some (.slice u0.qi u0.ni u0.ci)/\Y.cell? ⟨b,off + 3,none⟩=some (.slice u0.qw u0.nw u0.cw)/\Y.cell? ⟨b,off + 4,none⟩=some (.int .i64 u0.lo)/\Y.cell? ⟨b,off + 5,none⟩=some (.int .i64 u0.hi):=⟨(bY.cell (p:=⟨b,_,none⟩) hb).trans d0,(bY.cell (p:=⟨b,_,none⟩) hb).trans d1,(bY.cell (p:=⟨b,_,none⟩) hb).trans d2,(bY.cell (p:=⟨b,_,none⟩) hb).trans d3,(bY.cell (p:=⟨b,_,none⟩) hb).trans d4,(bY.cell (p:=⟨b,_,none⟩) hb).trans d5⟩
     have HOK1:=d9 (show ∀ p ∈ l,p.ok=true from fun p hp=>(uh HOKA p hp).1)
     have HWL:=d9 (show jp lg=true by rw [<- uh HGA];exact L4 l ⟨#[]⟩ (uh HOK1) (by decide))
     clear bY hsi
     cases hk:xa p0 with
     | true =>
      rw [hk] at hN0
      have HMF:=d9 (show kz l=jr ⟨3,p0.attr,[],[],lo0,hi0⟩ by rw [uh HMD,hk];unfold vp;rw [uh HFD,uh HLA,uh HHA];rfl)
      clear hk
      go_upto_region 33 with (go_at_call 52;refine hN0.mono ?_;rintro e w3 ⟨rfl,b3⟩;have B3:=d9 b3;clear b3)
      clear HY e0 e1 e2 e3 e4 e5 d0 d1 d2 d3 d4 d5 hN0
      have g9:=jn (uh Y8) (uh B3)
      obtain ⟨y0,y1,y2,y3,y4,y5⟩:=qg g9
      have yf:=fun o=>gy (o:=o) g9
      have BX3:=d9 (d8 (uh HB) (d8 (uh BY) (uh B3)))
      obtain ⟨V,HV⟩:∃ V,((w3.setCell ⟨W1.heap.size,0,none⟩ (.int .i64 3)).setCell ⟨W1.heap.size,4,none⟩ (.int .i64 lo0)).setCell ⟨W1.heap.size,5,none⟩ (.int .i64 hi0)=V:=⟨_,rfl⟩
      have v9:V.heap[W1.heap.size]? = some (.cells #[.int .i64 3,.string u0.attr,.slice none 0 0,.slice none 0 0,.int .i64 lo0,.int .i64 hi0] 26 (0,0)):=by rw [<- HV];simp [World.setCell,Array.getElem?_modify,g9]
      obtain ⟨v0,v1,v2,v3,v4,v5⟩:=qg v9
      have hs1:=(uh HB).size
      have BXV:=d9 (show Below X.heap.size X V by rw [<- HV];exact (((uh BX3).setCell hs1 _).setCell hs1 _).setCell hs1 _)
      have hN:=rl ⟨3,u0.attr,none,0,0,none,0,0,lo0,hi0⟩ ⟨3,p0.attr,[],[],lo0,hi0⟩ V ⟨rfl,uh HA0,rfl,rfl,rfl,rfl,SlOf.none _,SlOf.none _⟩ ⟨by simp,by simp⟩
      have GLT:=d9 (show w.heap.size < V.heap.size from Nat.lt_of_lt_of_le (jc (uh X8)) (uh BXV).size)
      clear g9 v9
      go_wp2_with (go_at_call 17;refine hN.mono ?_;rintro e w6 ⟨⟨r,rfl,hr⟩,b6⟩;have R6:=d9 hr;have B6:=d9 (d8 (uh BXV) b6);clear hr b6;have q9:=jn (uh X8) (uh B6);(obtain ⟨z0,z1,z2,z3,z4,z5⟩:=qg q9);have zf:=fun o=>gy (o:=o) q9;clear q9)
      exact bodyPost_ret (v:=.tuple #[.agg #[.int .i64 r.kind,.string r.attr,.slice r.qi r.ni r.ci,.slice r.qw r.nw r.cw,.int .i64 r.lo,.int .i64 r.hi],.bool (jr ⟨3,p0.attr,[],[],lo0,hi0⟩).isSome]) (by simp [results,Tryz.results15,go_sem, *]) rfl (by
       rw [uh HMF]
       exact ⟨⟨r,rfl,vc (uh R6) (uh GLT) _ _ _ _ _ _⟩,(((((((d8 (uh BX) (uh B6)).setCell (p:=⟨w.heap.size,0,none⟩) (Nat.le_refl _) _).setCell (p:=⟨w.heap.size,1,none⟩) (Nat.le_refl _) _).setCell (p:=⟨w.heap.size,2,none⟩) (Nat.le_refl _) _).setCell (p:=⟨w.heap.size,3,none⟩) (Nat.le_refl _) _).setCell (p:=⟨w.heap.size,4,none⟩) (Nat.le_refl _) _).setCell (p:=⟨w.heap.size,5,none⟩) (Nat.le_refl _) _)⟩)
     | false =>
      rw [hk] at hN0
      have HMF0:=d9 (show kz l=if km l 2 0 lg then jr ⟨4,p0.attr,[],[lg],0,0⟩ else none by rw [uh HMD,hk,A7 (uh HOK1) (uh HWL)];unfold vp;rw [uh HFD,uh HGA];rfl)
      clear hk
      obtain ⟨R,hR⟩:∃ R,km l 2 0 lg=R:=⟨_,rfl⟩
      rw [hR] at HMF0
      have hE:=fun (W:World) (hW:Below W1.heap.size W1 W)=>Cq (some ⟨b,off,none⟩) c l 2 0 lg W ((uh HH).below (d8 (uh HB) hW)) (uh HS) hl
      rw [hR] at hE
      clear hR
      cases R with
      | false =>
       have HNO:=d9 (show kz l=none from uh HMF0)
       go_upto_region 36 with (first
        | (go_at_call 52;refine hN0.mono ?_;rintro e w3 ⟨rfl,b3⟩;have B3:=d9 (d8 (uh BY) b3);clear b3)
        | (go_at_call 53;refine (hE _ (uh B3)).mono ?_;rintro e w4 ⟨rfl,b4⟩;have B4:=d9 (d8 (uh HB) (d8 (uh B3) b4));clear b4))
       have q9:=jn (uh X8) (uh B4)
       obtain ⟨z0,z1,z2,z3,z4,z5⟩:=qg q9
       have zf:=fun o=>gy (o:=o) q9
       clear q9
       go_wp2
       exact bodyPost_ret (v:=.tuple #[.agg #[.int .i64 0,.string ⟨#[]⟩,.slice none 0 0,.slice none 0 0,.int .i64 0,.int .i64 0],.bool false]) (by simp [results,Tryz.results15,go_sem, *]) rfl (by
        rw [uh HNO]
        exact ⟨⟨pc,rfl,pn _⟩,(((((((d8 (uh BX) (uh B4)).setCell (p:=⟨w.heap.size,0,none⟩) (Nat.le_refl _) _).setCell (p:=⟨w.heap.size,1,none⟩) (Nat.le_refl _) _).setCell (p:=⟨w.heap.size,2,none⟩) (Nat.le_refl _) _).setCell (p:=⟨w.heap.size,3,none⟩) (Nat.le_refl _) _).setCell (p:=⟨w.heap.size,4,none⟩) (Nat.le_refl _) _).setCell (p:=⟨w.heap.size,5,none⟩) (Nat.le_refl _) _)⟩)
      | true =>
       have HMF:=d9 (show kz l=jr ⟨4,p0.attr,[],[lg],0,0⟩ from uh HMF0)
       go_upto_region 37 with (first
        | (go_at_call 52;refine hN0.mono ?_;rintro e w3 ⟨rfl,b3⟩;have B3:=d9 (d8 (uh BY) b3);have B33:=d9 b3;clear b3)
        | (go_at_call 53;refine (hE _ (uh B3)).mono ?_;rintro e w4 ⟨rfl,b4⟩;have B4:=d9 (d8 (uh B3) b4);have B44:=d9 (d8 (uh B33) b4);clear b4))
       clear HY e0 e1 e2 e3 e4 e5 d0 d1 d2 d3 d4 d5 hN0 hE
       obtain ⟨W5,HW5⟩:∃ W5,w4.alloc (.cells #[.string lg] 9)=W5:=⟨_,rfl⟩
       have b5:Below w4.heap.size w4 W5:=by rw [<- HW5];exact (Below.refl _ _).alloc (Nat.le_refl _) _
       have hsl:SlOf jy 1 W5 (some ⟨w4.heap.size,0,none⟩) 1 [lg]:=by
        rw [<- HW5]
        exact ⟨(fun h=>by cases h),Nat.le_refl _,(by unfold maxLen;decide),fun _=>⟨w4.heap.size,0,rfl,(by simp),fun j u hj=>by
         rw [vj] at hj
         have:=zu (World.alloc_heap_new w4 (.cells #[.string lg] 9)) j u hj
         rwa [nz] at this⟩⟩
       have g9:=jn (uh Y8) (d8 (uh B44) b5)
       obtain ⟨y0,y1,y2,y3,y4,y5⟩:=qg g9
       have yf:=fun o=>gy (o:=o) g9
       have BX3:=d9 (d8 (uh HB) (d8 (uh B4) b5))
       obtain ⟨V,HV⟩:∃ V,(W5.setCell ⟨W1.heap.size,0,none⟩ (.int .i64 4)).setCell ⟨W1.heap.size,3,none⟩ (.slice (some ⟨w4.heap.size,0,none⟩) 1 1)=V:=⟨_,rfl⟩
       have v9:V.heap[W1.heap.size]? = some (.cells #[.int .i64 4,.string u0.attr,.slice none 0 0,.slice (some ⟨w4.heap.size,0,none⟩) 1 1,.int .i64 0,.int .i64 0] 26 (0,0)):=by rw [<- HV];simp [World.setCell,Array.getElem?_modify,g9]
       obtain ⟨v0,v1,v2,v3,v4,v5⟩:=qg v9
       have hs1:=(uh HB).size
       have BXV:=d9 (show Below X.heap.size X V by rw [<- HV];exact ((uh BX3).setCell hs1 _).setCell hs1 _)
       have hne:∀ ad:Addr,some (⟨w4.heap.size,0,none⟩:Addr)=some ad->ad.block ≠ W1.heap.size:=fun ad e=>by
        cases e
        have h1:=jc (uh Y8)
        have h2:=(uh B44).size
        simp only
        omega
       have hN:=rl ⟨4,u0.attr,none,0,0,some ⟨w4.heap.size,0,none⟩,1,1,0,0⟩ ⟨4,p0.attr,[],[lg],0,0⟩ V ⟨rfl,uh HA0,rfl,rfl,rfl,rfl,SlOf.none _,by rw [<- HV];exact Ma (Ma hsl hne 0 _) hne 3 _⟩ ⟨by simp,by simp⟩
       have GLT:=d9 (show w.heap.size < V.heap.size from Nat.lt_of_lt_of_le (jc (uh X8)) (uh BXV).size)
       clear g9 v9 hne hsl b5
       go_wp2_with (go_at_call 17;refine hN.mono ?_;rintro e w6 ⟨⟨r,rfl,hr⟩,b6⟩;have R6:=d9 hr;have B6:=d9 (d8 (uh BXV) b6);clear hr b6;have q9:=jn (uh X8) (uh B6);(obtain ⟨z0,z1,z2,z3,z4,z5⟩:=qg q9);have zf:=fun o=>gy (o:=o) q9;clear q9)
       exact bodyPost_ret (v:=.tuple #[.agg #[.int .i64 r.kind,.string r.attr,.slice r.qi r.ni r.ci,.slice r.qw r.nw r.cw,.int .i64 r.lo,.int .i64 r.hi],.bool (jr ⟨4,p0.attr,[],[lg],0,0⟩).isSome]) (by simp [results,Tryz.results15,go_sem, *]) rfl (by
        rw [uh HMF]
        exact ⟨⟨r,rfl,vc (uh R6) (uh GLT) _ _ _ _ _ _⟩,(((((((d8 (uh BX) (uh B6)).setCell (p:=⟨w.heap.size,0,none⟩) (Nat.le_refl _) _).setCell (p:=⟨w.heap.size,1,none⟩) (Nat.le_refl _) _).setCell (p:=⟨w.heap.size,2,none⟩) (Nat.le_refl _) _).setCell (p:=⟨w.heap.size,3,none⟩) (Nat.le_refl _) _).setCell (p:=⟨w.heap.size,4,none⟩) (Nat.le_refl _) _).setCell (p:=⟨w.heap.size,5,none⟩) (Nat.le_refl _) _)⟩)
    ·obtain ⟨i,s,e1,hs1,hs2,hs3⟩:=Rb (l:=l) (by rw [uh HSA];exact hsi)
     obtain rfl:si=(i:Int):=by rw [<- uh HSA,e1]
     have hil:i < l.length:=(List.getElem?_eq_some_iff.1 hs1).1
     obtain ⟨b',off',us,hq',hb',hus,a0,a1,a2,a3,a4,a5⟩:=((uh HH).below (uh HB)).at hs1
     cases hq'
     have j0:(0:Int)<=(i:Int):=by omega
     have j1:(i:Int) < (l.length:Int):=by omega
     obtain ⟨Y,HY⟩:∃ Y,W1.alloc (.cells #[.int .i64 us.kind,.string u0.attr,.slice none 0 0,.slice none 0 0,.int .i64 0,.int .i64 0] 26)=Y:=⟨_,rfl⟩
     have bY:Below W1.heap.size W1 Y:=by rw [<- HY];exact (Below.refl _ _).alloc (Nat.le_refl _) _
     have y8:Y.heap[W1.heap.size]? = some (.cells #[.int .i64 us.kind,.string u0.attr,.slice none 0 0,.slice none 0 0,.int .i64 0,.int .i64 0] 26 (0,0)):=by rw [<- HY];exact World.alloc_heap_new _ _
     have Y8:=d9 y8
     have BY:=d9 bY
     have HUS:=d9 hus
     have HSM:=d9 hs1
     have HFD:=d9 hs2
     have HSK:=d9 hs3
     have HBB:=d9 hb
     have HCS:=d9 (fun (V:World) (hV:Below W1.heap.size W1 V)=>And.intro ((hV.cell (p:=⟨b,_,none⟩) hb).trans a0) (And.intro ((hV.cell (p:=⟨b,_,none⟩) hb).trans a2) ((hV.cell (p:=⟨b,_,none⟩) hb).trans a3)))
     have hniI:us.ni=s.ints.length:=hus.2.2.1
     have hnwI:us.nw=s.words.length:=hus.2.2.2.1
     rw [hniI] at HCS
     rw [hnwI] at HCS
     have hsmS:=uh HS s (List.mem_of_getElem? hs1)
     have li9:(s.ints.length:Int)<=100000000000000:=by have:=hsmS.1;omega
     have lw9:(s.words.length:Int)<=100000000000000:=by have:=hsmS.2;omega
     have hlen64:s.ints.length<=64/\s.words.length<=64:=Rd (uh HOKA s (List.mem_of_getElem? hs1)).1
     clear e1 hs1 hs2 hs3 hus hniI hnwI hsmS y8 bY hb'
     go_upto_region 21 with (fail)
     clear HY a0 a1 a2 a3 a4 a5 d0 d1 d2 d3 d4 d5
     go_wp2
     go_loopw [11] (fun iv V=>∃ (t:Nat) (q':Option Addr) (m c':Nat),t<=s.ints.length/\iv=.int .i64 t/\Hid (((s.ints.take t).filter fun x=>km l 1 x ⟨#[]⟩).length=m)/\Hid (V.heap[W1.heap.size]? = some (.cells #[.int .i64 us.kind,.string u0.attr,.slice q' m c',.slice none 0 0,.int .i64 0,.int .i64 0] 26 (0,0)))/\Hid (OwnK jq 3 1 (W1.heap.size + 1) V q' c' ((s.ints.take t).filter fun x=>km l 1 x ⟨#[]⟩))/\Hid (Below W1.heap.size W1 V)) (fun iv _=>s.ints.length - (intOf iv).toNat)
     case atStart=>exact ⟨0,none,0,0,Nat.zero_le _,rfl,d9 rfl,Y8,d9 (OwnK.nil _ _),BY⟩
     case round =>
      obtain ⟨t,q',m,c',ht,rfl,HML,HBX,HO,HBV⟩:=hrel
      obtain ⟨V,hV⟩:∃ V,V=wr:=⟨_,rfl⟩
      subst hV
      obtain ⟨a0,a2,a3⟩:=uh HCS V (uh HBV)
      by_cases hlt:t < s.ints.length
      ·obtain ⟨x,hx,_⟩:=je hlt
       obtain ⟨bi,oi,hqi,hbi,xc⟩:=mh ((uh HUS).keep (uh HBV)).2.2.2.2.2.2.1 hx
       rw [hqi] at a2
       have t0:(0:Int)<=(t:Int):=by omega
       have t1:(t:Int) < (s.ints.length:Int):=by omega
       have hE:=Cq (some ⟨b,off,none⟩) c l 1 x ⟨#[]⟩ V ((uh HH).below (d8 (uh HB) (uh HBV))) (uh HS) hl
       obtain ⟨R,hR⟩:∃ R,km l 1 x ⟨#[]⟩=R:=⟨_,rfl⟩
       rw [hR] at hE
       have HR:=d9 hR
       have HX1:=d9 hx
       have HQI:=d9 hqi
       have HXC:=d9 (And.intro hbi xc)
       clear hR hx
       cases R with
       | false =>
        have HFL:=d9 (show ((s.ints.take (t + 1)).filter fun x=>km l 1 x ⟨#[]⟩)=(s.ints.take t).filter fun x=>km l 1 x ⟨#[]⟩ by rw [jh (uh HX1),List.filter_append];simp [uh HR])
        go_wp2_with (go_at_call 53;refine hE.mono ?_;rintro e V2 ⟨rfl,b2⟩;have B2:=d9 b2;clear b2)
        go_roundw
        case rel=>exact ⟨t + 1,q',m,c',by omega,by go_num,d9 (by rw [uh HFL];exact uh HML),d9 (jn (uh HBX) (uh B2)),d9 (by rw [uh HFL];exact (uh HO).below (uh B2)),d9 (d8 (uh HBV) (uh B2))⟩
        case measure=>simp [intOf];omega
       | true =>
        have HFL:=d9 (show ((s.ints.take (t + 1)).filter fun x=>km l 1 x ⟨#[]⟩)=((s.ints.take t).filter fun x=>km l 1 x ⟨#[]⟩) ++ [x] by rw [jh (uh HX1),List.filter_append];simp [uh HR])
        obtain ⟨L,hL⟩:∃ L,((s.ints.take t).filter fun x=>km l 1 x ⟨#[]⟩)=L:=⟨_,rfl⟩
        rw [hL] at HFL HO HML
        have hm64:m<=64:=by have h1:=uh HML;have h2:=List.length_filter_le (fun x=>km l 1 x ⟨#[]⟩) (s.ints.take t);rw [hL,List.length_take] at h2;omega
        clear hL
        go_upto_region 25 with (go_at_call 53;refine hE.mono ?_;rintro e V2 ⟨rfl,b2⟩;have B2:=d9 b2;clear b2)
        clear hE a0 a2 a3 xc
        have BV2:=d9 (d8 (uh HBV) (uh B2))
        obtain ⟨a0,a2,a3⟩:=uh HCS V2 (uh BV2)
        rw [uh HQI] at a2
        have xc:=((uh B2).cell (p:=⟨bi,_,none⟩) (uh HXC).1).trans (uh HXC).2
        have f9:=jn (uh HBX) (uh B2)
        have F9:=d9 f9
        obtain ⟨f0,f1,f2,f3,f4,f5⟩:=qg f9
        have hA:=(Below.refl V2.heap.size V2).alloc (Nat.le_refl _) (.cells #[.int .i64 x] 3)
        obtain ⟨g0,g1,g2,g3,g4,g5⟩:=qg (jn f9 hA)
        have O2:=d9 (((uh HO).below (uh B2)).below hA)
        have S2:=d9 (ru V2 x)
        have SZ2:=d9 (show W1.heap.size + 1<=V2.heap.size from jc f9)
        clear f9 hA
        go_region_law (first
         | (refine Hk Kf (by rfl) (.tmp 113) (.tmp 122) (by rfl) (W1.heap.size + 1) q' c' L (some ⟨V2.heap.size,0,none⟩) 1 [x] m 1 (m + 1) (uh HML) rfl rfl (by rfl) (by rfl) (Ag (by rfl) (uh O2)) (An (by rfl) (uh S2)) (by unfold maxLen;omega) (by omega) (by have:=uh SZ2;simp;omega) ?_;intro q5 c5 w5 o5 b5 _ g5;have O5:=d9 o5;have k9:=uh (Rk (uh F9) (uh O2) (uh HML) w5 g5);have K9:=d9 k9;(obtain ⟨k0,k1,k2,k3,k4,k5⟩:=qg k9);have kf:=fun o=>gy (o:=o) k9;have B5:=d9 (P5 (uh O2) (uh HML) w5 g5 (uh BV2));clear o5 b5 g5 k9))
        all_goals
         go_wp2
         go_roundw
         case rel=>exact ⟨t + 1,q5,m + 1,c5,by omega,by go_num,d9 (by rw [uh HFL,List.length_append,uh HML];rfl),d9 (Nt (uh K9) _),d9 (by rw [uh HFL];exact Ng (uh O5) (Nat.lt_succ_self _) 2 _),d9 ((uh B5).setCell (Nat.le_refl _) _)⟩
         case measure=>simp [intOf];omega
      ·have t1:¬ (t:Int) < (s.ints.length:Int):=by omega
       obtain ⟨LI,hLI⟩:∃ L,(s.ints.filter fun x=>km l 1 x ⟨#[]⟩)=L:=⟨_,rfl⟩
       have htk:s.ints.take t=s.ints:=List.take_of_length_le (by omega)
       rw [htk,hLI] at HML HO
       have HLD:=d9 hLI
       obtain ⟨V1,hV1⟩:∃ V1,V1=V:=⟨_,rfl⟩
       subst hV1
       obtain ⟨qI,rfl⟩:∃ z,z=q':=⟨_,rfl⟩
       obtain ⟨mI,rfl⟩:∃ z,z=m:=⟨_,rfl⟩
       obtain ⟨cI,rfl⟩:∃ z,z=c':=⟨_,rfl⟩
       have HBI:=HBX
       have HBW:=HBV
       have HSI9:=d9 (uh HO).ls
       have HMI:=HML
       have FRI:=d9 (show ∀ ad,qI=some ad->ad.block < V1.heap.size from fun ad e=>Mo (uh HO) e)
       have FRN:=d9 (show ∀ ad,qI=some ad->ad.block ≠ W1.heap.size from fun ad e=>by have:=(uh HO).from ad e;omega)
       have SZ1:=d9 (show W1.heap.size < V1.heap.size from jc (uh HBX))
       have SZ0:=d9 (show W1.heap.size<=V1.heap.size from Nat.le_of_lt (jc (uh HBX)))
       clear hLI htk HBX HBV HO HML
       go_wp2
       clear a0 a2 a3
       go_loopw [12] (fun iv V=>∃ (t:Nat) (q':Option Addr) (m c':Nat),t<=s.words.length/\iv=.int .i64 t/\Hid (((s.words.take t).filter fun x=>km l 2 0 x).length=m)/\Hid (V.heap[W1.heap.size]? = some (.cells #[.int .i64 us.kind,.string u0.attr,.slice qI mI cI,.slice q' m c',.int .i64 0,.int .i64 0] 26 (0,0)))/\Hid (OwnK jy 9 1 V1.heap.size V q' c' ((s.words.take t).filter fun x=>km l 2 0 x))/\Hid (Below W1.heap.size W1 V)/\Hid (V1.heap.size<=V.heap.size)/\Hid (SlOf jq 1 V qI cI LI)) (fun iv _=>s.words.length - (intOf iv).toNat)
       case atStart=>exact ⟨0,none,0,0,Nat.zero_le _,rfl,d9 rfl,HBI,d9 (OwnK.nil _ _),HBW,d9 (Nat.le_refl _),HSI9⟩
       case round =>
        obtain ⟨t,q',m,c',ht,rfl,HML,HBX,HO,HBV,HVS,HLI⟩:=hrel
        obtain ⟨V,hV⟩:∃ V,V=wr:=⟨_,rfl⟩
        subst hV
        obtain ⟨a0,a2,a3⟩:=uh HCS V (uh HBV)
        by_cases hlt:t < s.words.length
        ·obtain ⟨x,hx,_⟩:=je hlt
         obtain ⟨bi,oi,hqi,hbi,xc⟩:=j6 ((uh HUS).keep (uh HBV)).2.2.2.2.2.2.2 hx
         rw [hqi] at a3
         have t0:(0:Int)<=(t:Int):=by omega
         have t1:(t:Int) < (s.words.length:Int):=by omega
         have hE:=Cq (some ⟨b,off,none⟩) c l 2 0 x V ((uh HH).below (d8 (uh HB) (uh HBV))) (uh HS) hl
         obtain ⟨R,hR⟩:∃ R,km l 2 0 x=R:=⟨_,rfl⟩
         rw [hR] at hE
         have HR:=d9 hR
         have HX1:=d9 hx
         have HQI:=d9 hqi
         have HXC:=d9 (And.intro hbi xc)
         clear hR hx
         cases R with
         | false =>
          have HFL:=d9 (show ((s.words.take (t + 1)).filter fun x=>km l 2 0 x)=(s.words.take t).filter fun x=>km l 2 0 x by rw [jh (uh HX1),List.filter_append];simp [uh HR])
          go_wp2_with (go_at_call 53;refine hE.mono ?_;rintro e V2 ⟨rfl,b2⟩;have B2:=d9 b2;clear b2)
          go_roundw
          case rel=>exact ⟨t + 1,q',m,c',by omega,by go_num,d9 (by rw [uh HFL];exact uh HML),d9 (jn (uh HBX) (uh B2)),d9 (by rw [uh HFL];exact (uh HO).below (uh B2)),d9 (d8 (uh HBV) (uh B2)),d9 (Nat.le_trans (uh HVS) (uh B2).size),d9 ((uh HLI).below (uh B2))⟩
          case measure=>simp [intOf];omega
         | true =>
          have HFL:=d9 (show ((s.words.take (t + 1)).filter fun x=>km l 2 0 x)=((s.words.take t).filter fun x=>km l 2 0 x) ++ [x] by rw [jh (uh HX1),List.filter_append];simp [uh HR])
          obtain ⟨L,hL⟩:∃ L,((s.words.take t).filter fun x=>km l 2 0 x)=L:=⟨_,rfl⟩
          rw [hL] at HFL HO HML
          have hm64:m<=64:=by have h1:=uh HML;have h2:=List.length_filter_le (fun x=>km l 2 0 x) (s.words.take t);rw [hL,List.length_take] at h2;omega
          clear hL
          go_upto_region 30 with (go_at_call 53;refine hE.mono ?_;rintro e V2 ⟨rfl,b2⟩;have B2:=d9 b2;clear b2)
          clear hE a0 a2 a3 xc
          have BV2:=d9 (d8 (uh HBV) (uh B2))
          obtain ⟨a0,a2,a3⟩:=uh HCS V2 (uh BV2)
          rw [uh HQI] at a3
          have xc:=((uh B2).cell (p:=⟨bi,_,none⟩) (uh HXC).1).trans (uh HXC).2
          have f9:=jn (uh HBX) (uh B2)
          have F9:=d9 f9
          obtain ⟨f0,f1,f2,f3,f4,f5⟩:=qg f9
          have hA:=(Below.refl V2.heap.size V2).alloc (Nat.le_refl _) (.cells #[.string x] 9)
          obtain ⟨g0,g1,g2,g3,g4,g5⟩:=qg (jn f9 hA)
          have O2:=d9 (((uh HO).below (uh B2)).below hA)
          have S2:=d9 (ro V2 x)
          have SZ3:=d9 (show V1.heap.size<=V2.heap.size from Nat.le_trans (uh HVS) (uh B2).size)
          have HLI2:=d9 (((uh HLI).below (uh B2)).below hA)
          clear f9 hA
          go_region_law (first
           | (refine Hk Ju (by rfl) (.tmp 147) (.tmp 156) (by rfl) V1.heap.size q' c' L (some ⟨V2.heap.size,0,none⟩) 1 [x] m 1 (m + 1) (uh HML) rfl rfl (by rfl) (by rfl) (Ag (by rfl) (uh O2)) (An (by rfl) (uh S2)) (by unfold maxLen;omega) (by omega) (by have:=uh SZ3;simp;omega) ?_;intro q5 c5 w5 o5 b5 _ g5;have O5:=d9 o5;have k9:=uh (Mz (uh F9) (uh O2) (uh HML) (uh SZ1) w5 g5);have K9:=d9 k9;(obtain ⟨k0,k1,k2,k3,k4,k5⟩:=qg k9);have kf:=fun o=>gy (o:=o) k9;have B5:=d9 (Kz (uh O2) (uh HML) (uh SZ0) w5 g5 (uh BV2));have L5:=d9 (R8 (uh HLI2) (uh O2) (uh HML) (uh FRI) w5 g5);have Z5:=d9 (show V1.heap.size<=w5.heap.size by have h1:=g5.size;have h2:=uh SZ3;simp at h1;omega);clear o5 b5 g5 k9))
          all_goals
           go_wp2
           go_roundw
           case rel=>exact ⟨t + 1,q5,m + 1,c5,by omega,by go_num,d9 (by rw [uh HFL,List.length_append,uh HML];rfl),d9 (Nl (uh K9) _),d9 (by rw [uh HFL];exact Ng (uh O5) (uh SZ1) 3 _),d9 ((uh B5).setCell (Nat.le_refl _) _),d9 (by simpa using uh Z5),d9 (Ma (uh L5) (uh FRN) 3 _)⟩
           case measure=>simp [intOf];omega
        ·have t1:¬ (t:Int) < (s.words.length:Int):=by omega
         obtain ⟨LW,hLW⟩:∃ L,(s.words.filter fun x=>km l 2 0 x)=L:=⟨_,rfl⟩
         have htk:s.words.take t=s.words:=List.take_of_length_le (by omega)
         rw [htk,hLW] at HML HO
         have HMF:=d9 (show kz l=jr ⟨s.kind,p0.attr,LI,LW,0,0⟩ by rw [uh HMD,Q7 (uh HFD) (fun p hp=>(uh HOKA p hp).1),uh HLD,hLW])
         have hli:=List.length_filter_le (fun x=>km l 1 x ⟨#[]⟩) s.ints
         have hlw:=List.length_filter_le (fun x=>km l 2 0 x) s.words
         rw [uh HLD] at hli
         rw [hLW] at hlw
         have hN:=rl ⟨us.kind,u0.attr,qI,mI,cI,q',m,c',0,0⟩ ⟨s.kind,p0.attr,LI,LW,0,0⟩ V ⟨(uh HUS).1,uh HA0,(uh HMI).symm,(uh HML).symm,rfl,rfl,uh HLI,(uh HO).ls⟩ ⟨Nat.le_trans hli (by omega),Nat.le_trans hlw (by omega)⟩
         obtain ⟨f0,f1,f2,f3,f4,f5⟩:=kq (uh HBX)
         have BXV:=d9 (d8 (uh HB) (uh HBV))
         have GLT:=d9 (show w.heap.size < V.heap.size from Nat.lt_of_lt_of_le (jc (uh X8)) (uh BXV).size)
         clear hLW htk hli hlw
         go_wp2_with (go_at_call 17;refine hN.mono ?_;rintro e w6 ⟨⟨r,rfl,hr⟩,b6⟩;have R6:=d9 hr;have B6:=d9 (d8 (uh BXV) b6);clear hr b6;have q9:=jn (uh X8) (uh B6);(obtain ⟨z0,z1,z2,z3,z4,z5⟩:=qg q9);have zf:=fun o=>gy (o:=o) q9;clear q9)
         exact bodyPost_ret (v:=.tuple #[.agg #[.int .i64 r.kind,.string r.attr,.slice r.qi r.ni r.ci,.slice r.qw r.nw r.cw,.int .i64 r.lo,.int .i64 r.hi],.bool (jr ⟨s.kind,p0.attr,LI,LW,0,0⟩).isSome]) (by simp [results,Tryz.results15,go_sem, *]) rfl (by
          rw [uh HMF]
          exact ⟨⟨r,rfl,vc (uh R6) (uh GLT) _ _ _ _ _ _⟩,(((((((d8 (uh BX) (uh B6)).setCell (p:=⟨w.heap.size,0,none⟩) (Nat.le_refl _) _).setCell (p:=⟨w.heap.size,1,none⟩) (Nat.le_refl _) _).setCell (p:=⟨w.heap.size,2,none⟩) (Nat.le_refl _) _).setCell (p:=⟨w.heap.size,3,none⟩) (Nat.le_refl _) _).setCell (p:=⟨w.heap.size,4,none⟩) (Nat.le_refl _) _).setCell (p:=⟨w.heap.size,5,none⟩) (Nat.le_refl _) _)⟩)
end Go.Proofs.YtimklglliffpcaaGreat
namespace Go.Proofs.YtimklglliffpcaaGreat
open Go.RowKit Go.Sort Go.Shelf
theorem Lf (a b:Int) (w:World):Calls Tryz.prog 73 #[.int .i64 a,.int .i64 b] w fun e w'=>e=.returned (.int .i64 (kc a b))/\Below w.heap.size w w':=(k8 a b w).mono (by rintro e w' ⟨h1,rfl⟩;exact ⟨h1,Below.refl _ _⟩)
theorem zb4 {a b c d e f:Int} (h:¬ a=0):a=Bn [a,b,c,d,e,f]:=by rw [zv,if_neg h]
theorem za0 {b c d e f:Int} (h:¬ b=0):b=Bn [0,b,c,d,e,f]:=by rw [zv,if_pos rfl,if_neg h]
theorem Yr {c d e f:Int} (h:¬ c=0):c=Bn [0,0,c,d,e,f]:=by rw [zv,if_pos rfl,if_pos rfl,if_neg h]
theorem Jz {d e f:Int} (h:¬ d=0):d=Bn [0,0,0,d,e,f]:=by rw [zv,if_pos rfl,if_pos rfl,if_pos rfl,if_neg h]
theorem Ro {e f:Int} (h:¬ e=0):e=Bn [0,0,0,0,e,f]:=by rw [zv,if_pos rfl,if_pos rfl,if_pos rfl,if_pos rfl,if_neg h]
theorem Q3 (f:Int):f=Bn [0,0,0,0,0,f]:=by rw [zv];simp
theorem C8 {α:Type} (c:α->α->Int) {l m:List α} {k:Nat} (h1:k<=l.length) (h2:k<=m.length) (h:¬ (k < l.length/\k < m.length)):lc c (l.drop k) (m.drop k)=kc (l.length:Int) (m.length:Int):=by
 by_cases hl:k=l.length
 ·subst hl
  rw [List.drop_length]
  by_cases hm:l.length=m.length
  ·rw [hm,List.drop_length]
   exact (M3 rfl).symm
  ·obtain ⟨y,r,hy⟩:∃ y r,m.drop l.length=y :: r:=by
    cases hd:m.drop l.length with
    | nil=>have:=List.drop_eq_nil_iff.1 hd;omega
    | cons y r=>exact ⟨y,r,rfl⟩
   rw [hy,C5 (by omega)]
   rfl
 ·have hm:k=m.length:=by omega
  subst hm
  rw [List.drop_length]
  obtain ⟨y,r,hy⟩:∃ y r,l.drop m.length=y :: r:=by
   cases hd:l.drop m.length with
   | nil=>have:=List.drop_eq_nil_iff.1 hd;omega
   | cons y r=>exact ⟨y,r,rfl⟩
  rw [hy,Ct (by omega)]
  rfl
set_option maxHeartbeats 16000000 in
set_option maxRecDepth 100000 in
theorem J0 (u v:Pv) (p r:Pd) (w:World) (hu:PdIn w u p) (hv:PdIn w v r) (hs:p.small) (hfa:p.attr.size<=maxLen) (hfw:∀ x ∈ p.words,x.size<=maxLen) :
  Calls Tryz.prog 21 #[.agg #[.int .i64 u.kind,.string u.attr,.slice u.qi u.ni u.ci,.slice u.qw u.nw u.cw,.int .i64 u.lo,.int .i64 u.hi],.agg #[.int .i64 v.kind,.string v.attr,.slice v.qi v.ni v.ci,.slice v.qw v.nw v.cw,.int .i64 v.lo,.int .i64 v.hi]] w fun e w'=>e=.returned (.int .i64 (pe p r))/\Below w.heap.size w w':=by
 have mixed:Tryz.prog.follows .mixedOrders=true:=by kernel_rfl
 have en72:∀ args w,(callFunc 72 args).run Tryz.prog w=.ok (.enter 72 args) w:=enters_of Tryz.func72 (by kernel_rfl) rfl
 have en73:∀ args w,(callFunc 73 args).run Tryz.prog w=.ok (.enter 73 args) w:=enters_of Tryz.func73 (by kernel_rfl) rfl
 obtain ⟨X,HX,bX,sX,x8,x9⟩:=pa w u v
 obtain ⟨u1,u2,u3,u4,u5,u6,u7,u8⟩:=hu
 obtain ⟨v1,v2,v3,v4,v5,v6,v7,v8⟩:=hv
 have i1:(p.ints.length:Int)<=100000000000000:=by have:=hs.1;omega
 have i2:(p.words.length:Int)<=100000000000000:=by have:=hs.2;omega
 have HCX:=d9 (show ∀ W',Below X.heap.size X W'->(W'.cell? ⟨w.heap.size,0,none⟩=some (.int .i64 u.kind)/\W'.cell? ⟨w.heap.size,1,none⟩=some (.string u.attr)/\W'.cell? ⟨w.heap.size,2,none⟩=some (.slice u.qi p.ints.length u.ci)/\W'.cell? ⟨w.heap.size,3,none⟩=some (.slice u.qw p.words.length u.cw)/\W'.cell? ⟨w.heap.size,4,none⟩=some (.int .i64 u.lo)/\W'.cell? ⟨w.heap.size,5,none⟩=some (.int .i64 u.hi)/\W'.cell? ⟨w.heap.size + 1,0,none⟩=some (.int .i64 v.kind)/\W'.cell? ⟨w.heap.size + 1,1,none⟩=some (.string v.attr)/\W'.cell? ⟨w.heap.size + 1,2,none⟩=some (.slice v.qi r.ints.length v.ci)/\W'.cell? ⟨w.heap.size + 1,3,none⟩=some (.slice v.qw r.words.length v.cw)/\W'.cell? ⟨w.heap.size + 1,4,none⟩=some (.int .i64 v.lo)/\W'.cell? ⟨w.heap.size + 1,5,none⟩=some (.int .i64 v.hi)) from fun W' hW=>by
  obtain ⟨a0,a1,a2,a3,a4,a5⟩:=kq ((hW.block w.heap.size (by omega)).trans x8)
  obtain ⟨b0,b1,b2,b3,b4,b5⟩:=kq ((hW.block (w.heap.size + 1) (by omega)).trans x9)
  rw [u3] at a2
  rw [u4] at a3
  rw [v3] at b2
  rw [v4] at b3
  exact ⟨a0,a1,a2,a3,a4,a5,b0,b1,b2,b3,b4,b5⟩)
 have HE:=d9 (show Bn [kp u.attr v.attr,kc u.kind v.kind,lc kc p.ints r.ints,lc kp p.words r.words,kc u.lo v.lo,kc u.hi v.hi]=pe p r by
  unfold pe
  rw [u1,v1,u2,v2,u5,v5,u6,v6])
 have SI1:=d9 (u7.below bX)
 have SI2:=d9 (v7.below bX)
 have SW1:=d9 (u8.below bX)
 have SW2:=d9 (v8.below bX)
 have BX:=d9 bX
 have BC:Hid (Below X.heap.size X X):=d9 (Below.refl _ _)
 have hT:=sx u.attr v.attr X (by rw [u2];exact hfa)
 obtain ⟨z1,hz1⟩:∃ z,kp u.attr v.attr=z:=⟨_,rfl⟩
 have hz1':ri u.attr.data.toList v.attr.data.toList=z1:=hz1
 rw [hz1'] at hT
 have HZ1:=d9 hz1
 obtain ⟨z2,hz2⟩:∃ z,kc u.kind v.kind=z:=⟨_,rfl⟩
 have h2:=k8 u.kind v.kind
 rw [hz2] at h2
 have HZ2:=d9 hz2
 obtain ⟨a0,a1,a2,a3,a4,a5,b0,b1,b2,b3,b4,b5⟩:=uh HCX X (uh BC)
 clear hz1 hz1' hz2 bX x8 x9 u1 u2 u5 u6 u7 u8 v1 v2 v5 v6 v7 v8 u3 u4 v3 v4 hs
 go_enter Tryz.func21,Tryz.ntmps21
 go_upto_region 2 with (go_at_call 72;refine hT.mono ?_;rintro e w1 ⟨rfl,b1⟩;clear BC;have BC:=d9 b1;clear b1)
 clear HX hT
 clear a0 a1 a2 a3 a4 a5 b0 b1 b2 b3 b4 b5
 obtain ⟨a0,a1,a2,a3,a4,a5,b0,b1,b2,b3,b4,b5⟩:=uh HCX w1 (uh BC)
 by_cases c1:z1=0
 ·subst c1
  by_cases c2:z2=0
  ·subst c2
   go_wp2_with (go_at_call 73;(with_reducible refine (h2 _).mono ?_);rintro e w9 ⟨rfl,rfl⟩)
   go_loopw [5,6] (fun dv iv wr=>∃ (k:Nat) (z:Int),iv=.int .i64 k/\dv=.int .i64 z/\k<=p.ints.length/\k<=r.ints.length/\Hid ((z=0/\lc kc p.ints r.ints=lc kc (p.ints.drop k) (r.ints.drop k)) ∨ (¬ z=0/\lc kc p.ints r.ints=z))/\Hid (Below X.heap.size X wr)) (fun _ iv _=>p.ints.length - (intOf iv).toNat)
   case atStart=>exact ⟨0,0,rfl,rfl,Nat.zero_le _,Nat.zero_le _,d9 (Or.inl ⟨rfl,by simp⟩),BC⟩
   case round =>
    clear BC
    obtain ⟨k,z,rfl,rfl,hk1,hk2,HR,BC⟩:=hrel
    clear a0 a1 a2 a3 a4 a5 b0 b1 b2 b3 b4 b5
    obtain ⟨a0,a1,a2,a3,a4,a5,b0,b1,b2,b3,b4,b5⟩:=uh HCX wr (uh BC)
    by_cases hz:z=0
    ·subst hz
     have HR2:=d9 (show lc kc p.ints r.ints=lc kc (p.ints.drop k) (r.ints.drop k) by
      rcases uh HR with h | h
      ·exact h.2
      ·exact absurd rfl h.1)
     clear HR
     by_cases hlt:k < p.ints.length/\k < r.ints.length
     ·obtain ⟨h1,h2⟩:=hlt
      obtain ⟨x,hx,_⟩:=je h1
      obtain ⟨y,hy,_⟩:=je h2
      obtain ⟨bx,ox,hqx,hbx,xc⟩:=mh ((uh SI1).below (uh BC)) hx
      obtain ⟨by',oy,hqy,hby,yc⟩:=mh ((uh SI2).below (uh BC)) hy
      have xr:=ja xc
      have yr:=ja yc
      rw [hqx] at a2
      rw [hqy] at b2
      have k0:(0:Int)<=(k:Int):=by omega
      have k1:(k:Int) < (p.ints.length:Int):=by omega
      have k2:(k:Int) < (r.ints.length:Int):=by omega
      have HS:=d9 (show lc kc (p.ints.drop k) (r.ints.drop k)=if kc x y=0 then lc kc (p.ints.drop (k + 1)) (r.ints.drop (k + 1)) else kc x y from te _ (mt hx) (mt hy))
      have r0:=ja a2
      have r1:=ja b2
      have hI:=fun n os=>Lf x y (grow (redrawn wr n) os)
      obtain ⟨V,hV⟩:∃ V,kc x y=V:=⟨_,rfl⟩
      rw [hV] at hI HS
      clear hV hx hy xc yc
      go_upto_region 7 with (fail)
      clear a0 a1 a2 a3 a4 a5 b0 b1 b2 b3 b4 b5
      refine wp_region_quiet_below (by assumption) (by kernel_rfl) ?_
      repeat (go_big_quiet_step (first | (go_at_fn 73;refine Calls.regrown_of (hI _ _))))
      refine wpQuiet_nil ?_
      intro _ hw'
      obtain ⟨⟨dq,osq⟩,hw''⟩:=hw'
      subst hw''
      have BF:=d9 (d8 (uh BC) (below_regrown wr dq osq))
      generalize grow (redrawn wr dq) osq=V4 at BF ⊢
      go_wp2
      go_roundw
      case rel=>exact ⟨k + 1,V,by go_num,rfl,by omega,by omega,d9 (by
       rw [uh HR2,uh HS]
       by_cases h0:V=0
       ·exact Or.inl ⟨h0,by rw [if_pos h0]⟩
       ·exact Or.inr ⟨h0,by rw [if_neg h0]⟩),BF⟩
      case measure=>simp [intOf];omega
     ·have HEN:=d9 (show lc kc p.ints r.ints=kc (p.ints.length:Int) (r.ints.length:Int) by
       rw [uh HR2]
       exact C8 kc hk1 hk2 hlt)
      obtain ⟨V,hV⟩:∃ V,kc (p.ints.length:Int) (r.ints.length:Int)=V:=⟨_,rfl⟩
      have hI:=k8 (p.ints.length:Int) (r.ints.length:Int)
      rw [hV] at hI HEN
      clear hV
      have hA73:=d9 hI
      by_cases hkl:k < p.ints.length
      ·have hkm:¬ k < r.ints.length:=fun h=>hlt ⟨hkl,h⟩
       have k1:(k:Int) < (p.ints.length:Int):=by omega
       have k2:¬ (k:Int) < (r.ints.length:Int):=by omega
       clear hlt hkl hkm
       go_upto_region 10 with (first | (go_at_call 73;(with_reducible refine (hI _).mono ?_);rintro e w9 ⟨rfl,rfl⟩))
       by_cases hv0:V=0
       ·subst hv0
        have HZ3:=HEN
        clear hI hA73 HEN HR2
        go_wp2
        go_loopw [5,7] (fun dv iv wr=>∃ (k:Nat) (z:Int),iv=.int .i64 k/\dv=.int .i64 z/\k<=p.words.length/\k<=r.words.length/\Hid ((z=0/\lc kp p.words r.words=lc kp (p.words.drop k) (r.words.drop k)) ∨ (¬ z=0/\lc kp p.words r.words=z))/\Hid (Below X.heap.size X wr)) (fun _ iv _=>p.words.length - (intOf iv).toNat)
        case atStart=>exact ⟨0,0,rfl,rfl,Nat.zero_le _,Nat.zero_le _,d9 (Or.inl ⟨rfl,by simp⟩),BC⟩
        case round =>
         clear BC
         obtain ⟨k,z,rfl,rfl,hk1,hk2,HR,BC⟩:=hrel
         clear a0 a1 a2 a3 a4 a5 b0 b1 b2 b3 b4 b5
         obtain ⟨a0,a1,a2,a3,a4,a5,b0,b1,b2,b3,b4,b5⟩:=uh HCX wr (uh BC)
         by_cases hz:z=0
         ·subst hz
          have HR2:=d9 (show lc kp p.words r.words=lc kp (p.words.drop k) (r.words.drop k) by
           rcases uh HR with h | h
           ·exact h.2
           ·exact absurd rfl h.1)
          clear HR
          by_cases hlt:k < p.words.length/\k < r.words.length
          ·obtain ⟨h1,h2⟩:=hlt
           obtain ⟨x,hx,_⟩:=je h1
           obtain ⟨y,hy,_⟩:=je h2
           obtain ⟨bx,ox,hqx,hbx,xc⟩:=j6 ((uh SW1).below (uh BC)) hx
           obtain ⟨by',oy,hqy,hby,yc⟩:=j6 ((uh SW2).below (uh BC)) hy
           have xr:=ja xc
           have yr:=ja yc
           rw [hqx] at a3
           rw [hqy] at b3
           have k0:(0:Int)<=(k:Int):=by omega
           have k1:(k:Int) < (p.words.length:Int):=by omega
           have k2:(k:Int) < (r.words.length:Int):=by omega
           have HS:=d9 (show lc kp (p.words.drop k) (r.words.drop k)=if kp x y=0 then lc kp (p.words.drop (k + 1)) (r.words.drop (k + 1)) else kp x y from te _ (mt hx) (mt hy))
           have r0:=ja a3
           have r1:=ja b3
           have hI:=fun n os=>sx x y (grow (redrawn wr n) os) (hfw x (List.mem_of_getElem? hx))
           obtain ⟨V,hV⟩:∃ V,kp x y=V:=⟨_,rfl⟩
           have hV2:ri x.data.toList y.data.toList=V:=hV
           rw [hV2] at hI
           rw [hV] at HS
           clear hV2
           clear hV hx hy xc yc
           go_upto_region 13 with (fail)
           clear a0 a1 a2 a3 a4 a5 b0 b1 b2 b3 b4 b5
           refine wp_region_quiet_below (by assumption) (by kernel_rfl) ?_
           repeat (go_big_quiet_step (first | (go_at_fn 72;refine Calls.regrown_of (hI _ _))))
           refine wpQuiet_nil ?_
           intro _ hw'
           obtain ⟨⟨dq,osq⟩,hw''⟩:=hw'
           subst hw''
           have BF:=d9 (d8 (uh BC) (below_regrown wr dq osq))
           generalize grow (redrawn wr dq) osq=V4 at BF ⊢
           go_wp2
           go_roundw
           case rel=>exact ⟨k + 1,V,by go_num,rfl,by omega,by omega,d9 (by
            rw [uh HR2,uh HS]
            by_cases h0:V=0
            ·exact Or.inl ⟨h0,by rw [if_pos h0]⟩
            ·exact Or.inr ⟨h0,by rw [if_neg h0]⟩),BF⟩
           case measure=>simp [intOf];omega
          ·have HEN:=d9 (show lc kp p.words r.words=kc (p.words.length:Int) (r.words.length:Int) by
            rw [uh HR2]
            exact C8 kp hk1 hk2 hlt)
           obtain ⟨V,hV⟩:∃ V,kc (p.words.length:Int) (r.words.length:Int)=V:=⟨_,rfl⟩
           have hI:=k8 (p.words.length:Int) (r.words.length:Int)
           rw [hV] at hI HEN
           clear hV
           have hA73:=d9 hI
           by_cases hkl:k < p.words.length
           ·have hkm:¬ k < r.words.length:=fun h=>hlt ⟨hkl,h⟩
            have k1:(k:Int) < (p.words.length:Int):=by omega
            have k2:¬ (k:Int) < (r.words.length:Int):=by omega
            clear hlt hkl hkm
            go_upto_region 16 with (first | (go_at_call 73;(with_reducible refine (hI _).mono ?_);rintro e w9 ⟨rfl,rfl⟩))
            by_cases hv0:V=0
            ·subst hv0
             obtain ⟨z5,hz5⟩:∃ z,kc u.lo v.lo=z:=⟨_,rfl⟩
             obtain ⟨z6,hz6⟩:∃ z,kc u.hi v.hi=z:=⟨_,rfl⟩
             have h5:=k8 u.lo v.lo
             have h6:=k8 u.hi v.hi
             rw [hz5] at h5
             rw [hz6] at h6
             have HV5:=d9 hz5
             have HV6:=d9 hz6
             clear hz5 hz6
             by_cases g5:z5=0
             ·subst g5
              go_wp2_with (first
               | (go_at_call 73;(with_reducible refine (h5 _).mono ?_);rintro e w9 ⟨rfl,rfl⟩)
               | (go_at_call 73;(with_reducible refine (h6 _).mono ?_);rintro e w9 ⟨rfl,rfl⟩))
              go_ret
              exact ⟨jg (by rw [<- uh HE,uh HZ1,uh HZ2,uh HZ3,uh HEN,uh HV5,uh HV6];exact Q3 _),d8 (uh BX) (uh BC)⟩
             ·have hz1:(z5 == 0)=false:=by simpa using g5
              go_wp2_with (first
               | (go_at_call 73;(with_reducible refine (h5 _).mono ?_);rintro e w9 ⟨rfl,rfl⟩))
              go_ret
              exact ⟨jg (by rw [<- uh HE,uh HZ1,uh HZ2,uh HZ3,uh HEN,uh HV5];exact Ro g5),d8 (uh BX) (uh BC)⟩
            ·have hz1:(V == 0)=false:=by simpa using hv0
             have HZ:=d9 hv0
             clear hv0
             go_wp2
             go_ret
             exact ⟨jg (by rw [<- uh HE,uh HZ1,uh HZ2,uh HZ3,uh HEN];exact Jz (uh HZ)),d8 (uh BX) (uh BC)⟩
           ·have k1:¬ (k:Int) < (p.words.length:Int):=by omega
            clear hlt hkl
            go_upto_region 16 with (first | (go_at_call 73;(with_reducible refine (hI _).mono ?_);rintro e w9 ⟨rfl,rfl⟩))
            by_cases hv0:V=0
            ·subst hv0
             obtain ⟨z5,hz5⟩:∃ z,kc u.lo v.lo=z:=⟨_,rfl⟩
             obtain ⟨z6,hz6⟩:∃ z,kc u.hi v.hi=z:=⟨_,rfl⟩
             have h5:=k8 u.lo v.lo
             have h6:=k8 u.hi v.hi
             rw [hz5] at h5
             rw [hz6] at h6
             have HV5:=d9 hz5
             have HV6:=d9 hz6
             clear hz5 hz6
             by_cases g5:z5=0
             ·subst g5
              go_wp2_with (first
               | (go_at_call 73;(with_reducible refine (h5 _).mono ?_);rintro e w9 ⟨rfl,rfl⟩)
               | (go_at_call 73;(with_reducible refine (h6 _).mono ?_);rintro e w9 ⟨rfl,rfl⟩))
              go_ret
              exact ⟨jg (by rw [<- uh HE,uh HZ1,uh HZ2,uh HZ3,uh HEN,uh HV5,uh HV6];exact Q3 _),d8 (uh BX) (uh BC)⟩
             ·have hz1:(z5 == 0)=false:=by simpa using g5
              go_wp2_with (first
               | (go_at_call 73;(with_reducible refine (h5 _).mono ?_);rintro e w9 ⟨rfl,rfl⟩))
              go_ret
              exact ⟨jg (by rw [<- uh HE,uh HZ1,uh HZ2,uh HZ3,uh HEN,uh HV5];exact Ro g5),d8 (uh BX) (uh BC)⟩
            ·have hz1:(V == 0)=false:=by simpa using hv0
             have HZ:=d9 hv0
             clear hv0
             go_wp2
             go_ret
             exact ⟨jg (by rw [<- uh HE,uh HZ1,uh HZ2,uh HZ3,uh HEN];exact Jz (uh HZ)),d8 (uh BX) (uh BC)⟩
         ·have hz1:(z == 0)=false:=by simpa using hz
          have HV:=d9 (show lc kp p.words r.words=z by
           rcases uh HR with h | h
           ·exact absurd h.1 hz
           ·exact h.2)
          have HZ:=d9 hz
          clear HR hz
          go_wp2
          go_ret
          exact ⟨jg (by rw [<- uh HE,uh HZ1,uh HZ2,uh HZ3,uh HV];exact Jz (uh HZ)),d8 (uh BX) (uh BC)⟩
       ·have hz1:(V == 0)=false:=by simpa using hv0
        have HZ:=d9 hv0
        clear hv0
        go_wp2
        go_loopw [5,7] (fun dv _ wr=>dv=.int .i64 V/\Hid (Below X.heap.size X wr)) (fun _ _ _=>0)
        case atStart=>exact ⟨rfl,BC⟩
        case round =>
         clear BC
         obtain ⟨rfl,BC⟩:=hrel
         clear a0 a1 a2 a3 a4 a5 b0 b1 b2 b3 b4 b5
         obtain ⟨a0,a1,a2,a3,a4,a5,b0,b1,b2,b3,b4,b5⟩:=uh HCX wr (uh BC)
         go_wp2
         go_ret
         exact ⟨jg (by rw [<- uh HE,uh HZ1,uh HZ2,uh HEN];exact Yr (uh HZ)),d8 (uh BX) (uh BC)⟩
      ·have k1:¬ (k:Int) < (p.ints.length:Int):=by omega
       clear hlt hkl
       go_upto_region 10 with (first | (go_at_call 73;(with_reducible refine (hI _).mono ?_);rintro e w9 ⟨rfl,rfl⟩))
       by_cases hv0:V=0
       ·subst hv0
        have HZ3:=HEN
        clear hI hA73 HEN HR2
        go_wp2
        go_loopw [5,7] (fun dv iv wr=>∃ (k:Nat) (z:Int),iv=.int .i64 k/\dv=.int .i64 z/\k<=p.words.length/\k<=r.words.length/\Hid ((z=0/\lc kp p.words r.words=lc kp (p.words.drop k) (r.words.drop k)) ∨ (¬ z=0/\lc kp p.words r.words=z))/\Hid (Below X.heap.size X wr)) (fun _ iv _=>p.words.length - (intOf iv).toNat)
        case atStart=>exact ⟨0,0,rfl,rfl,Nat.zero_le _,Nat.zero_le _,d9 (Or.inl ⟨rfl,by simp⟩),BC⟩
        case round =>
         clear BC
         obtain ⟨k,z,rfl,rfl,hk1,hk2,HR,BC⟩:=hrel
         clear a0 a1 a2 a3 a4 a5 b0 b1 b2 b3 b4 b5
         obtain ⟨a0,a1,a2,a3,a4,a5,b0,b1,b2,b3,b4,b5⟩:=uh HCX wr (uh BC)
         by_cases hz:z=0
         ·subst hz
          have HR2:=d9 (show lc kp p.words r.words=lc kp (p.words.drop k) (r.words.drop k) by
           rcases uh HR with h | h
           ·exact h.2
           ·exact absurd rfl h.1)
          clear HR
          by_cases hlt:k < p.words.length/\k < r.words.length
          ·obtain ⟨h1,h2⟩:=hlt
           obtain ⟨x,hx,_⟩:=je h1
           obtain ⟨y,hy,_⟩:=je h2
           obtain ⟨bx,ox,hqx,hbx,xc⟩:=j6 ((uh SW1).below (uh BC)) hx
           obtain ⟨by',oy,hqy,hby,yc⟩:=j6 ((uh SW2).below (uh BC)) hy
           have xr:=ja xc
           have yr:=ja yc
           rw [hqx] at a3
           rw [hqy] at b3
           have k0:(0:Int)<=(k:Int):=by omega
           have k1:(k:Int) < (p.words.length:Int):=by omega
           have k2:(k:Int) < (r.words.length:Int):=by omega
           have HS:=d9 (show lc kp (p.words.drop k) (r.words.drop k)=if kp x y=0 then lc kp (p.words.drop (k + 1)) (r.words.drop (k + 1)) else kp x y from te _ (mt hx) (mt hy))
           have r0:=ja a3
           have r1:=ja b3
           have hI:=fun n os=>sx x y (grow (redrawn wr n) os) (hfw x (List.mem_of_getElem? hx))
           obtain ⟨V,hV⟩:∃ V,kp x y=V:=⟨_,rfl⟩
           have hV2:ri x.data.toList y.data.toList=V:=hV
           rw [hV2] at hI
           rw [hV] at HS
           clear hV2
           clear hV hx hy xc yc
           go_upto_region 13 with (fail)
           clear a0 a1 a2 a3 a4 a5 b0 b1 b2 b3 b4 b5
           refine wp_region_quiet_below (by assumption) (by kernel_rfl) ?_
           repeat (go_big_quiet_step (first | (go_at_fn 72;refine Calls.regrown_of (hI _ _))))
           refine wpQuiet_nil ?_
           intro _ hw'
           obtain ⟨⟨dq,osq⟩,hw''⟩:=hw'
           subst hw''
           have BF:=d9 (d8 (uh BC) (below_regrown wr dq osq))
           generalize grow (redrawn wr dq) osq=V4 at BF ⊢
           go_wp2
           go_roundw
           case rel=>exact ⟨k + 1,V,by go_num,rfl,by omega,by omega,d9 (by
            rw [uh HR2,uh HS]
            by_cases h0:V=0
            ·exact Or.inl ⟨h0,by rw [if_pos h0]⟩
            ·exact Or.inr ⟨h0,by rw [if_neg h0]⟩),BF⟩
           case measure=>simp [intOf];omega
          ·have HEN:=d9 (show lc kp p.words r.words=kc (p.words.length:Int) (r.words.length:Int) by
            rw [uh HR2]
            exact C8 kp hk1 hk2 hlt)
           obtain ⟨V,hV⟩:∃ V,kc (p.words.length:Int) (r.words.length:Int)=V:=⟨_,rfl⟩
           have hI:=k8 (p.words.length:Int) (r.words.length:Int)
           rw [hV] at hI HEN
           clear hV
           have hA73:=d9 hI
           by_cases hkl:k < p.words.length
           ·have hkm:¬ k < r.words.length:=fun h=>hlt ⟨hkl,h⟩
            have k1:(k:Int) < (p.words.length:Int):=by omega
            have k2:¬ (k:Int) < (r.words.length:Int):=by omega
            clear hlt hkl hkm
            go_upto_region 16 with (first | (go_at_call 73;(with_reducible refine (hI _).mono ?_);rintro e w9 ⟨rfl,rfl⟩))
            by_cases hv0:V=0
            ·subst hv0
             obtain ⟨z5,hz5⟩:∃ z,kc u.lo v.lo=z:=⟨_,rfl⟩
             obtain ⟨z6,hz6⟩:∃ z,kc u.hi v.hi=z:=⟨_,rfl⟩
             have h5:=k8 u.lo v.lo
             have h6:=k8 u.hi v.hi
             rw [hz5] at h5
             rw [hz6] at h6
             have HV5:=d9 hz5
             have HV6:=d9 hz6
             clear hz5 hz6
             by_cases g5:z5=0
             ·subst g5
              go_wp2_with (first
               | (go_at_call 73;(with_reducible refine (h5 _).mono ?_);rintro e w9 ⟨rfl,rfl⟩)
               | (go_at_call 73;(with_reducible refine (h6 _).mono ?_);rintro e w9 ⟨rfl,rfl⟩))
              go_ret
              exact ⟨jg (by rw [<- uh HE,uh HZ1,uh HZ2,uh HZ3,uh HEN,uh HV5,uh HV6];exact Q3 _),d8 (uh BX) (uh BC)⟩
             ·have hz1:(z5 == 0)=false:=by simpa using g5
              go_wp2_with (first
               | (go_at_call 73;(with_reducible refine (h5 _).mono ?_);rintro e w9 ⟨rfl,rfl⟩))
              go_ret
              exact ⟨jg (by rw [<- uh HE,uh HZ1,uh HZ2,uh HZ3,uh HEN,uh HV5];exact Ro g5),d8 (uh BX) (uh BC)⟩
            ·have hz1:(V == 0)=false:=by simpa using hv0
             have HZ:=d9 hv0
             clear hv0
             go_wp2
             go_ret
             exact ⟨jg (by rw [<- uh HE,uh HZ1,uh HZ2,uh HZ3,uh HEN];exact Jz (uh HZ)),d8 (uh BX) (uh BC)⟩
           ·have k1:¬ (k:Int) < (p.words.length:Int):=by omega
            clear hlt hkl
            go_upto_region 16 with (first | (go_at_call 73;(with_reducible refine (hI _).mono ?_);rintro e w9 ⟨rfl,rfl⟩))
            by_cases hv0:V=0
            ·subst hv0
             obtain ⟨z5,hz5⟩:∃ z,kc u.lo v.lo=z:=⟨_,rfl⟩
             obtain ⟨z6,hz6⟩:∃ z,kc u.hi v.hi=z:=⟨_,rfl⟩
             have h5:=k8 u.lo v.lo
             have h6:=k8 u.hi v.hi
             rw [hz5] at h5
             rw [hz6] at h6
             have HV5:=d9 hz5
             have HV6:=d9 hz6
             clear hz5 hz6
             by_cases g5:z5=0
             ·subst g5
              go_wp2_with (first
               | (go_at_call 73;(with_reducible refine (h5 _).mono ?_);rintro e w9 ⟨rfl,rfl⟩)
               | (go_at_call 73;(with_reducible refine (h6 _).mono ?_);rintro e w9 ⟨rfl,rfl⟩))
              go_ret
              exact ⟨jg (by rw [<- uh HE,uh HZ1,uh HZ2,uh HZ3,uh HEN,uh HV5,uh HV6];exact Q3 _),d8 (uh BX) (uh BC)⟩
             ·have hz1:(z5 == 0)=false:=by simpa using g5
              go_wp2_with (first
               | (go_at_call 73;(with_reducible refine (h5 _).mono ?_);rintro e w9 ⟨rfl,rfl⟩))
              go_ret
              exact ⟨jg (by rw [<- uh HE,uh HZ1,uh HZ2,uh HZ3,uh HEN,uh HV5];exact Ro g5),d8 (uh BX) (uh BC)⟩
            ·have hz1:(V == 0)=false:=by simpa using hv0
             have HZ:=d9 hv0
             clear hv0
             go_wp2
             go_ret
             exact ⟨jg (by rw [<- uh HE,uh HZ1,uh HZ2,uh HZ3,uh HEN];exact Jz (uh HZ)),d8 (uh BX) (uh BC)⟩
         ·have hz1:(z == 0)=false:=by simpa using hz
          have HV:=d9 (show lc kp p.words r.words=z by
           rcases uh HR with h | h
           ·exact absurd h.1 hz
           ·exact h.2)
          have HZ:=d9 hz
          clear HR hz
          go_wp2
          go_ret
          exact ⟨jg (by rw [<- uh HE,uh HZ1,uh HZ2,uh HZ3,uh HV];exact Jz (uh HZ)),d8 (uh BX) (uh BC)⟩
       ·have hz1:(V == 0)=false:=by simpa using hv0
        have HZ:=d9 hv0
        clear hv0
        go_wp2
        go_loopw [5,7] (fun dv _ wr=>dv=.int .i64 V/\Hid (Below X.heap.size X wr)) (fun _ _ _=>0)
        case atStart=>exact ⟨rfl,BC⟩
        case round =>
         clear BC
         obtain ⟨rfl,BC⟩:=hrel
         clear a0 a1 a2 a3 a4 a5 b0 b1 b2 b3 b4 b5
         obtain ⟨a0,a1,a2,a3,a4,a5,b0,b1,b2,b3,b4,b5⟩:=uh HCX wr (uh BC)
         go_wp2
         go_ret
         exact ⟨jg (by rw [<- uh HE,uh HZ1,uh HZ2,uh HEN];exact Yr (uh HZ)),d8 (uh BX) (uh BC)⟩
    ·have hz1:(z == 0)=false:=by simpa using hz
     have HV:=d9 (show lc kc p.ints r.ints=z by
      rcases uh HR with h | h
      ·exact absurd h.1 hz
      ·exact h.2)
     have HZ:=d9 hz
     clear HR hz
     go_wp2
     go_loopw [5,7] (fun dv _ wr=>dv=.int .i64 z/\Hid (Below X.heap.size X wr)) (fun _ _ _=>0)
     case atStart=>exact ⟨rfl,BC⟩
     case round =>
      clear BC
      obtain ⟨rfl,BC⟩:=hrel
      clear a0 a1 a2 a3 a4 a5 b0 b1 b2 b3 b4 b5
      obtain ⟨a0,a1,a2,a3,a4,a5,b0,b1,b2,b3,b4,b5⟩:=uh HCX wr (uh BC)
      go_wp2
      go_ret
      exact ⟨jg (by rw [<- uh HE,uh HZ1,uh HZ2,uh HV];exact Yr (uh HZ)),d8 (uh BX) (uh BC)⟩
  ·have hz1:(z2 == 0)=false:=by simpa using c2
   go_wp2_with (go_at_call 73;(with_reducible refine (h2 _).mono ?_);rintro e w9 ⟨rfl,rfl⟩)
   go_loopw [5,6] (fun dv _ wr=>dv=.int .i64 z2/\Hid (Below X.heap.size X wr)) (fun _ _ _=>0)
   case atStart=>exact ⟨rfl,BC⟩
   case round =>
    clear BC
    obtain ⟨rfl,BC⟩:=hrel
    clear a0 a1 a2 a3 a4 a5 b0 b1 b2 b3 b4 b5
    obtain ⟨a0,a1,a2,a3,a4,a5,b0,b1,b2,b3,b4,b5⟩:=uh HCX wr (uh BC)
    go_wp2
    go_loopw [5,7] (fun dv _ wr=>dv=.int .i64 z2/\Hid (Below X.heap.size X wr)) (fun _ _ _=>0)
    case atStart=>exact ⟨rfl,BC⟩
    case round =>
     clear BC
     obtain ⟨rfl,BC⟩:=hrel
     clear a0 a1 a2 a3 a4 a5 b0 b1 b2 b3 b4 b5
     obtain ⟨a0,a1,a2,a3,a4,a5,b0,b1,b2,b3,b4,b5⟩:=uh HCX wr (uh BC)
     go_wp2
     go_ret
     exact ⟨jg (by rw [<- uh HE,uh HZ1,uh HZ2];exact za0 c2),d8 (uh BX) (uh BC)⟩
 ·have hz1:(z1 == 0)=false:=by simpa using c1
  go_wp2
  go_loopw [5,6] (fun dv _ wr=>dv=.int .i64 z1/\Hid (Below X.heap.size X wr)) (fun _ _ _=>0)
  case atStart=>exact ⟨rfl,BC⟩
  case round =>
   clear BC
   obtain ⟨rfl,BC⟩:=hrel
   clear a0 a1 a2 a3 a4 a5 b0 b1 b2 b3 b4 b5
   obtain ⟨a0,a1,a2,a3,a4,a5,b0,b1,b2,b3,b4,b5⟩:=uh HCX wr (uh BC)
   go_wp2
   go_loopw [5,7] (fun dv _ wr=>dv=.int .i64 z1/\Hid (Below X.heap.size X wr)) (fun _ _ _=>0)
   case atStart=>exact ⟨rfl,BC⟩
   case round =>
    clear BC
    obtain ⟨rfl,BC⟩:=hrel
    clear a0 a1 a2 a3 a4 a5 b0 b1 b2 b3 b4 b5
    obtain ⟨a0,a1,a2,a3,a4,a5,b0,b1,b2,b3,b4,b5⟩:=uh HCX wr (uh BC)
    go_wp2
    go_ret
    exact ⟨jg (by rw [<- uh HE,uh HZ1];exact zb4 c1),d8 (uh BX) (uh BC)⟩
end Go.Proofs.YtimklglliffpcaaGreat
namespace Go.Proofs.YtimklglliffpcaaGreat
open Go.RowKit Go.Sort Go.Shelf
theorem Gf {p:Pd} (hs:p.small):((jr p).getD pr).small:=by
 cases hm:jr p with
 | none=>exact ⟨by decide,by decide⟩
 | some m=>exact ⟨Nat.le_trans (sj hs hm).1.2.2.1 (by decide),Nat.le_trans (sj hs hm).1.2.2.2.1 (by decide)⟩
/-- Strings that a machine may hold. -/
def zc3 (p:Pd):Prop:=p.attr.size<=maxLen/\∀ x ∈ p.words,x.size<=maxLen
set_option maxHeartbeats 16000000 in
set_option maxRecDepth 100000 in
theorem Cx (q:Option Addr) (c:Nat) (l:List Pd) (u:Pv) (p:Pd) (w:World) (h:PdsOf w q c l) (hu:PdIn w u p) (hs:Small l) (hf:Fit l) (hfs:∀ x ∈ l,zc3 x) (hsp:p.small) (hfp:Fit [p]) (hl:l.length<=100000000) :
  Calls Tryz.prog 3 #[.slice q l.length c,.agg #[.int .i64 u.kind,.string u.attr,.slice u.qi u.ni u.ci,.slice u.qw u.nw u.cw,.int .i64 u.lo,.int .i64 u.hi]] w fun e w'=>e=.returned (.bool true)/\Below w.heap.size w w':=by
 have mixed:Tryz.prog.follows .mixedOrders=true:=by kernel_rfl
 have i9:(l.length:Int)<=100000000:=by omega
 obtain ⟨X,HX⟩:∃ X,w.alloc (.cells #[.int .i64 u.kind,.string u.attr,.slice u.qi u.ni u.ci,.slice u.qw u.nw u.cw,.int .i64 u.lo,.int .i64 u.hi] 26)=X:=⟨_,rfl⟩
 have bX:Below w.heap.size w X:=by rw [<- HX];exact (Below.refl _ _).alloc (Nat.le_refl _) _
 have x8:X.heap[w.heap.size]? = some (.cells #[.int .i64 u.kind,.string u.attr,.slice u.qi u.ni u.ci,.slice u.qw u.nw u.cw,.int .i64 u.lo,.int .i64 u.hi] 26 (0,0)):=by rw [<- HX];exact jf _ _
 have hF:=Pw X
 have HH:=d9 h
 have HU:=d9 hu
 have HS:=d9 hs
 have HFT:=d9 hf
 have HFS:=d9 hfs
 have HSP:=d9 hsp
 have HFP:=d9 (hfp p (by simp))
 have BX:=d9 bX
 have F3:=d9 x8
 clear h hu hs hf hfs hsp hfp bX x8
 go_enter Tryz.func3,Tryz.ntmps3
 go_upto_region 3 with (go_at_call 11;refine hF.mono ?_;rintro e w1 ⟨rfl,b1⟩;have B1:=d9 b1;clear b1)
 clear hF HX
 have BW1:=d9 (d8 (uh BX) (uh B1))
 replace F3:=d9 (jn (uh F3) (uh B1))
 have hM:=R7 q c l w1 ((uh HH).below (uh BW1)) (uh HFT) hl
 go_upto_region 4 with (go_at_call 12;refine hM.mono ?_;rintro e w2 ⟨⟨q',c',rfl,hg⟩,b2⟩;have B2:=d9 b2;have HG:=d9 hg;clear b2 hg)
 clear hM
 have BW2:=d9 (d8 (uh BW1) (uh B2))
 replace F3:=d9 (jn (uh F3) (uh B2))
 obtain ⟨a0,a1,a2,a3,a4,a5⟩:=kq (uh F3)
 have hP:=zag u p w2 ((uh HU).keep (uh BW2)) (uh HFP).1 (uh HFP).2
 go_upto_region 5 with (go_at_call 13;refine hP.mono ?_;rintro e w3 ⟨⟨v,rfl,hv⟩,b3⟩;have B3:=d9 b3;have HV:=d9 hv;clear b3 hv)
 clear hP a0 a1 a2 a3 a4 a5
 obtain ⟨Y1,HY1⟩:∃ Y,w3.alloc (.cells #[.int .i64 v.kind,.string v.attr,.slice v.qi v.ni v.ci,.slice v.qw v.nw v.cw,.int .i64 v.lo,.int .i64 v.hi] 26)=Y:=⟨_,rfl⟩
 rw [HY1]
 have bY1:Below w2.heap.size w2 Y1:=by rw [<- HY1];exact (uh B3).alloc (uh B3).size _
 have F6:=d9 (show Y1.heap[w3.heap.size]? = some (.cells #[.int .i64 v.kind,.string v.attr,.slice v.qi v.ni v.ci,.slice v.qw v.nw v.cw,.int .i64 v.lo,.int .i64 v.hi] 26 (0,0)) by rw [<- HY1];exact World.alloc_heap_new _ _)
 have BY1:=d9 (d8 (uh BW2) bY1)
 replace F3:=d9 (jn (uh F3) bY1)
 replace HG:=d9 ((uh HG).below bY1)
 replace HV:=d9 ((uh HV).keep (d8 (Below.refl _ _) (show Below w3.heap.size w3 Y1 by rw [<- HY1];exact (Below.refl _ _).alloc (Nat.le_refl _) _)))
 clear HY1 bY1
 have hM1:=Dc q' c' l Y1 (uh HG).preds (uh HS) (by omega)
 go_upto_region 6 with (go_at_call 14;refine hM1.mono ?_;rintro e w4 ⟨⟨r1,rfl,ho⟩,b4⟩;have B4:=d9 b4;have O1:=d9 ho.1;clear b4 ho)
 clear hM1
 obtain ⟨Y2,HY2⟩:∃ Y,w4.alloc (.cells #[.int .i64 r1.kind,.string r1.attr,.slice r1.qi r1.ni r1.ci,.slice r1.qw r1.nw r1.cw,.int .i64 r1.lo,.int .i64 r1.hi] 26)=Y:=⟨_,rfl⟩
 rw [HY2]
 have bY2:Below Y1.heap.size Y1 Y2:=by rw [<- HY2];exact (uh B4).alloc (uh B4).size _
 have F7:=d9 (show Y2.heap[w4.heap.size]? = some (.cells #[.int .i64 r1.kind,.string r1.attr,.slice r1.qi r1.ni r1.ci,.slice r1.qw r1.nw r1.cw,.int .i64 r1.lo,.int .i64 r1.hi] 26 (0,0)) by rw [<- HY2];exact World.alloc_heap_new _ _)
 have BY2:=d9 (d8 (uh BY1) bY2)
 replace F3:=d9 (jn (uh F3) bY2)
 replace F6:=d9 (jn (uh F6) bY2)
 replace HG:=d9 ((uh HG).below bY2)
 replace HV:=d9 ((uh HV).keep bY2)
 replace O1:=d9 ((uh O1).keep (show Below w4.heap.size w4 Y2 by rw [<- HY2];exact (Below.refl _ _).alloc (Nat.le_refl _) _))
 clear HY2 bY2
 have hM2:=Yy q c l Y2 ((uh HH).below (uh BY2)) (uh HS) (by omega)
 go_upto_region 7 with (go_at_call 15;refine hM2.mono ?_;rintro e w5 ⟨⟨r2,rfl,ho⟩,b5⟩;have B5:=d9 b5;have O2:=d9 ho;clear b5 ho)
 clear hM2
 obtain ⟨Y3,HY3⟩:∃ Y,w5.alloc (.cells #[.int .i64 r2.kind,.string r2.attr,.slice r2.qi r2.ni r2.ci,.slice r2.qw r2.nw r2.cw,.int .i64 r2.lo,.int .i64 r2.hi] 26)=Y:=⟨_,rfl⟩
 rw [HY3]
 have bY3:Below Y2.heap.size Y2 Y3:=by rw [<- HY3];exact (uh B5).alloc (uh B5).size _
 have F9:=d9 (show Y3.heap[w5.heap.size]? = some (.cells #[.int .i64 r2.kind,.string r2.attr,.slice r2.qi r2.ni r2.ci,.slice r2.qw r2.nw r2.cw,.int .i64 r2.lo,.int .i64 r2.hi] 26 (0,0)) by rw [<- HY3];exact World.alloc_heap_new _ _)
 have BY3:=d9 (d8 (uh BY2) bY3)
 replace F3:=d9 (jn (uh F3) bY3)
 replace F6:=d9 (jn (uh F6) bY3)
 replace F7:=d9 (jn (uh F7) bY3)
 replace HG:=d9 ((uh HG).below bY3)
 replace HV:=d9 ((uh HV).keep bY3)
 replace O1:=d9 ((uh O1).keep bY3)
 replace O2:=d9 ((uh O2).keep (show Below w5.heap.size w5 Y3 by rw [<- HY3];exact (Below.refl _ _).alloc (Nat.le_refl _) _))
 clear HY3 bY3
 obtain ⟨a0,a1,a2,a3,a4,a5⟩:=kq (uh F6)
 have hN1:=tu v p Y3 (uh HV).pd (uh HSP)
 unfold Pv.val at hN1
 go_upto_region 8 with (go_at_call 16;refine hN1.mono ?_;rintro e w6 ⟨⟨r3,rfl,ho⟩,b6⟩;have B6:=d9 b6;have O3:=d9 ho.1;clear b6 ho)
 clear hN1 a0 a1 a2 a3 a4 a5
 obtain ⟨Y4,HY4⟩:∃ Y,w6.alloc (.cells #[.int .i64 r3.kind,.string r3.attr,.slice r3.qi r3.ni r3.ci,.slice r3.qw r3.nw r3.cw,.int .i64 r3.lo,.int .i64 r3.hi] 26)=Y:=⟨_,rfl⟩
 rw [HY4]
 have bY4:Below Y3.heap.size Y3 Y4:=by rw [<- HY4];exact (uh B6).alloc (uh B6).size _
 have F11:=d9 (show Y4.heap[w6.heap.size]? = some (.cells #[.int .i64 r3.kind,.string r3.attr,.slice r3.qi r3.ni r3.ci,.slice r3.qw r3.nw r3.cw,.int .i64 r3.lo,.int .i64 r3.hi] 26 (0,0)) by rw [<- HY4];exact World.alloc_heap_new _ _)
 have BY4:=d9 (d8 (uh BY3) bY4)
 replace F3:=d9 (jn (uh F3) bY4)
 replace F6:=d9 (jn (uh F6) bY4)
 replace F7:=d9 (jn (uh F7) bY4)
 replace F9:=d9 (jn (uh F9) bY4)
 replace HG:=d9 ((uh HG).below bY4)
 replace HV:=d9 ((uh HV).keep bY4)
 replace O1:=d9 ((uh O1).keep bY4)
 replace O2:=d9 ((uh O2).keep bY4)
 replace O3:=d9 ((uh O3).keep (show Below w6.heap.size w6 Y4 by rw [<- HY4];exact (Below.refl _ _).alloc (Nat.le_refl _) _))
 clear HY4 bY4
 obtain ⟨a0,a1,a2,a3,a4,a5⟩:=kq (uh F3)
 have hN2:=rl u p Y4 ((uh HU).keep (uh BY4)) (uh HSP)
 go_upto_region 9 with (go_at_call 17;refine hN2.mono ?_;rintro e w7 ⟨⟨r4,rfl,ho⟩,b7⟩;have B7:=d9 b7;have O4:=d9 ho.1;clear b7 ho)
 clear hN2 a0 a1 a2 a3 a4 a5
 obtain ⟨Y5,HY5⟩:∃ Y,w7.alloc (.cells #[.int .i64 r4.kind,.string r4.attr,.slice r4.qi r4.ni r4.ci,.slice r4.qw r4.nw r4.cw,.int .i64 r4.lo,.int .i64 r4.hi] 26)=Y:=⟨_,rfl⟩
 rw [HY5]
 have bY5:Below Y4.heap.size Y4 Y5:=by rw [<- HY5];exact (uh B7).alloc (uh B7).size _
 have F13:=d9 (show Y5.heap[w7.heap.size]? = some (.cells #[.int .i64 r4.kind,.string r4.attr,.slice r4.qi r4.ni r4.ci,.slice r4.qw r4.nw r4.cw,.int .i64 r4.lo,.int .i64 r4.hi] 26 (0,0)) by rw [<- HY5];exact World.alloc_heap_new _ _)
 have BY5:=d9 (d8 (uh BY4) bY5)
 replace F3:=d9 (jn (uh F3) bY5)
 replace F6:=d9 (jn (uh F6) bY5)
 replace F7:=d9 (jn (uh F7) bY5)
 replace F9:=d9 (jn (uh F9) bY5)
 replace F11:=d9 (jn (uh F11) bY5)
 replace HG:=d9 ((uh HG).below bY5)
 replace HV:=d9 ((uh HV).keep bY5)
 replace O1:=d9 ((uh O1).keep bY5)
 replace O2:=d9 ((uh O2).keep bY5)
 replace O3:=d9 ((uh O3).keep bY5)
 replace O4:=d9 ((uh O4).keep (show Below w7.heap.size w7 Y5 by rw [<- HY5];exact (Below.refl _ _).alloc (Nat.le_refl _) _))
 clear HY5 bY5
 have hS1:=V7 r1 r2 _ _ Y5 (uh O1) (uh O2) Kp
 rw [decide_eq_true (rfl:(kz l).getD pr=(kz l).getD pr)] at hS1
 have hS2:=fun (W:World) (hW:Below Y5.heap.size Y5 W)=>V7 r3 r4 _ _ W ((uh O3).keep hW) ((uh O4).keep hW) (Gf (uh HSP))
 rw [decide_eq_true (rfl:(jr p).getD pr=(jr p).getD pr)] at hS2
 have hK:=fun (W:World) (hW:Below Y5.heap.size Y5 W)=>Xg v u p _ W ((uh HV).keep hW) ((uh HU).keep (d8 (uh BY5) hW)) (uh HSP)
 obtain ⟨mb,hmb⟩:∃ z,(kz l).isSome=z:=⟨_,rfl⟩
 obtain ⟨nb,hnb⟩:∃ z,(jr p).isSome=z:=⟨_,rfl⟩
 rw [hmb,hnb]
 clear hmb hnb
 have nb1:(mb != mb)=false:=by cases mb <;> rfl
 have nb2:(nb != nb)=false:=by cases nb <;> rfl
 obtain ⟨a0,a1,a2,a3,a4,a5⟩:=kq (uh F7)
 obtain ⟨c0,c1,c2,c3,c4,c5⟩:=kq (uh F9)
 go_upto_region 11 with (first
  | (go_at_call 18;refine (hS2 _ (uh C1)).mono ?_;rintro e s2 ⟨rfl,b9⟩;have C2:=d9 (d8 (uh C1) b9);(obtain ⟨g0,g1,g2,g3,g4,g5⟩:=kq (jn (uh F6) (uh C2)));(obtain ⟨k0,k1,k2,k3,k4,k5⟩:=kq (jn (uh F3) (uh C2)));clear b9 C1)
  | (go_at_call 18;refine hS1.mono ?_;rintro e s1 ⟨rfl,b9⟩;have C1:=d9 b9;(obtain ⟨d0,d1,d2,d3,d4,d5⟩:=kq (jn (uh F11) (uh C1)));(obtain ⟨e0,e1,e2,e3,e4,e5⟩:=kq (jn (uh F13) (uh C1)));clear b9)
  | (go_at_call 19;refine (hK _ (uh C2)).mono ?_;rintro e s3 ⟨rfl,b9⟩;have C3:=d9 (d8 (uh C2) b9);clear b9))
 have BV:=d9 (d8 (uh BY5) (uh C3))
 have HGV:=d9 ((uh HG).below (uh C3))
 replace F3:=d9 (jn (uh F3) (uh C3))
 replace F6:=d9 (jn (uh F6) (uh C3))
 replace HV:=d9 ((uh HV).keep (uh C3))
 clear a0 a1 a2 a3 a4 a5 c0 c1 c2 c3 c4 c5 d0 d1 d2 d3 d4 d5 e0 e1 e2 e3 e4 e5 g0 g1 g2 g3 g4 g5 k0 k1 k2 k3 k4 k5 hS1 hS2 hK F7 F9 F11 F13 O1 O2 O3 O4 nb1 nb2
 have en20:∀ args w,(callFunc 20 args).run Tryz.prog w=.ok (.enter 20 args) w:=enters_of Tryz.func20 (by kernel_rfl) rfl
 have en21:∀ args w,(callFunc 21 args).run Tryz.prog w=.ok (.enter 21 args) w:=enters_of Tryz.func21 (by kernel_rfl) rfl
 have en19:∀ args w,(callFunc 19 args).run Tryz.prog w=.ok (.enter 19 args) w:=enters_of Tryz.func19 (by kernel_rfl) rfl
 go_wp2
 go_loopw [70] (fun iv wr=>∃ k:Nat,k<=l.length/\iv=.int .i64 k/\Hid (Below s3.heap.size s3 wr)) (fun iv _=>l.length - (intOf iv).toNat)
 case atStart=>exact ⟨0,Nat.zero_le _,rfl,d9 (Below.refl _ _)⟩
 case round =>
  obtain ⟨k,hk,rfl,HB⟩:=hrel
  by_cases hlt:k < l.length
  ·obtain ⟨y,hy,_⟩:=je hlt
   obtain ⟨bm,om,um,hqm,hbm,hum,m0,m1,m2,m3,m4,m5⟩:=((uh HGV).below (uh HB)).at hy
   obtain ⟨bp,op,up,hqp,hbp,hup,p0,p1,p2,p3,p4,p5⟩:=((uh HH).below (d8 (uh BV) (uh HB))).at hy
   subst hqm
   subst hqp
   have ki0:(0:Int)<=(k:Int):=by omega
   have ki1:(k:Int) < (l.length:Int):=by omega
   obtain ⟨g0,g1,g2,g3,g4,g5⟩:=kq (jn (uh F6) (uh HB))
   obtain ⟨k0,k1,k2,k3,k4,k5⟩:=kq (jn (uh F3) (uh HB))
   have m0r:=ja m0
   have m1r:=ja m1
   have m2r:=ja m2
   have m3r:=ja m3
   have m4r:=ja m4
   have m5r:=ja m5
   have p0r:=ja p0
   have p1r:=ja p1
   have p2r:=ja p2
   have p3r:=ja p3
   have p4r:=ja p4
   have p5r:=ja p5
   have g0r:=ja g0
   have g1r:=ja g1
   have g2r:=ja g2
   have g3r:=ja g3
   have g4r:=ja g4
   have g5r:=ja g5
   have k0r:=ja k0
   have k1r:=ja k1
   have k2r:=ja k2
   have k3r:=ja k3
   have k4r:=ja k4
   have k5r:=ja k5
   have hys:=uh HS y (List.mem_of_getElem? hy)
   have hyf:=uh HFS y (List.mem_of_getElem? hy)
   have hC1:=fun n os=>yn um v y p (grow (redrawn wr n) os) (hum.pd.keep (below_regrown wr n os)) ((uh HV).pd.keep (d8 (uh HB) (below_regrown wr n os))) hys
   have hC2:=fun n os=>J0 up u y p (grow (redrawn wr n) os) (hup.keep (below_regrown wr n os)) ((uh HU).keep (d8 (uh BV) (d8 (uh HB) (below_regrown wr n os)))) hys hyf.1 hyf.2
   have hC3:=fun n os=>Xg um up y _ (grow (redrawn wr n) os) (hum.keep (below_regrown wr n os)) (hup.keep (below_regrown wr n os)) hys
   unfold Pv.val at hC1
   obtain ⟨cc,hcc⟩:∃ z,pe y p=z:=⟨_,rfl⟩
   rw [hcc] at hC1 hC2
   have ne1:(cc != cc)=false:=by simp
   clear hcc m0 m1 m2 m3 m4 m5 p0 p1 p2 p3 p4 p5 g0 g1 g2 g3 g4 g5 k0 k1 k2 k3 k4 k5 hum hup hys hyf hy hbm hbp
   go_upto_region 14 with (fail)
   refine wp_region_quiet_below (by assumption) (by kernel_rfl) ?_
   repeat (go_big_quiet_step (first | (go_at_fn 20;with_reducible refine Calls.regrown_of (hC1 _ _)) | (go_at_fn 21;with_reducible refine Calls.regrown_of (hC2 _ _)) | (go_at_fn 19;with_reducible refine Calls.regrown_of (hC3 _ _))))
   refine wpQuiet_nil ?_
   intro _ hw'
   obtain ⟨⟨dq,osq⟩,hw''⟩:=hw'
   subst hw''
   have BF:=d9 (d8 (uh HB) (below_regrown wr dq osq))
   generalize grow (redrawn wr dq) osq=V4 at BF ⊢
   go_wp2
   go_roundw
   case rel=>exact ⟨k + 1,by omega,by go_num,BF⟩
   case measure=>simp [intOf];omega
  ·have ki1:¬ (k:Int) < (l.length:Int):=by omega
   go_wp2
   go_ret
   exact ⟨rfl,d8 (uh BV) (uh HB)⟩
end Go.Proofs.YtimklglliffpcaaGreat
namespace Go.Proofs.YtimklglliffpcaaGreat
open Go.RowKit Go.Sort
def pdW (p:Pd):Nat:=p.attr.size + p.ints.length + mn p.words + 1
def Lj:List Pd->Nat
 | []=>0
 | p :: l=>pdW p + Lj l
theorem Hm {H:Type} {enc:TypeId × Value->H} {W:World} {base:Nat} {sp:Nat->Bool} {held:Bool} {fuel:Nat} {cs:List Value} {x:DataW H × List MemPlace} (h:DataW.trod enc Tryz.prog W base sp held fuel 26 cs=some x) (hl:cs.length=6) :
  ∃ (u:Pv) (p:Pd),cs=sc u/\PdIn W u p/\pdW p<=Rows.uptoBulk x.1:=by
 obtain ⟨kind,attr,qi,ci,ints,qw,cw,words,lo,hi,rfl,h3,h5,hb⟩:=Lo h hl
 exact ⟨⟨kind,attr,qi,ints.length,ci,qw,words.length,cw,lo,hi⟩,⟨kind,attr,ints,words,lo,hi⟩,rfl,⟨rfl,rfl,rfl,rfl,rfl,rfl,h3,h5⟩,hb⟩
theorem Qv {H:Type}:∀ (l:List Pd) (D:List (DataW H)),D.length=l.length->(∀ (j:Nat) y d,l[j]? = some y->D[j]? = some d->pdW y<=Rows.uptoBulk d)->Lj l<=Rows.uptoBulkAll D:=by
 intro l
 induction l with
 | nil=>intro D _ _;simp [Lj]
 | cons x l ih =>
  intro D hl hP
  cases D with
  | nil=>simp at hl
  | cons d D =>
   have h0:=hP 0 x d rfl rfl
   have h1:=ih D (by simpa using hl) (fun j y e hj he=>hP (j + 1) y e (by simpa using hj) (by simpa using he))
   simp only [Lj,Rows.uptoBulkAll]
   omega
theorem Gh {H:Type} {enc:TypeId × Value->H} {W:World} {base:Nat} {sp:Nat->Bool} {held:Bool} {fuel:Nat} {v:Value} {x:DataW H × List MemPlace} (h:DataW.trod enc Tryz.prog W base sp held fuel 22 [v]=some x) :
  ∃ q c l,v=.slice q l.length c/\PdsOf W q c l/\Lj l<=Rows.uptoBulk x.1:=by
 obtain ⟨qk,ck,vs,e2,s3,g3⟩:=Bv (enc':=sc) (P:=fun u d=>∃ p:Pd,PdIn W u p/\pdW p<=Rows.uptoBulk d) Tryz.underlying22 Tryz.cells26 (by decide) (fun m hm cs x hx hl=>by
  obtain ⟨u,p,hv,h1,h2⟩:=Hm hx hl
  refine ⟨u,fun c hc=>?_,p,h1,h2⟩
  rw [hv]
  have hlen:c < (sc u).length:=by simp [sc];omega
  rw [List.getElem?_eq_getElem hlen,getElem!_pos (sc u) c hlen]) h
 rcases g3 with rfl | ⟨D,E,hD,hlD,hP⟩
 ·exact ⟨qk,ck,[],e2,⟨[],s3,rfl,fun j v t hj _=>by simp at hj⟩,by simp only [Lj];omega⟩
 ·have hth:∀ i,i < vs.length->∃ t:Pd,∀ v d,vs[i]? = some v->D[i]? = some d->PdIn W v t/\pdW t<=Rows.uptoBulk d:=fun i hi=>by
   obtain ⟨t,ht⟩:=hP i vs[i] (D[i]'(by omega)) (List.getElem?_eq_getElem hi) (List.getElem?_eq_getElem (by omega))
   exact ⟨t,fun v d hv hd=>by
    rw [List.getElem?_eq_getElem hi] at hv
    rw [List.getElem?_eq_getElem (by omega)] at hd
    cases hv;cases hd;exact ht⟩
  obtain ⟨f,hf⟩:=Go.Deep.choose_lt hth
  refine ⟨qk,ck,(List.range vs.length).map f,by simpa using e2,⟨vs,s3,by simp,fun j v t hj ht=>?_⟩, ?_⟩
  ·obtain ⟨hjl,rfl⟩:=yl ht
   exact (hf j hjl v (D[j]'(by omega)) hj (List.getElem?_eq_getElem (by omega))).1
  ·have:=Qv ((List.range vs.length).map f) D (by simpa using hlD) (fun j y d hj hd=>by
    obtain ⟨hjl,rfl⟩:=yl hj
    exact (hf j hjl vs[j] d (List.getElem?_eq_getElem hjl) hd).2)
   rw [hD]
   simp only [Rows.uptoBulk]
   omega
theorem Re:∀ {l:List Pd} {p:Pd},p ∈ l->pdW p<=Lj l:=by
 intro l
 induction l with
 | nil=>intro p h;simp at h
 | cons a l ih =>
  intro p h
  simp only [Lj]
  rcases List.mem_cons.1 h with rfl | h
  ·omega
  ·have:=ih h;omega
theorem Yo (l:List Pd):l.length<=Lj l:=by
 induction l with
 | nil=>exact Nat.le_refl _
 | cons p l ih=>simp only [Lj,pdW,List.length_cons];omega
theorem J4:∀ {l:List ByteArray} {x:ByteArray},x ∈ l->x.size<=mn l:=by
 intro l
 induction l with
 | nil=>intro x h;simp at h
 | cons a l ih =>
  intro x h
  simp only [mn]
  rcases List.mem_cons.1 h with rfl | h
  ·omega
  ·have:=ih h;omega
theorem vn {p:Pd} (h:pdW p<=1048576):p.small/\zc3 p/\p.ints.length * 8 + 64<=140737488355328/\p.words.length * 16 + 64<=140737488355328:=by
 have h2:=pz p.words
 unfold pdW at h
 refine ⟨⟨by omega,by omega⟩,⟨by unfold maxLen;omega,fun x hx=>?_⟩,by omega,by omega⟩
 have:=J4 hx
 unfold maxLen
 omega
theorem J8 {l:List Pd} (h:Lj l<=1048576):Small l/\Fit l/\(∀ x ∈ l,zc3 x)/\l.length<=100000000:=by
 have hb:∀ p ∈ l,pdW p<=1048576:=fun p hp=>Nat.le_trans (Re hp) h
 refine ⟨fun p hp=>(vn (hb p hp)).1,fun p hp=>(vn (hb p hp)).2.2,fun p hp=>(vn (hb p hp)).2.1, ?_⟩
 have:=Yo l
 omega
end Go.Proofs.YtimklglliffpcaaGreat


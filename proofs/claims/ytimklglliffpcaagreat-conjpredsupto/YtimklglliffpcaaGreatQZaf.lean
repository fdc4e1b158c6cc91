/- conj.Holds. -/
import Derived.Test.YtimklglliffpcaaGreatQCjHold
import Derived.Test.YtimklglliffpcaaGreatQZae
import Derived.Test.YtimklglliffpcaaGreatQJoin
import Derived.Test.YtimklglliffpcaaGreatQZad
import Derived.Test.YtimklglliffpcaaGreatQPushLit
import Derived.Deep.RegionHeld3
namespace Go.Proofs.YtimklglliffpcaaGreat
open Go.RowKit Go.Sort Go.Shelf
def rh (nv:Bool) (lp ln:List Pd) (ev:List Pr):Bool:=!nv && !(lp.any fun p=>!mm ev p) && !(ln.any (mm ev))
theorem Tv {w:World} {M:Nat} {e:Value} {T:TypeId} (h:w.heap[M]? = some (.cells #[e] T (0,0))):w.cell? ⟨M,0,none⟩=some e:=by
 unfold World.cell?
 simp [h]
theorem zca (w:World) (a0 a1 a2 e:Value) (T T':TypeId):∃ X,(w.alloc (.cells #[a0,a1,a2] T)).alloc (.cells #[e] T')=X/\Below w.heap.size w X/\X.heap.size=w.heap.size + 2/\X.heap[w.heap.size]? = some (.cells #[a0,a1,a2] T (0,0))/\X.cell? ⟨w.heap.size + 1,0,none⟩=some e:=by
 refine ⟨_,rfl,((Below.refl _ _).alloc (Nat.le_refl _) _).alloc (by simp) _,by simp, ?_, ?_⟩
 ·exact (((Below.refl _ _).alloc (Nat.le_refl _) _).block w.heap.size (by simp)).trans (World.alloc_heap_new _ _)
 ·have:=World.alloc_heap_new (w.alloc (.cells #[a0,a1,a2] T)) (.cells #[e] T')
  rw [World.size_alloc] at this
  exact Tv this
set_option maxHeartbeats 4000000 in
set_option maxRecDepth 100000 in
/-- conj.Holds. -/
theorem Jp (nv:Bool) (qp qn:Option Addr) (cp cn:Nat) (lp ln:List Pd) (qe:Option Addr) (ce:Nat) (ev:List Pr) (w:World) (hp:PdsOf w qp cp lp) (hn:PdsOf w qn cn ln) (sp:Small lp) (sn:Small ln) (ip:lp.length<=100000000) (iN:ln.length<=100000000) (he:SlOf yq 4 w qe ce ev) (l3:ev.length<=100000000000000) :
    Calls Tryz.prog 31 #[.agg #[.bool nv,.slice qp lp.length cp,.slice qn ln.length cn],.slice qe ev.length ce] w fun e w'=>e=.returned (.bool (rh nv lp ln ev))/\Below w.heap.size w w':=by
  obtain ⟨X,HX,bX,sX,x8,x9⟩:=zca w (.bool nv) (.slice qp lp.length cp) (.slice qn ln.length cn) (.slice qe ev.length ce) 39 40
  obtain ⟨x0,x1,x2⟩:=Fj x8
  have lX:w.heap.size < X.heap.size:=by omega
  have hA:=Xq qp cp (w.heap.size + 1) lp (fun p=>!mm ev p) X (hp.below bX) ip (fun W u p hW hm hu=>zb3 (w.heap.size + 1) u p qe ce ev W hu (sp p hm) (by have:=hW.size;omega) ((hW.cell (p:=⟨w.heap.size + 1,0,none⟩) (by show w.heap.size + 1 < X.heap.size;omega)).trans x9) (he.below (d8 bX hW)) l3)
  have hB:∀ w1,Below X.heap.size X w1->_:=fun w1 b1=>Zt qn cn (w.heap.size + 1) ln (mm ev) w1 (hn.below (d8 bX b1)) iN (fun W u p hW hm hu=>zci (w.heap.size + 1) u p qe ce ev W hu (sn p hm) (by have:=hW.size;have:=b1.size;omega) (((d8 b1 hW).cell (p:=⟨w.heap.size + 1,0,none⟩) (by show w.heap.size + 1 < X.heap.size;omega)).trans x9) (he.below (d8 bX (d8 b1 hW))) l3)
  have BX:=d9 bX
  clear bX x8 hp hn sp sn he
  cases nv with
  | true =>
    clear hA hB
    have HG:=d9 (show false=rh true lp ln ev by simp [rh])
    go_enter Tryz.func31,Tryz.ntmps31
    go_wp2
    go_ret
    exact ⟨jb (uh HG),uh BX⟩
  | false =>
    obtain ⟨a,ha⟩:∃ a,(lp.any fun p=>!mm ev p)=a:=⟨_,rfl⟩
    obtain ⟨b,hb⟩:∃ b,ln.any (mm ev)=b:=⟨_,rfl⟩
    rw [ha] at hA
    simp only [hb] at hB
    cases a with
    | false =>
      cases b with
      | false =>
        have HG:=d9 (show true=rh false lp ln ev by simp [rh,ha,hb])
        clear ha hb
        go_enter Tryz.func31,Tryz.ntmps31
        go_wp2_with (go_at_call 82;first | (refine hA.mono ?_;rintro e w1 ⟨rfl,b1⟩;have n2:=(b1.cell (p:=⟨w.heap.size,2,none⟩) lX).trans x2;have hB':=hB w1 b1;have B1:=d9 b1;clear b1 hA hB) | (refine hB'.mono ?_;rintro e w2 ⟨rfl,b2⟩;have B2:=d9 b2;clear b2))
        go_ret
        exact ⟨jb (uh HG),d8 (uh BX) (d8 (uh B1) (uh B2))⟩
      | true =>
        have HG:=d9 (show false=rh false lp ln ev by simp [rh,ha,hb])
        clear ha hb
        go_enter Tryz.func31,Tryz.ntmps31
        go_wp2_with (go_at_call 82;first | (refine hA.mono ?_;rintro e w1 ⟨rfl,b1⟩;have n2:=(b1.cell (p:=⟨w.heap.size,2,none⟩) lX).trans x2;have hB':=hB w1 b1;have B1:=d9 b1;clear b1 hA hB) | (refine hB'.mono ?_;rintro e w2 ⟨rfl,b2⟩;have B2:=d9 b2;clear b2))
        go_ret
        exact ⟨jb (uh HG),d8 (uh BX) (d8 (uh B1) (uh B2))⟩
    | true =>
      cases b with
      | false =>
        have HG:=d9 (show false=rh false lp ln ev by simp [rh,ha,hb])
        clear ha hb
        go_enter Tryz.func31,Tryz.ntmps31
        go_wp2_with (go_at_call 82;first | (refine hA.mono ?_;rintro e w1 ⟨rfl,b1⟩;have n2:=(b1.cell (p:=⟨w.heap.size,2,none⟩) lX).trans x2;have hB':=hB w1 b1;have B1:=d9 b1;clear b1 hA hB) | (refine hB'.mono ?_;rintro e w2 ⟨rfl,b2⟩;have B2:=d9 b2;clear b2))
        go_ret
        exact ⟨jb (uh HG),d8 (uh BX) (uh B1)⟩
      | true =>
        have HG:=d9 (show false=rh false lp ln ev by simp [rh,ha,hb])
        clear ha hb
        go_enter Tryz.func31,Tryz.ntmps31
        go_wp2_with (go_at_call 82;first | (refine hA.mono ?_;rintro e w1 ⟨rfl,b1⟩;have n2:=(b1.cell (p:=⟨w.heap.size,2,none⟩) lX).trans x2;have hB':=hB w1 b1;have B1:=d9 b1;clear b1 hA hB) | (refine hB'.mono ?_;rintro e w2 ⟨rfl,b2⟩;have B2:=d9 b2;clear b2))
        go_ret
        exact ⟨jb (uh HG),d8 (uh BX) (uh B1)⟩
end Go.Proofs.YtimklglliffpcaaGreat
namespace Go.Proofs.YtimklglliffpcaaGreat
open Go.RowKit Go.Sort
/-- A spread's own cells. -/
structure Sv where
  lit:Lv
  op:Int
  width:Int
  qk:Option Addr
  nk:Nat
  ck:Nat
instance:Inhabited Sv:=⟨⟨default,0,0,none,0,0⟩⟩
def rv (s:Sv):List Value:=[.int .i64 s.lit.kind,.string s.lit.attr,.slice s.lit.qi s.lit.ni s.lit.ci,.slice s.lit.qw s.lit.nw s.lit.cw,.int .i64 s.lit.lo,.int .i64 s.lit.hi,.bool s.lit.neg,.int .i64 s.op,.int .i64 s.width,.slice s.qk s.nk s.ck]
def Sv.val (s:Sv):Value:=.agg #[.int .i64 s.lit.kind,.string s.lit.attr,.slice s.lit.qi s.lit.ni s.lit.ci,.slice s.lit.qw s.lit.nw s.lit.cw,.int .i64 s.lit.lo,.int .i64 s.lit.hi,.bool s.lit.neg,.int .i64 s.op,.int .i64 s.width,.slice s.qk s.nk s.ck]
/-- The spread s is the measured tree t. -/
inductive SdIn (w:World):Sv->Nd->Prop
  | pos {s:Sv} {kind:Int} {attr:ByteArray} {ints:List Int} {words:List ByteArray} {lo hi:Int} {kids:List Nd} :
      LitIn w s.lit ⟨kind,attr,ints,words,lo,hi,false⟩->s.op=1->s.width=1->SdIn w s (.mk kind attr ints words lo hi 1 kids)
  | neg {s:Sv} {k0:Int} {a0:ByteArray} {i0:List Int} {w0:List ByteArray} {l0 h0:Int} {kind:Int} {attr:ByteArray} {ints:List Int} {words:List ByteArray} {lo hi o1:Int} {ks1:List Nd} :
      LitIn w s.lit ⟨kind,attr,ints,words,lo,hi,true⟩->s.op=1->s.width=1->SdIn w s (.mk k0 a0 i0 w0 l0 h0 2 [.mk kind attr ints words lo hi o1 ks1])
  | join {s:Sv} {kind:Int} {attr:ByteArray} {ints:List Int} {words:List ByteArray} {lo hi op:Int} {kids:List Nd} {vs:List Sv} :
      (op=3 ∨ op=4)->s.op=op->s.width=wN (.mk kind attr ints words lo hi op kids)->SlOf rv 10 w s.qk s.ck vs->s.nk=kids.length->vs.length=kids.length->(∀ (j:Nat) (v:Sv) (x:Nd),vs[j]? = some v->kids[j]? = some x->SdIn w v x)->SdIn w s (.mk kind attr ints words lo hi op kids)
theorem SdIn.keep {w w':World} {s:Sv} {t:Nd} (h:SdIn w s t) (hb:Below w.heap.size w w'):SdIn w' s t:=by
 induction h with
 | pos h1 h2 h3=>exact .pos (h1.keep hb) h2 h3
 | neg h1 h2 h3=>exact .neg (h1.keep hb) h2 h3
 | join h1 h2 h3 h4 h5 h6 _ ih=>exact .join h1 h2 h3 (h4.below hb) h5 h6 fun j v x hj hx=>ih j v x hj hx
/-- A list of spreads in memory. -/
def SdsOf (w:World) (q:Option Addr) (c:Nat) (l:List Nd):Prop:=∃ vs,SlOf rv 10 w q c vs/\vs.length=l.length/\∀ (j:Nat) (v:Sv) (x:Nd),vs[j]? = some v->l[j]? = some x->SdIn w v x
theorem SdsOf.below {w w':World} {q:Option Addr} {c:Nat} {l:List Nd} (h:SdsOf w q c l) (hb:Below w.heap.size w w'):SdsOf w' q c l:=by
 obtain ⟨vs,h1,h2,h3⟩:=h
 exact ⟨vs,h1.below hb,h2,fun j v x hj hx=>(h3 j v x hj hx).keep hb⟩
theorem SdsOf.at {w:World} {q:Option Addr} {c:Nat} {l:List Nd} {j:Nat} {x:Nd} (h:SdsOf w q c l) (hj:l[j]? = some x) :
  ∃ b off s,q=some ⟨b,off,none⟩/\b < w.heap.size/\SdIn w s x/\w.cell? ⟨b,off + j * 10,none⟩=some (.int .i64 s.lit.kind)/\w.cell? ⟨b,off + j * 10 + 1,none⟩=some (.string s.lit.attr)/\w.cell? ⟨b,off + j * 10 + 2,none⟩=some (.slice s.lit.qi s.lit.ni s.lit.ci)/\w.cell? ⟨b,off + j * 10 + 3,none⟩=some (.slice s.lit.qw s.lit.nw s.lit.cw)/\w.cell? ⟨b,off + j * 10 + 4,none⟩=some (.int .i64 s.lit.lo)/\w.cell? ⟨b,off + j * 10 + 5,none⟩=some (.int .i64 s.lit.hi)/\w.cell? ⟨b,off + j * 10 + 6,none⟩=some (.bool s.lit.neg)/\w.cell? ⟨b,off + j * 10 + 7,none⟩=some (.int .i64 s.op)/\w.cell? ⟨b,off + j * 10 + 8,none⟩=some (.int .i64 s.width)/\w.cell? ⟨b,off + j * 10 + 9,none⟩=some (.slice s.qk s.nk s.ck):=by
 obtain ⟨vs,h1,h2,h3⟩:=h
 have hl:j < l.length:=(List.getElem?_eq_some_iff.1 hj).1
 obtain ⟨s,hs,_⟩:=je (l:=vs) (k:=j) (by omega)
 obtain ⟨b,off,hq,hb,hc⟩:=h1.2.2.2.at hs
 exact ⟨b,off,s,hq,hb,h3 j s x hs hj,hc 0 (by omega),hc 1 (by omega),hc 2 (by omega),hc 3 (by omega),hc 4 (by omega),hc 5 (by omega),hc 6 (by omega),hc 7 (by omega),hc 8 (by omega),hc 9 (by omega)⟩
theorem SdIn.kids {w:World} {s:Sv} {kind:Int} {attr:ByteArray} {ints:List Int} {words:List ByteArray} {lo hi op:Int} {kids:List Nd} (h:SdIn w s (.mk kind attr ints words lo hi op kids)) (ho:op=3 ∨ op=4) :
  s.op=op/\s.width=wN (.mk kind attr ints words lo hi op kids)/\s.nk=kids.length/\SdsOf w s.qk s.ck kids:=by
 cases h with
 | pos _ _ _=>omega
 | neg _ _ _=>omega
 | join _ h2 h3 h4 h5 h6 h7=>exact ⟨h2,h3,h5,_,h4,h6,h7⟩
/-- A spread's width is its tree's. -/
theorem SdIn.wide {w:World} {s:Sv} {t:Nd} (h:SdIn w s t) (hc:ms t=true) (ha:atN t=true):s.width=wN t:=by
  cases h with
  | pos _ _ h3=>rw [h3];simp [wN]
  | neg _ _ h3=>rw [h3];simp [wN]
  | join _ _ h3 _ _ _ _=>exact h3
end Go.Proofs.YtimklglliffpcaaGreat
namespace Go.Proofs.YtimklglliffpcaaGreat
open Go.RowKit Go.Sort
theorem Tryz.info64:(Tryz.prog.info? 64).map (fun i=>(i.zero,i.size,i.bytes))=some (some (.agg #[.int .i64 0,.string ⟨#[]⟩,.slice none 0 0,.slice none 0 0,.int .i64 0,.int .i64 0,.bool false]),7,96):=by kernel_rfl
theorem zcp:RowOf Jy 37 64 7 96 where
 und:=Tryz.underlying37
 info:=by
  obtain ⟨i0,hi,hz0,hz1,hz2⟩:=info_parts Tryz.info64
  exact ⟨i0,_,hi,hz0,hz1,hz2,rfl⟩
 pos:=by decide
 one:=vm (fun x c hc=>by
  have hm:c=0 ∨ c=1 ∨ c=2 ∨ c=3 ∨ c=4 ∨ c=5 ∨ c=6:=by omega
  rcases hm with e | e | e | e | e | e | e <;> rw [e] <;> rfl) (by decide)
/-- A literal in memory, its lists in blocks from B on. -/
def LitFrom (w:World) (B:Nat) (u:Lv) (l:Lt):Prop:=LitIn w u l/\(∀ a,u.qi=some a->B<=a.block)/\(∀ a,u.qw=some a->B<=a.block)
theorem LitFrom.up {w w':World} {B:Nat} {u:Lv} {l:Lt} (h:LitFrom w B u l) (hu:SameUp B w w'):LitFrom w' B u l:=by
 obtain ⟨⟨h1,h2,h3,h4,h5,h6,h7,h8,h9⟩,f1,f2⟩:=h
 exact ⟨⟨h1,h2,h3,h4,h5,h6,h7,h8.up f1 hu,h9.up f2 hu⟩,f1,f2⟩
theorem xd {w1 w2 V:World} {B:Nat} {kind lo hi:Int} {attr:ByteArray} {neg:Bool} {ints:List Int} {words:List ByteArray} {q1 q2:Option Addr} {k1 k2 B1:Nat} (o1:OwnK jq 3 1 B1 w1 q1 k1 ints) (hB:B<=B1) (o2:OwnK jy 9 1 w1.heap.size w2 q2 k2 words) (b2:Below w1.heap.size w1 w2) (hB2:B<=w1.heap.size) (u:SameUp B w2 V) :
  LitFrom V B ⟨kind,attr,q1,ints.length,k1,q2,words.length,k2,lo,hi,neg⟩ ⟨kind,attr,ints,words,lo,hi,neg⟩:=by
 have f1:∀ a,q1=some a->B<=a.block:=fun a e=>Nat.le_trans hB (o1.from a e)
 have f2:∀ a,q2=some a->B<=a.block:=fun a e=>Nat.le_trans hB2 (o2.from a e)
 exact ⟨⟨rfl,rfl,rfl,rfl,rfl,rfl,rfl,o1.ls.up f1 ((SameUp.of b2).trans u),o2.ls.up f2 u⟩,f1,f2⟩
theorem Fk {W:World} {M:Nat} (u:Lv) (hM:W.heap.size=M):Cg Jy 7 (W.alloc (.cells #[.int .i64 u.kind,.string u.attr,.slice u.qi u.ni u.ci,.slice u.qw u.nw u.cw,.int .i64 u.lo,.int .i64 u.hi,.bool u.neg] 64)) (some ⟨M,0,none⟩) 1 [u]:=by
 subst hM
 have hb:=jf W (.cells #[.int .i64 u.kind,.string u.attr,.slice u.qi u.ni u.ci,.slice u.qw u.nw u.cw,.int .i64 u.lo,.int .i64 u.hi,.bool u.neg] 64)
 obtain ⟨c0,c1,c2,c3,c4,c5,c6⟩:=Xp hb
 refine LsOf.src (fun h=>by cases h) (LsOf.one (by rw [jl];omega) fun c hc=>?_)
 have hm:c=0 ∨ c=1 ∨ c=2 ∨ c=3 ∨ c=4 ∨ c=5 ∨ c=6:=by omega
 rcases hm with e | e | e | e | e | e | e <;> subst e <;> assumption
theorem C6 {w w9:World} {W:World} {q q9:Option Addr} {c c9 n B:Nat} {us:List Lv} {u:Lv} {l:Lt} {o:Obj} (hn:us.length=n) (ho:OwnK Jy 64 7 B w q c us) (bv:Below w.heap.size w W) (s2:w.heap.size + 2<=W.heap.size) (lf:LitFrom W (w.heap.size + 2) u l)
  (ho9:OwnK Jy 64 7 B w9 q9 c9 (us ++ [u])) (hb9:Below B (W.alloc o) w9) (hg9:(W.alloc o).grownBy w9 (Value.slice q n c).ownBlock) (hor9:(Value.slice q9 (n + 1) c9).ownBlock=(Value.slice q n c).ownBlock ∨ (Value.slice q9 (n + 1) c9).ownBlock=some (W.alloc o).heap.size) (hB:B<=w.heap.size) :
  ∃ q' c' v,Ending.returned (.slice q9 (n + 1) c9)=.returned (.slice q' (n + 1:Nat) c')/\OwnK Jy 64 7 B w9 q' c' (us ++ [v])/\OffP B (fun x=>LitIn x v l) (Value.slice q' (n + 1) c').ownBlock w9/\(∀ P:World->Prop,OffP B P (Value.slice q n c).ownBlock w->OffP B P (Value.slice q' (n + 1) c').ownBlock w9)/\Below B w w9:=by
 subst hn
 have hlt:∀ b,(Value.slice q us.length c).ownBlock=some b->b < w.heap.size:=fun b e=>(World.ownsRow.lt ho b e).2
 have bA:Below w.heap.size w (W.alloc o):=bv.alloc (by omega) o
 have hL:OffP B (fun x=>LitIn x u l) (Value.slice q us.length c).ownBlock W:=fun x hs hc=>(lf.up ⟨hs,fun b o hb hlt2=>hc b o (by omega) hlt2 fun e=>by have:=hlt b e.symm;omega⟩).1
 exact ⟨q9,c9,u,rfl,ho9,(hL.below ((Below.refl _ _).alloc (Nat.le_refl _) o)).step hg9 hor9,fun P hP=>(hP.below bA).step hg9 hor9,(bA.mono hB).trans hb9⟩
set_option maxRecDepth 100000 in
set_option maxHeartbeats 8000000 in
theorem Pa (kind:Int) (attr:ByteArray) (qi:Option Addr) (ci:Nat) (ints:List Int) (qw:Option Addr) (cw:Nat) (words:List ByteArray) (lo hi:Int) (neg:Bool) (width:Int) (qk:Option Addr) (nk ck:Nat) (place:Int) (q:Option Addr) (c n B:Nat) (us:List Lv) (w:World) (h1:SlOf jq 1 w qi ci ints) (h2:SlOf jy 1 w qw cw words) (l1:ints.length<=1000000000) (l2:words.length<=1000000000) (ho:OwnK Jy 64 7 B w q c us) (hn:us.length=n) (hB:B<=w.heap.size) (ln:n<=1000000000) :
  Calls Tryz.prog 137 #[.agg #[.int .i64 kind,.string attr,.slice qi ints.length ci,.slice qw words.length cw,.int .i64 lo,.int .i64 hi,.bool neg,.int .i64 1,.int .i64 width,.slice qk nk ck],.int .i64 place,.slice q n c] w fun e w'=>∃ q' c' u,e=.returned (.slice q' (n + 1:Nat) c')/\OwnK Jy 64 7 B w' q' c' (us ++ [u])/\OffP B (fun x=>LitIn x u ⟨kind,attr,ints,words,lo,hi,neg⟩) (Value.slice q' (n + 1) c').ownBlock w'/\(∀ P:World->Prop,OffP B P (Value.slice q n c).ownBlock w->OffP B P (Value.slice q' (n + 1) c').ownBlock w')/\Below B w w':=by
 obtain ⟨X,HX⟩:∃ X,(w.alloc (.cells #[.int .i64 kind,.string attr,.slice qi ints.length ci,.slice qw words.length cw,.int .i64 lo,.int .i64 hi,.bool neg,.int .i64 1,.int .i64 width,.slice qk nk ck] 156)).alloc (.cells #[.int .i64 kind,.string attr,.slice qi ints.length ci,.slice qw words.length cw,.int .i64 lo,.int .i64 hi,.bool neg] 64)=X:=⟨_,rfl⟩
 obtain ⟨hX0,hX1,hwX,hXs⟩:=Li HX
 obtain ⟨y0,y1,y2,y3,y4,y5,y6⟩:=Xp hX1
 have yf:∀ o,X.frozen? ⟨w.heap.size + 1,o,none⟩=false:=fun o=>gy hX1
 have hC1:=fun (W:World) (hW:Below X.heap.size X W)=>Je qi ci ints W ((h1.below hwX).below hW) (by omega)
 have hC2:=fun (W:World) (hW:Below X.heap.size X W)=>Pi qw cw words W ((h2.below hwX).below hW) (by omega)
 have HWX:=d9 hwX
 have mixed:Tryz.prog.follows .mixedOrders=true:=by kernel_rfl
 have HO:=d9 ho
 have HN:=d9 hn
 clear h1 h2 ho hn hwX hX0 hX1
 go_enter Tryz.func137,Tryz.ntmps137
 go_wp2
 refine wp_region_held_drew (S:=fun w'=>True) (by kernel_rfl) (trivial) (fun hHeld=>?_)
 refine wpAnyH_take (i:=0) (oi:=⟨some 24,.fieldAddr 64 (.tmp 7) 0,_,_,_,none⟩) (v:=?_) rfl (by kernel_rfl) (by kernel_rfl) (by kernel_rfl) (fun _ _ _ h=>h) (Or.inl ⟨by rfl, ?_⟩) (by assumption) ?_
 rotate_left
 ·intro wq hSw
  go_simp
  with_reducible rfl
 simp only [Act.put,List.setIfInBounds_toArray,List.set_cons_zero,List.set_cons_succ]
 refine wpAnyH_take (i:=1) (oi:=⟨some 25,.fieldAddr 26 (.tmp 24) 2,_,_,_,none⟩) (v:=?_) rfl (by kernel_rfl) (by kernel_rfl) (by kernel_rfl) (fun _ _ _ h=>h) (Or.inl ⟨by rfl, ?_⟩) (by assumption) ?_
 rotate_left
 ·intro wq hSw
  go_simp
  with_reducible rfl
 simp only [Act.put,List.setIfInBounds_toArray,List.set_cons_zero,List.set_cons_succ]
 refine wpAnyH_take (i:=4) (oi:=⟨some 28,.fieldAddr 64 (.tmp 7) 0,_,_,_,none⟩) (v:=?_) rfl (by kernel_rfl) (by kernel_rfl) (by kernel_rfl) (fun _ _ _ h=>h) (Or.inl ⟨by rfl, ?_⟩) (by assumption) ?_
 rotate_left
 ·intro wq hSw
  go_simp
  with_reducible rfl
 simp only [Act.put,List.setIfInBounds_toArray,List.set_cons_zero,List.set_cons_succ]
 refine wpAnyH_take (i:=5) (oi:=⟨some 29,.fieldAddr 26 (.tmp 28) 3,_,_,_,none⟩) (v:=?_) rfl (by kernel_rfl) (by kernel_rfl) (by kernel_rfl) (fun _ _ _ h=>h) (Or.inl ⟨by rfl, ?_⟩) (by assumption) ?_
 rotate_left
 ·intro wq hSw
  go_simp
  with_reducible rfl
 simp only [Act.put,List.setIfInBounds_toArray,List.set_cons_zero,List.set_cons_succ]
 refine wpAnyH_ready (rs:=[2,6]) (by kernel_rfl) (by simp) ?_
 refine AllReadyH.cons (o:=⟨some 26,.load 23 (.tmp 25),_,_,_,none⟩) rfl (fun K hK=>?_) ?_
 ·go_simp
  refine hK.out _ _ (trivial) (fun hHeld=>?_)
  clear hK K
  refine wpAnyH_ready (rs:=[3,6]) (by kernel_rfl) (by simp) ?_
  refine AllReadyH.cons (o:=⟨some 27,.call { callee:=.value (.func 97),args:=#[.tmp 26],argTypes:=#[23] },_,_,_,none⟩) rfl (fun K hK=>?_) ?_
  ·go_simp
   refine (hC1 _ ((Below.refl _ _).drew)).mono ?_
   rintro e w1 ⟨q1,k1,rfl,o1,b1⟩
   simp only
   have R1:Below X.heap.size X w1:=jz b1
   have s1:w.heap.size + 2<=w1.heap.size:=(by have:=R1.size;omega)
   have O1:=d9 o1
   clear o1 b1
   have f2:=(R1.cell (p:=⟨w.heap.size + 1,2,none⟩) (by simp only;omega)).trans y2
   have f3:=(R1.cell (p:=⟨w.heap.size + 1,3,none⟩) (by simp only;omega)).trans y3
   refine hK.out _ _ (trivial) (fun hHeld=>?_)
   clear hK K
   refine wpAnyH_ready (rs:=[6]) (by kernel_rfl) (by simp) ?_
   refine AllReadyH.cons (o:=⟨some 30,.load 24 (.tmp 29),_,_,_,none⟩) rfl (fun K hK=>?_) ?_
   ·go_simp
    refine hK.out _ _ (trivial) (fun hHeld=>?_)
    clear hK K
    refine wpAnyH_take (i:=8) (oi:=⟨some 32,.fieldAddr 64 (.tmp 7) 0,_,_,_,none⟩) (v:=?_) rfl (by kernel_rfl) (by kernel_rfl) (by kernel_rfl) (fun _ _ _ h=>h) (Or.inl ⟨by rfl, ?_⟩) (by assumption) ?_
    rotate_left
    ·intro wq hSw
     go_simp
     with_reducible rfl
    simp only [Act.put,List.setIfInBounds_toArray,List.set_cons_zero,List.set_cons_succ]
    refine wpAnyH_take (i:=9) (oi:=⟨some 33,.fieldAddr 26 (.tmp 32) 2,_,_,_,none⟩) (v:=?_) rfl (by kernel_rfl) (by kernel_rfl) (by kernel_rfl) (fun _ _ _ h=>h) (Or.inl ⟨by rfl, ?_⟩) (by assumption) ?_
    rotate_left
    ·intro wq hSw
     go_simp
     with_reducible rfl
    simp only [Act.put,List.setIfInBounds_toArray,List.set_cons_zero,List.set_cons_succ]
    refine wpAnyH_ready (rs:=[7]) (by kernel_rfl) (by simp) ?_
    refine AllReadyH.cons (o:=⟨some 31,.call { callee:=.value (.func 176),args:=#[.tmp 30],argTypes:=#[24] },_,_,_,none⟩) rfl (fun K hK=>?_) ?_
    ·go_simp
     refine (hC2 _ R1).mono ?_
     rintro e w2 ⟨q2,k2,rfl,o2,b2⟩
     simp only
     have R2:Below X.heap.size X w2:=d8 R1 b2
     have O2:=d9 o2
     have B2:=d9 b2
     clear o2 b2
     have v0:=(R2.cell (p:=⟨w.heap.size + 1,0,none⟩) (by simp only;omega)).trans y0
     have v1:=(R2.cell (p:=⟨w.heap.size + 1,1,none⟩) (by simp only;omega)).trans y1
     have v2:=(R2.cell (p:=⟨w.heap.size + 1,2,none⟩) (by simp only;omega)).trans y2
     have v3:=(R2.cell (p:=⟨w.heap.size + 1,3,none⟩) (by simp only;omega)).trans y3
     have v4:=(R2.cell (p:=⟨w.heap.size + 1,4,none⟩) (by simp only;omega)).trans y4
     have v5:=(R2.cell (p:=⟨w.heap.size + 1,5,none⟩) (by simp only;omega)).trans y5
     have v6:=(R2.cell (p:=⟨w.heap.size + 1,6,none⟩) (by simp only;omega)).trans y6
     have vf:∀ o,w2.frozen? ⟨w.heap.size + 1,o,none⟩=false:=fun o=>(R2.frozen (by simp only;omega)).trans (yf o)
     have z2b:w.heap.size + 1 < w2.heap.size:=(by have:=R2.size;omega)
     have s2:=(by have:=R2.size;rw [hXs] at this;exact this:w.heap.size + 2<=w2.heap.size)
     have HR2:=d9 R2
     refine hK.out _ _ (trivial) (fun hHeld=>?_)
     clear hK K
     refine wpAnyH_ready (rs:=[10]) (by kernel_rfl) (by simp) ?_
     refine AllReadyH.cons (o:=⟨none,.store 23 (.tmp 33) (.tmp 27),_,_,_,none⟩) rfl (fun K hK=>?_) ?_
     ·go_simp
      refine hK.out _ _ (trivial) (fun hHeld=>?_)
      clear hK K
      refine wpAnyH_take (i:=11) (oi:=⟨some 34,.fieldAddr 64 (.tmp 7) 0,_,_,_,none⟩) (v:=?_) rfl (by kernel_rfl) (by kernel_rfl) (by kernel_rfl) (fun _ _ _ h=>h) (Or.inl ⟨by rfl, ?_⟩) (by assumption) ?_
      rotate_left
      ·intro wq hSw
       go_simp
       with_reducible rfl
      simp only [Act.put,List.setIfInBounds_toArray,List.set_cons_zero,List.set_cons_succ]
      refine wpAnyH_take (i:=12) (oi:=⟨some 35,.fieldAddr 26 (.tmp 34) 3,_,_,_,none⟩) (v:=?_) rfl (by kernel_rfl) (by kernel_rfl) (by kernel_rfl) (fun _ _ _ h=>h) (Or.inl ⟨by rfl, ?_⟩) (by assumption) ?_
      rotate_left
      ·intro wq hSw
       go_simp
       with_reducible rfl
      simp only [Act.put,List.setIfInBounds_toArray,List.set_cons_zero,List.set_cons_succ]
      refine wpAnyH_ready (rs:=[13]) (by kernel_rfl) (by simp) ?_
      refine AllReadyH.cons (o:=⟨none,.store 24 (.tmp 35) (.tmp 31),_,_,_,none⟩) rfl (fun K hK=>?_) ?_
      ·go_simp
       refine hK.out _ _ (trivial) (fun hHeld=>?_)
       clear hK K
       refine wpAnyH_done (by kernel_rfl) ?_ _
       have BV:=d9 (((d8 (uh HWX) R2).setCell (p:=⟨w.heap.size + 1,2,none⟩) (Nat.le_succ _) (.slice q1 ints.length k1)).setCell (p:=⟨w.heap.size + 1,3,none⟩) (Nat.le_succ _) (.slice q2 words.length k2))
       have UP:=d9 (((SameUp.of (B:=w.heap.size + 2) (Below.refl w2.heap.size w2)).set (p:=⟨w.heap.size + 1,2,none⟩) (by simp only;omega) (.slice q1 ints.length k1)).set (p:=⟨w.heap.size + 1,3,none⟩) (by simp only;omega) (.slice q2 words.length k2))
       have LF:=d9 (xd (kind:=kind) (attr:=attr) (lo:=lo) (hi:=hi) (neg:=neg) (uh O1) (by simp only [ke];omega) (uh O2) (uh B2) s1 (uh UP))
       clear R1 R2
       go_wp2_with (at_builtin;refine nr zcp rfl _ _ rfl B q c us ⟨w2.heap.size,0,none⟩ 1 [⟨kind,attr,q1,ints.length,k1,q2,words.length,k2,lo,hi,neg⟩] n 1 (n + 1) (uh HN) rfl rfl rfl rfl ((uh HO).below ((uh BV).alloc (by simp only [World.size_setCell];omega) _)) (Fk ⟨kind,attr,q1,ints.length,k1,q2,words.length,k2,lo,hi,neg⟩ (by simp only [World.size_setCell])) (by unfold maxLen;omega) (by omega) (by simp only [jl,World.size_setCell];omega) ?_;intro q9 c9 w9 ho9 hb9 hg9 hor9;have HO9:=d9 ho9;have HB9:=d9 hb9;have HG9:=d9 hg9;have HR9:=d9 hor9;clear ho9 hb9 hg9 hor9)
       go_ret
       exact C6 (uh HN) (uh HO) (uh BV) (by simp only [World.size_setCell];exact s2) (uh LF) (uh HO9) (uh HB9) (uh HG9) (uh HR9) hB
      exact AllReadyH.nil
     exact AllReadyH.nil
    exact AllReadyH.nil
   exact AllReadyH.nil
  refine AllReadyH.cons (o:=⟨some 30,.load 24 (.tmp 29),_,_,_,none⟩) rfl (fun K hK=>?_) ?_
  ·go_simp
   refine hK.out _ _ (trivial) (fun hHeld=>?_)
   clear hK K
   refine wpAnyH_ready (rs:=[3]) (by kernel_rfl) (by simp) ?_
   refine AllReadyH.cons (o:=⟨some 27,.call { callee:=.value (.func 97),args:=#[.tmp 26],argTypes:=#[23] },_,_,_,none⟩) rfl (fun K hK=>?_) ?_
   ·go_simp
    refine (hC1 _ ((Below.refl _ _).drew)).mono ?_
    rintro e w1 ⟨q1,k1,rfl,o1,b1⟩
    simp only
    have R1:Below X.heap.size X w1:=jz b1
    have s1:w.heap.size + 2<=w1.heap.size:=(by have:=R1.size;omega)
    have O1:=d9 o1
    clear o1 b1
    have f2:=(R1.cell (p:=⟨w.heap.size + 1,2,none⟩) (by simp only;omega)).trans y2
    have f3:=(R1.cell (p:=⟨w.heap.size + 1,3,none⟩) (by simp only;omega)).trans y3
    refine hK.out _ _ (trivial) (fun hHeld=>?_)
    clear hK K
    refine wpAnyH_take (i:=8) (oi:=⟨some 32,.fieldAddr 64 (.tmp 7) 0,_,_,_,none⟩) (v:=?_) rfl (by kernel_rfl) (by kernel_rfl) (by kernel_rfl) (fun _ _ _ h=>h) (Or.inl ⟨by rfl, ?_⟩) (by assumption) ?_
    rotate_left
    ·intro wq hSw
     go_simp
     with_reducible rfl
    simp only [Act.put,List.setIfInBounds_toArray,List.set_cons_zero,List.set_cons_succ]
    refine wpAnyH_take (i:=9) (oi:=⟨some 33,.fieldAddr 26 (.tmp 32) 2,_,_,_,none⟩) (v:=?_) rfl (by kernel_rfl) (by kernel_rfl) (by kernel_rfl) (fun _ _ _ h=>h) (Or.inl ⟨by rfl, ?_⟩) (by assumption) ?_
    rotate_left
    ·intro wq hSw
     go_simp
     with_reducible rfl
    simp only [Act.put,List.setIfInBounds_toArray,List.set_cons_zero,List.set_cons_succ]
    refine wpAnyH_ready (rs:=[7]) (by kernel_rfl) (by simp) ?_
    refine AllReadyH.cons (o:=⟨some 31,.call { callee:=.value (.func 176),args:=#[.tmp 30],argTypes:=#[24] },_,_,_,none⟩) rfl (fun K hK=>?_) ?_
    ·go_simp
     refine (hC2 _ R1).mono ?_
     rintro e w2 ⟨q2,k2,rfl,o2,b2⟩
     simp only
     have R2:Below X.heap.size X w2:=d8 R1 b2
     have O2:=d9 o2
     have B2:=d9 b2
     clear o2 b2
     have v0:=(R2.cell (p:=⟨w.heap.size + 1,0,none⟩) (by simp only;omega)).trans y0
     have v1:=(R2.cell (p:=⟨w.heap.size + 1,1,none⟩) (by simp only;omega)).trans y1
     have v2:=(R2.cell (p:=⟨w.heap.size + 1,2,none⟩) (by simp only;omega)).trans y2
     have v3:=(R2.cell (p:=⟨w.heap.size + 1,3,none⟩) (by simp only;omega)).trans y3
     have v4:=(R2.cell (p:=⟨w.heap.size + 1,4,none⟩) (by simp only;omega)).trans y4
     have v5:=(R2.cell (p:=⟨w.heap.size + 1,5,none⟩) (by simp only;omega)).trans y5
     have v6:=(R2.cell (p:=⟨w.heap.size + 1,6,none⟩) (by simp only;omega)).trans y6
     have vf:∀ o,w2.frozen? ⟨w.heap.size + 1,o,none⟩=false:=fun o=>(R2.frozen (by simp only;omega)).trans (yf o)
     have z2b:w.heap.size + 1 < w2.heap.size:=(by have:=R2.size;omega)
     have s2:=(by have:=R2.size;rw [hXs] at this;exact this:w.heap.size + 2<=w2.heap.size)
     have HR2:=d9 R2
     refine hK.out _ _ (trivial) (fun hHeld=>?_)
     clear hK K
     refine wpAnyH_ready (rs:=[10]) (by kernel_rfl) (by simp) ?_
     refine AllReadyH.cons (o:=⟨none,.store 23 (.tmp 33) (.tmp 27),_,_,_,none⟩) rfl (fun K hK=>?_) ?_
     ·go_simp
      refine hK.out _ _ (trivial) (fun hHeld=>?_)
      clear hK K
      refine wpAnyH_take (i:=11) (oi:=⟨some 34,.fieldAddr 64 (.tmp 7) 0,_,_,_,none⟩) (v:=?_) rfl (by kernel_rfl) (by kernel_rfl) (by kernel_rfl) (fun _ _ _ h=>h) (Or.inl ⟨by rfl, ?_⟩) (by assumption) ?_
      rotate_left
      ·intro wq hSw
       go_simp
       with_reducible rfl
      simp only [Act.put,List.setIfInBounds_toArray,List.set_cons_zero,List.set_cons_succ]
      refine wpAnyH_take (i:=12) (oi:=⟨some 35,.fieldAddr 26 (.tmp 34) 3,_,_,_,none⟩) (v:=?_) rfl (by kernel_rfl) (by kernel_rfl) (by kernel_rfl) (fun _ _ _ h=>h) (Or.inl ⟨by rfl, ?_⟩) (by assumption) ?_
      rotate_left
      ·intro wq hSw
       go_simp
       with_reducible rfl
      simp only [Act.put,List.setIfInBounds_toArray,List.set_cons_zero,List.set_cons_succ]
      refine wpAnyH_ready (rs:=[13]) (by kernel_rfl) (by simp) ?_
      refine AllReadyH.cons (o:=⟨none,.store 24 (.tmp 35) (.tmp 31),_,_,_,none⟩) rfl (fun K hK=>?_) ?_
      ·go_simp
       refine hK.out _ _ (trivial) (fun hHeld=>?_)
       clear hK K
       refine wpAnyH_done (by kernel_rfl) ?_ _
       have BV:=d9 (((d8 (uh HWX) R2).setCell (p:=⟨w.heap.size + 1,2,none⟩) (Nat.le_succ _) (.slice q1 ints.length k1)).setCell (p:=⟨w.heap.size + 1,3,none⟩) (Nat.le_succ _) (.slice q2 words.length k2))
       have UP:=d9 (((SameUp.of (B:=w.heap.size + 2) (Below.refl w2.heap.size w2)).set (p:=⟨w.heap.size + 1,2,none⟩) (by simp only;omega) (.slice q1 ints.length k1)).set (p:=⟨w.heap.size + 1,3,none⟩) (by simp only;omega) (.slice q2 words.length k2))
       have LF:=d9 (xd (kind:=kind) (attr:=attr) (lo:=lo) (hi:=hi) (neg:=neg) (uh O1) (by simp only [ke];omega) (uh O2) (uh B2) s1 (uh UP))
       clear R1 R2
       go_wp2_with (at_builtin;refine nr zcp rfl _ _ rfl B q c us ⟨w2.heap.size,0,none⟩ 1 [⟨kind,attr,q1,ints.length,k1,q2,words.length,k2,lo,hi,neg⟩] n 1 (n + 1) (uh HN) rfl rfl rfl rfl ((uh HO).below ((uh BV).alloc (by simp only [World.size_setCell];omega) _)) (Fk ⟨kind,attr,q1,ints.length,k1,q2,words.length,k2,lo,hi,neg⟩ (by simp only [World.size_setCell])) (by unfold maxLen;omega) (by omega) (by simp only [jl,World.size_setCell];omega) ?_;intro q9 c9 w9 ho9 hb9 hg9 hor9;have HO9:=d9 ho9;have HB9:=d9 hb9;have HG9:=d9 hg9;have HR9:=d9 hor9;clear ho9 hb9 hg9 hor9)
       go_ret
       exact C6 (uh HN) (uh HO) (uh BV) (by simp only [World.size_setCell];exact s2) (uh LF) (uh HO9) (uh HB9) (uh HG9) (uh HR9) hB
      exact AllReadyH.nil
     exact AllReadyH.nil
    exact AllReadyH.nil
   exact AllReadyH.nil
  exact AllReadyH.nil
 refine AllReadyH.cons (o:=⟨some 30,.load 24 (.tmp 29),_,_,_,none⟩) rfl (fun K hK=>?_) ?_
 ·go_simp
  refine hK.out _ _ (trivial) (fun hHeld=>?_)
  clear hK K
  refine wpAnyH_ready (rs:=[2]) (by kernel_rfl) (by simp) ?_
  refine AllReadyH.cons (o:=⟨some 26,.load 23 (.tmp 25),_,_,_,none⟩) rfl (fun K hK=>?_) ?_
  ·go_simp
   refine hK.out _ _ (trivial) (fun hHeld=>?_)
   clear hK K
   refine wpAnyH_ready (rs:=[3]) (by kernel_rfl) (by simp) ?_
   refine AllReadyH.cons (o:=⟨some 27,.call { callee:=.value (.func 97),args:=#[.tmp 26],argTypes:=#[23] },_,_,_,none⟩) rfl (fun K hK=>?_) ?_
   ·go_simp
    refine (hC1 _ ((Below.refl _ _).drew)).mono ?_
    rintro e w1 ⟨q1,k1,rfl,o1,b1⟩
    simp only
    have R1:Below X.heap.size X w1:=jz b1
    have s1:w.heap.size + 2<=w1.heap.size:=(by have:=R1.size;omega)
    have O1:=d9 o1
    clear o1 b1
    have f2:=(R1.cell (p:=⟨w.heap.size + 1,2,none⟩) (by simp only;omega)).trans y2
    have f3:=(R1.cell (p:=⟨w.heap.size + 1,3,none⟩) (by simp only;omega)).trans y3
    refine hK.out _ _ (trivial) (fun hHeld=>?_)
    clear hK K
    refine wpAnyH_take (i:=8) (oi:=⟨some 32,.fieldAddr 64 (.tmp 7) 0,_,_,_,none⟩) (v:=?_) rfl (by kernel_rfl) (by kernel_rfl) (by kernel_rfl) (fun _ _ _ h=>h) (Or.inl ⟨by rfl, ?_⟩) (by assumption) ?_
    rotate_left
    ·intro wq hSw
     go_simp
     with_reducible rfl
    simp only [Act.put,List.setIfInBounds_toArray,List.set_cons_zero,List.set_cons_succ]
    refine wpAnyH_take (i:=9) (oi:=⟨some 33,.fieldAddr 26 (.tmp 32) 2,_,_,_,none⟩) (v:=?_) rfl (by kernel_rfl) (by kernel_rfl) (by kernel_rfl) (fun _ _ _ h=>h) (Or.inl ⟨by rfl, ?_⟩) (by assumption) ?_
    rotate_left
    ·intro wq hSw
     go_simp
     with_reducible rfl
    simp only [Act.put,List.setIfInBounds_toArray,List.set_cons_zero,List.set_cons_succ]
    refine wpAnyH_ready (rs:=[7]) (by kernel_rfl) (by simp) ?_
    refine AllReadyH.cons (o:=⟨some 31,.call { callee:=.value (.func 176),args:=#[.tmp 30],argTypes:=#[24] },_,_,_,none⟩) rfl (fun K hK=>?_) ?_
    ·go_simp
     refine (hC2 _ R1).mono ?_
     rintro e w2 ⟨q2,k2,rfl,o2,b2⟩
     simp only
     have R2:Below X.heap.size X w2:=d8 R1 b2
     have O2:=d9 o2
     have B2:=d9 b2
     clear o2 b2
     have v0:=(R2.cell (p:=⟨w.heap.size + 1,0,none⟩) (by simp only;omega)).trans y0
     have v1:=(R2.cell (p:=⟨w.heap.size + 1,1,none⟩) (by simp only;omega)).trans y1
     have v2:=(R2.cell (p:=⟨w.heap.size + 1,2,none⟩) (by simp only;omega)).trans y2
     have v3:=(R2.cell (p:=⟨w.heap.size + 1,3,none⟩) (by simp only;omega)).trans y3
     have v4:=(R2.cell (p:=⟨w.heap.size + 1,4,none⟩) (by simp only;omega)).trans y4
     have v5:=(R2.cell (p:=⟨w.heap.size + 1,5,none⟩) (by simp only;omega)).trans y5
     have v6:=(R2.cell (p:=⟨w.heap.size + 1,6,none⟩) (by simp only;omega)).trans y6
     have vf:∀ o,w2.frozen? ⟨w.heap.size + 1,o,none⟩=false:=fun o=>(R2.frozen (by simp only;omega)).trans (yf o)
     have z2b:w.heap.size + 1 < w2.heap.size:=(by have:=R2.size;omega)
     have s2:=(by have:=R2.size;rw [hXs] at this;exact this:w.heap.size + 2<=w2.heap.size)
     have HR2:=d9 R2
     refine hK.out _ _ (trivial) (fun hHeld=>?_)
     clear hK K
     refine wpAnyH_ready (rs:=[10]) (by kernel_rfl) (by simp) ?_
     refine AllReadyH.cons (o:=⟨none,.store 23 (.tmp 33) (.tmp 27),_,_,_,none⟩) rfl (fun K hK=>?_) ?_
     ·go_simp
      refine hK.out _ _ (trivial) (fun hHeld=>?_)
      clear hK K
      refine wpAnyH_take (i:=11) (oi:=⟨some 34,.fieldAddr 64 (.tmp 7) 0,_,_,_,none⟩) (v:=?_) rfl (by kernel_rfl) (by kernel_rfl) (by kernel_rfl) (fun _ _ _ h=>h) (Or.inl ⟨by rfl, ?_⟩) (by assumption) ?_
      rotate_left
      ·intro wq hSw
       go_simp
       with_reducible rfl
      simp only [Act.put,List.setIfInBounds_toArray,List.set_cons_zero,List.set_cons_succ]
      refine wpAnyH_take (i:=12) (oi:=⟨some 35,.fieldAddr 26 (.tmp 34) 3,_,_,_,none⟩) (v:=?_) rfl (by kernel_rfl) (by kernel_rfl) (by kernel_rfl) (fun _ _ _ h=>h) (Or.inl ⟨by rfl, ?_⟩) (by assumption) ?_
      rotate_left
      ·intro wq hSw
       go_simp
       with_reducible rfl
      simp only [Act.put,List.setIfInBounds_toArray,List.set_cons_zero,List.set_cons_succ]
      refine wpAnyH_ready (rs:=[13]) (by kernel_rfl) (by simp) ?_
      refine AllReadyH.cons (o:=⟨none,.store 24 (.tmp 35) (.tmp 31),_,_,_,none⟩) rfl (fun K hK=>?_) ?_
      ·go_simp
       refine hK.out _ _ (trivial) (fun hHeld=>?_)
       clear hK K
       refine wpAnyH_done (by kernel_rfl) ?_ _
       have BV:=d9 (((d8 (uh HWX) R2).setCell (p:=⟨w.heap.size + 1,2,none⟩) (Nat.le_succ _) (.slice q1 ints.length k1)).setCell (p:=⟨w.heap.size + 1,3,none⟩) (Nat.le_succ _) (.slice q2 words.length k2))
       have UP:=d9 (((SameUp.of (B:=w.heap.size + 2) (Below.refl w2.heap.size w2)).set (p:=⟨w.heap.size + 1,2,none⟩) (by simp only;omega) (.slice q1 ints.length k1)).set (p:=⟨w.heap.size + 1,3,none⟩) (by simp only;omega) (.slice q2 words.length k2))
       have LF:=d9 (xd (kind:=kind) (attr:=attr) (lo:=lo) (hi:=hi) (neg:=neg) (uh O1) (by simp only [ke];omega) (uh O2) (uh B2) s1 (uh UP))
       clear R1 R2
       go_wp2_with (at_builtin;refine nr zcp rfl _ _ rfl B q c us ⟨w2.heap.size,0,none⟩ 1 [⟨kind,attr,q1,ints.length,k1,q2,words.length,k2,lo,hi,neg⟩] n 1 (n + 1) (uh HN) rfl rfl rfl rfl ((uh HO).below ((uh BV).alloc (by simp only [World.size_setCell];omega) _)) (Fk ⟨kind,attr,q1,ints.length,k1,q2,words.length,k2,lo,hi,neg⟩ (by simp only [World.size_setCell])) (by unfold maxLen;omega) (by omega) (by simp only [jl,World.size_setCell];omega) ?_;intro q9 c9 w9 ho9 hb9 hg9 hor9;have HO9:=d9 ho9;have HB9:=d9 hb9;have HG9:=d9 hg9;have HR9:=d9 hor9;clear ho9 hb9 hg9 hor9)
       go_ret
       exact C6 (uh HN) (uh HO) (uh BV) (by simp only [World.size_setCell];exact s2) (uh LF) (uh HO9) (uh HB9) (uh HG9) (uh HR9) hB
      exact AllReadyH.nil
     exact AllReadyH.nil
    exact AllReadyH.nil
   exact AllReadyH.nil
  exact AllReadyH.nil
 exact AllReadyH.nil
/-- A list of literals that is the call's own and grows: us in memory, ls what they are. -/
def GrowL (B:Nat) (w:World) (q:Option Addr) (c n:Nat) (ls:List Lt):Prop:=ls.length=n/\∃ us:List Lv,us.length=n/\OwnK Jy 64 7 B w q c us/\OffP B (fun x=>∀ (j:Nat) (u:Lv) (l:Lt),us[j]? = some u->ls[j]? = some l->LitIn x u l) (Value.slice q n c).ownBlock w
theorem GrowL.nil (B:Nat) (w:World):GrowL B w none 0 0 []:=⟨rfl,[],rfl,OwnK.nil B w,fun _ _ _ j u l h=>by simp at h⟩
theorem GrowL.below {B:Nat} {w w':World} {q:Option Addr} {c n:Nat} {ls:List Lt} (h:GrowL B w q c n ls) (hb:Below w.heap.size w w'):GrowL B w' q c n ls:=by
 obtain ⟨h1,us,h2,h3,h4⟩:=h
 exact ⟨h1,us,h2,h3.below hb,h4.below hb⟩
theorem GrowL.lits {B:Nat} {w:World} {q:Option Addr} {c n:Nat} {ls:List Lt} (h:GrowL B w q c n ls):LitsOf w q c ls:=by
 obtain ⟨h1,us,h2,h3,h4⟩:=h
 exact ⟨us,h3.ls,by omega,h4.now⟩
theorem zc1 {ls:List Lt} {us:List Lv} {Q:Lv->Lt->Prop} {u:Lv} {l:Lt} (he:us.length=ls.length) (h:∀ (j:Nat) (u:Lv) (l:Lt),us[j]? = some u->ls[j]? = some l->Q u l) (hq:Q u l):∀ (j:Nat) (v:Lv) (m:Lt),(us ++ [u])[j]? = some v->(ls ++ [l])[j]? = some m->Q v m:=by
 intro j v m hv hm
 by_cases hj:j < us.length
 ·rw [List.getElem?_append_left hj] at hv
  rw [List.getElem?_append_left (by omega)] at hm
  exact h j v m hv hm
 ·have hj2:=(List.getElem?_eq_some_iff.1 hv).1
  rw [List.length_append] at hj2
  obtain rfl:j=us.length:=by simp at hj2;omega
  rw [List.getElem?_append_right (by omega),Nat.sub_self] at hv
  rw [List.getElem?_append_right (by omega),he,Nat.sub_self] at hm
  cases hv
  cases hm
  exact hq
/-- What conj answers: the list, and behind it the literals m. -/
def xe (B:Nat) (w:World) (ls m:List Lt) (e:Ending) (w':World):Prop:=∃ q' c' N,e=.returned (.slice q' N c')/\GrowL B w' q' c' N (ls ++ m)/\Below B w w'
theorem Hs (s:Sv) (l:Lt) (place:Int) (q:Option Addr) (c n B:Nat) (ls:List Lt) (w:World) (h:LitIn w s.lit l) (h0:s.op=1) (l1:l.ints.length<=1000000000) (l2:l.words.length<=1000000000) (hg:GrowL B w q c n ls) (hB:B<=w.heap.size) (ln:n<=1000000000) :
  Calls Tryz.prog 137 #[s.val,.int .i64 place,.slice q n c] w (xe B w ls [l]):=by
 obtain ⟨hl,us,hu,ho,hoff⟩:=hg
 obtain ⟨a1,a2,a3,a4,a5,a6,a7,a8,a9⟩:=h
 unfold Sv.val
 rw [a1,a2,a3,a4,a5,a6,a7,h0]
 refine (Pa l.kind l.attr s.lit.qi s.lit.ci l.ints s.lit.qw s.lit.cw l.words l.lo l.hi l.neg s.width s.qk s.nk s.ck place q c n B us w a8 a9 l1 l2 ho hu hB ln).mono ?_
 rintro e w' ⟨q',c',u,rfl,h1,h2,h3,h4⟩
 refine ⟨q',c',n + 1,rfl,⟨by simp [hl],us ++ [u],by simp [hu],h1, ?_⟩,h4⟩
 exact ((h3 _ hoff).and h2).imp fun x hx=>zc1 (by omega) hx.1 hx.2
end Go.Proofs.YtimklglliffpcaaGreat
namespace Go.Proofs.YtimklglliffpcaaGreat
open Go.RowKit Go.Sort Go.Shelf
theorem Tryz.info26:(Tryz.prog.info? 26).map (fun i=>(i.zero,i.size,i.bytes))=some (some (.agg #[.int .i64 0,.string ⟨#[]⟩,.slice none 0 0,.slice none 0 0,.int .i64 0,.int .i64 0]),6,88):=by kernel_rfl
theorem zby:RowOf sc 22 26 6 88 where
 und:=by kernel_rfl
 info:=by
  obtain ⟨i0,hi,hz0,hz1,hz2⟩:=info_parts Tryz.info26
  exact ⟨i0,_,hi,hz0,hz1,hz2,rfl⟩
 pos:=by decide
 one:=vm (fun x c hc=>by
  have hm:c=0 ∨ c=1 ∨ c=2 ∨ c=3 ∨ c=4 ∨ c=5:=by omega
  rcases hm with e | e | e | e | e | e <;> rw [e] <;> rfl) (by decide)
/-- A predicate in memory, its lists in blocks from B on. -/
def PdFrom (w:World) (B:Nat) (u:Pv) (p:Pd):Prop:=PdIn w u p/\(∀ a,u.qi=some a->B<=a.block)/\(∀ a,u.qw=some a->B<=a.block)
theorem PdFrom.up {w w':World} {B:Nat} {u:Pv} {p:Pd} (h:PdFrom w B u p) (hu:SameUp B w w'):PdFrom w' B u p:=by
 obtain ⟨⟨h1,h2,h3,h4,h5,h6,h8,h9⟩,f1,f2⟩:=h
 exact ⟨⟨h1,h2,h3,h4,h5,h6,h8.up f1 hu,h9.up f2 hu⟩,f1,f2⟩
theorem Gv {W:World} {M:Nat} (u:Pv) (hM:W.heap.size=M):Cg sc 6 (W.alloc (.cells #[.int .i64 u.kind,.string u.attr,.slice u.qi u.ni u.ci,.slice u.qw u.nw u.cw,.int .i64 u.lo,.int .i64 u.hi] 26)) (some ⟨M,0,none⟩) 1 [u]:=by
 subst hM
 have hb:=jf W (.cells #[.int .i64 u.kind,.string u.attr,.slice u.qi u.ni u.ci,.slice u.qw u.nw u.cw,.int .i64 u.lo,.int .i64 u.hi] 26)
 obtain ⟨c0,c1,c2,c3,c4,c5⟩:=kq hb
 refine LsOf.src (fun h=>by cases h) (LsOf.one (by rw [jl];omega) fun c hc=>?_)
 have hm:c=0 ∨ c=1 ∨ c=2 ∨ c=3 ∨ c=4 ∨ c=5:=by omega
 rcases hm with e | e | e | e | e | e <;> subst e <;> assumption
/-- The list: us in memory, ls what they are. -/
def GrowD (B:Nat) (w:World) (q:Option Addr) (c n:Nat) (ls:List Pd):Prop:=ls.length=n/\∃ us:List Pv,us.length=n/\OwnK sc 26 6 B w q c us/\OffP B (fun x=>∀ (j:Nat) (u:Pv) (l:Pd),us[j]? = some u->ls[j]? = some l->PdFrom x B u l) (Value.slice q n c).ownBlock w
theorem GrowD.nil (B:Nat) (w:World):GrowD B w none 0 0 []:=⟨rfl,[],rfl,OwnK.nil B w,fun _ _ _ j u l h=>by simp at h⟩
theorem GrowD.below {B:Nat} {w w':World} {q:Option Addr} {c n:Nat} {ls:List Pd} (h:GrowD B w q c n ls) (hb:Below w.heap.size w w'):GrowD B w' q c n ls:=by
 obtain ⟨h1,us,h2,h3,h4⟩:=h
 exact ⟨h1,us,h2,h3.below hb,h4.below hb⟩
theorem GrowD.preds {B:Nat} {w:World} {q:Option Addr} {c n:Nat} {ls:List Pd} (h:GrowD B w q c n ls):PdsOf w q c ls:=by
 obtain ⟨h1,us,h2,h3,h4⟩:=h
 exact ⟨us,h3.ls,by omega,fun j u p hj hp=>(h4.now j u p hj hp).1⟩
theorem Yj {ls:List Pd} {us:List Pv} {Q:Pv->Pd->Prop} {u:Pv} {l:Pd} (he:us.length=ls.length) (h:∀ (j:Nat) (u:Pv) (l:Pd),us[j]? = some u->ls[j]? = some l->Q u l) (hq:Q u l):∀ (j:Nat) (v:Pv) (m:Pd),(us ++ [u])[j]? = some v->(ls ++ [l])[j]? = some m->Q v m:=by
 intro j v m hv hm
 by_cases hj:j < us.length
 ·rw [List.getElem?_append_left hj] at hv
  rw [List.getElem?_append_left (by omega)] at hm
  exact h j v m hv hm
 ·have hj2:=(List.getElem?_eq_some_iff.1 hv).1
  rw [List.length_append] at hj2
  obtain rfl:j=us.length:=by simp at hj2;omega
  rw [List.getElem?_append_right (by omega),Nat.sub_self] at hv
  rw [List.getElem?_append_right (by omega),he,Nat.sub_self] at hm
  cases hv
  cases hm
  exact hq
/-- One more behind the list: W is the world ahead of the append's own box. -/
theorem GrowD.snoc {w w9:World} {W:World} {q q9:Option Addr} {c c9 n B:Nat} {ls:List Pd} {us:List Pv} {u:Pv} {l:Pd} {o:Obj} (hl:ls.length=n) (hn:us.length=n) (ho:OwnK sc 26 6 B w q c us) (hof:OffP B (fun x=>∀ (j:Nat) (u:Pv) (l:Pd),us[j]? = some u->ls[j]? = some l->PdFrom x B u l) (Value.slice q n c).ownBlock w) (bv:Below w.heap.size w W) (lf:PdFrom W w.heap.size u l)
    (ho9:OwnK sc 26 6 B w9 q9 c9 (us ++ [u])) (hb9:Below B (W.alloc o) w9) (hg9:(W.alloc o).grownBy w9 (Value.slice q n c).ownBlock) (hor9:(Value.slice q9 (n + 1) c9).ownBlock=(Value.slice q n c).ownBlock ∨ (Value.slice q9 (n + 1) c9).ownBlock=some (W.alloc o).heap.size) (hB:B<=w.heap.size) :
    GrowD B w9 q9 c9 (n + 1) (ls ++ [l])/\Below B w w9:=by
  subst hn
  have hlt:∀ b,(Value.slice q us.length c).ownBlock=some b->b < w.heap.size:=fun b e=>(World.ownsRow.lt ho b e).2
  have bA:Below w.heap.size w (W.alloc o):=bv.alloc bv.size o
  have hL:OffP B (fun x=>PdFrom x B u l) (Value.slice q us.length c).ownBlock W:=fun x hs hc=>by
    have h:=lf.up (w':=x) ⟨hs,fun b o hb hlt2=>hc b o (Nat.le_trans hB hb) hlt2 fun e=>by have:=hlt b e.symm;omega⟩
    exact ⟨h.1,fun a e=>Nat.le_trans hB (h.2.1 a e),fun a e=>Nat.le_trans hB (h.2.2 a e)⟩
  have h1:=(hL.below ((Below.refl _ _).alloc (Nat.le_refl _) o)).step hg9 hor9
  have h2:=(hof.below bA).step hg9 hor9
  refine ⟨⟨by simp [hl],us ++ [u],by simp,ho9,fun x hs hc=>?_⟩,(bA.mono hB).trans hb9⟩
  exact Yj (Q:=PdFrom x B) (by omega) (h2 x hs hc) (h1 x hs hc)
end Go.Proofs.YtimklglliffpcaaGreat

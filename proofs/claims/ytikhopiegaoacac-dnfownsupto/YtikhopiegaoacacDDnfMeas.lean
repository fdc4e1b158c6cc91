/- dnf's measured: a pushed tree with its widths. -/
import Derived.Test.YtikhopiegaoacacDDnfConjAll
import Derived.Test.YtikhopiegaoacacDPushSum
import Derived.Test.YtikhopiegaoacacDPushWidth
import Derived.Deep.Cut
namespace Go.Proofs.Ytikhopiegaoacac
open Go.RowKit Go.Sort

/-- From w to w' no cell of a block below A, or from C on, was written. -/
def Ags (A C:Nat) (w w':World):Prop:=w.heap.size≤w'.heap.size∧∀ b o,b < w.heap.size→(b < A ∨ C≤b)→w'.cell? ⟨b,o,none⟩=w.cell? ⟨b,o,none⟩
theorem Ags.refl (A C:Nat) (w:World):Ags A C w w:=⟨Nat.le_refl _,fun _ _ _ _=>rfl⟩
theorem Ags.trans {A C:Nat} {w w1 w2:World} (h:Ags A C w w1) (k:Ags A C w1 w2):Ags A C w w2:=⟨Nat.le_trans h.1 k.1,fun b o hb hc=>(k.2 b o (Nat.lt_of_lt_of_le hb h.1) hc).trans (h.2 b o hb hc)⟩
theorem Ags.of {A C:Nat} {w w':World} (hb:Below w.heap.size w w'):Ags A C w w':=⟨hb.size,fun b o h _=>hb.cell (p:=⟨b,o,none⟩) h⟩
theorem Ags.mono {A C C':Nat} {w w':World} (h:Ags A C w w') (hc:C≤C'):Ags A C' w w':=⟨h.1,fun b o hb hc2=>h.2 b o hb (by omega)⟩
theorem Ags.set {A C:Nat} {w0 w:World} (h:Ags A C w0 w) {p:Addr} (h1:A≤p.block) (h2:p.block < C) (u:Value):Ags A C w0 (w.setCell p u) :=
 h.trans ⟨by simp,fun b o hb hc=>World.cell?_of_block (w:=w) (a:=⟨b,o,none⟩) (Below.heap_setCell w p u b (by show b ≠ p.block;omega))⟩
theorem SlOf.agree {α:Type} [Inhabited α] {enc:α→List Value} {k:Nat} {w w':World} {q:Option Addr} {c:Nat} {l:List α} (h:SlOf enc k w q c l) (hs:w.heap.size≤w'.heap.size) (hc:∀ ad,q=some ad→ad.block < w.heap.size→∀ o,w'.cell? ⟨ad.block,o,Option.none⟩=w.cell? ⟨ad.block,o,Option.none⟩):SlOf enc k w' q c l :=
 ⟨h.1,h.2.1,h.2.2.1,fun h0=>by
  obtain ⟨b,off,hq,hlt,hcc⟩:=h.2.2.2 h0
  exact ⟨b,off,hq,Nat.lt_of_lt_of_le hlt hs,fun j u hj=>(hc _ hq hlt _).trans (hcc j u hj)⟩⟩
/-- The spread s is the measured tree t, and stays so while no cell of a block below A, or from C on, is written. -/
def SdSt (A C:Nat) (s:Sv) (t:Nd) (w:World):Prop:=∀ w',Ags A C w w'→SdIn w' s t
theorem SdSt.now {A C:Nat} {s:Sv} {t:Nd} {w:World} (h:SdSt A C s t w):SdIn w s t:=h w (Ags.refl _ _ _)
theorem SdSt.step {A C:Nat} {s:Sv} {t:Nd} {w w':World} (h:SdSt A C s t w) (ha:Ags A C w w'):SdSt A C s t w':=fun w'' h2=>h w'' (ha.trans h2)
theorem SdSt.mono {A C C':Nat} {s:Sv} {t:Nd} {w:World} (h:SdSt A C s t w) (hc:C'≤C):SdSt A C' s t w:=fun w' h2=>h w' (h2.mono hc)
theorem agree0 {w0 w w' w'':World} {C:Nat} (hb:Below w0.heap.size w0 w) (h1:Below w.heap.size w w') (h2:Ags w0.heap.size C w' w''):w0.heap.size≤w''.heap.size∧∀ b o,b < w0.heap.size→w''.cell? ⟨b,o,none⟩=w0.cell? ⟨b,o,none⟩:=by
 have s1:=hb.size
 have s2:=h1.size
 exact ⟨by have:=h2.1;omega,fun b o hlt=>(h2.2 b o (by omega) (Or.inl hlt)).trans ((h1.cell (p:=⟨b,o,none⟩) (by simp only;omega)).trans (hb.cell (p:=⟨b,o,none⟩) hlt))⟩
theorem Try.info62:(Try.prog.info? 62).map (fun i=>(i.zero,i.size,i.bytes))=some (some (.agg #[.int .i64 0,.string ⟨#[]⟩,.slice none 0 0,.slice none 0 0,.int .i64 0,.int .i64 0,.bool false,.int .i64 0,.int .i64 0,.slice none 0 0]),10,136):=by kernel_rfl
theorem makeSd (n:Nat) (h:n * 136≤140737488355328):∃ cur:Array Value,cur.size=n * 10∧∀ W:World,(Instr.makeSlice 60 (.int .i64 (n:Int)) (.int .i64 (n:Int))).run Try.prog W=.ok (.slice (some ⟨W.heap.size,0,none⟩) n n) (W.alloc (.cells cur 62)):=by
 obtain ⟨i0,hi,hz0,hz1,hz2⟩:=info_parts Try.info62
 refine ⟨madeCells (Value.agg #[.int .i64 0,.string ⟨#[]⟩,.slice none 0 0,.slice none 0 0,.int .i64 0,.int .i64 0,.bool false,.int .i64 0,.int .i64 0,.slice none 0 0]).cells (n * i0.size),by rw [size_madeCells,hz1],fun W=>?_⟩
 have:=run_make (P:=Try.prog) W 60 62 i0 _ Try.underlying60 hi hz0 .i64 .i64 (n:Int) (n:Int) (by omega) (by omega) (by rw [hz2];omega) (by omega)
 simpa only [Int.toNat_natCast] using this
theorem set10_below {B g:Nat} {a w:World} (h:Below B a w) (hg:B≤g) (a0 a1 a2 a3 a4 a5 a6 a7 a8 a9:Value):Below B a ((((((((((w.setCell ⟨g,0,none⟩ a0).setCell ⟨g,1,none⟩ a1).setCell ⟨g,2,none⟩ a2).setCell ⟨g,3,none⟩ a3).setCell ⟨g,4,none⟩ a4).setCell ⟨g,5,none⟩ a5).setCell ⟨g,6,none⟩ a6).setCell ⟨g,7,none⟩ a7).setCell ⟨g,8,none⟩ a8).setCell ⟨g,9,none⟩ a9) :=
 (((((((((h.setCell (p:=⟨g,0,none⟩) hg a0).setCell (p:=⟨g,1,none⟩) hg a1).setCell (p:=⟨g,2,none⟩) hg a2).setCell (p:=⟨g,3,none⟩) hg a3).setCell (p:=⟨g,4,none⟩) hg a4).setCell (p:=⟨g,5,none⟩) hg a5).setCell (p:=⟨g,6,none⟩) hg a6).setCell (p:=⟨g,7,none⟩) hg a7).setCell (p:=⟨g,8,none⟩) hg a8).setCell (p:=⟨g,9,none⟩) hg a9
def MsP (t:Nd):Prop:=∀ (v:Nv) (w0 w:World),NdIn w0 v t→Below w0.heap.size w0 w→chkN t=true→atN t=true→wtN t≤1000000000→wN t≤64 →
  Calls Try.prog 23 #[v.val] w fun e w'=>(∃ s:Sv,e=.returned s.val∧SdSt w0.heap.size w.heap.size s t w')∧Below w.heap.size w w'
set_option maxRecDepth 100000 in
set_option maxHeartbeats 1000000 in
theorem meas_pos (kind:Int) (attr:ByteArray) (qi:Option Addr) (ci:Nat) (ints:List Int) (qw:Option Addr) (cw:Nat) (words:List ByteArray) (lo hi:Int) (qk:Option Addr) (ck:Nat) (kids:List Nd) (w:World) :
  Calls Try.prog 23 #[.agg #[.int .i64 kind,.string attr,.slice qi ints.length ci,.slice qw words.length cw,.int .i64 lo,.int .i64 hi,.int .i64 1,.slice qk kids.length ck]] w fun e w'=>e=.returned (.agg #[.int .i64 kind,.string attr,.slice qi ints.length ci,.slice qw words.length cw,.int .i64 lo,.int .i64 hi,.bool false,.int .i64 1,.int .i64 1,.slice none 0 0])∧Below w.heap.size w w':=by
 go_enter Try.func23,Try.ntmps23
 go_wp2
 refine bodyPost_ret (v:=.agg #[.int .i64 kind,.string attr,.slice qi ints.length ci,.slice qw words.length cw,.int .i64 lo,.int .i64 hi,.bool false,.int .i64 1,.int .i64 1,.slice none 0 0]) (by simp [results,Try.results23,go_sem, *]) rfl ⟨rfl, ?_⟩
 exact ((Below.refl _ _).alloc (Nat.le_refl _) _).alloc (by simp) _
set_option maxRecDepth 100000 in
set_option maxHeartbeats 1000000 in
theorem meas_neg (kind:Int) (attr:ByteArray) (qi:Option Addr) (ci:Nat) (ints:List Int) (qw:Option Addr) (cw:Nat) (words:List ByteArray) (lo hi:Int) (b off:Nat) (ck:Nat) (v:Nv) (w:World) (hb:b < w.heap.size) (g0:w.cell? ⟨b,off,none⟩=some (.int .i64 v.kind)) (g1:w.cell? ⟨b,off + 1,none⟩=some (.string v.attr)) (g2:w.cell? ⟨b,off + 2,none⟩=some (.slice v.qi v.ni v.ci)) (g3:w.cell? ⟨b,off + 3,none⟩=some (.slice v.qw v.nw v.cw)) (g4:w.cell? ⟨b,off + 4,none⟩=some (.int .i64 v.lo)) (g5:w.cell? ⟨b,off + 5,none⟩=some (.int .i64 v.hi)) :
  Calls Try.prog 23 #[.agg #[.int .i64 kind,.string attr,.slice qi ints.length ci,.slice qw words.length cw,.int .i64 lo,.int .i64 hi,.int .i64 2,.slice (some ⟨b,off,none⟩) 1 ck]] w fun e w'=>e=.returned (.agg #[.int .i64 v.kind,.string v.attr,.slice v.qi v.ni v.ci,.slice v.qw v.nw v.cw,.int .i64 v.lo,.int .i64 v.hi,.bool true,.int .i64 1,.int .i64 1,.slice none 0 0])∧Below w.heap.size w w':=by
 obtain ⟨X,HX⟩:∃ X,(w.alloc (.cells #[.int .i64 kind,.string attr,.slice qi ints.length ci,.slice qw words.length cw,.int .i64 lo,.int .i64 hi,.int .i64 2,.slice (some ⟨b,off,none⟩) 1 ck] 28)).alloc (.cells #[.int .i64 0,.string ⟨#[]⟩,.slice none 0 0,.slice none 0 0,.int .i64 0,.int .i64 0,.bool false,.int .i64 0,.int .i64 0,.slice none 0 0] 62)=X:=⟨_,rfl⟩
 obtain ⟨x8,xz,bX,sX⟩:=twoM HX
 obtain ⟨c0,c1,c2,c3,c4,c5,c6,c7⟩:=of8' x8
 obtain ⟨z0,z1,z2,z3,z4,z5,z6,z7,z8,z9⟩:=of10' xz
 have e0:=(bX.cell (p:=⟨b,off,none⟩) hb).trans g0
 have e1:=(bX.cell (p:=⟨b,off + 1,none⟩) hb).trans g1
 have e2:=(bX.cell (p:=⟨b,off + 2,none⟩) hb).trans g2
 have e3:=(bX.cell (p:=⟨b,off + 3,none⟩) hb).trans g3
 have e4:=(bX.cell (p:=⟨b,off + 4,none⟩) hb).trans g4
 have e5:=(bX.cell (p:=⟨b,off + 5,none⟩) hb).trans g5
 have zf:∀ o,X.frozen? ⟨w.heap.size + 1,o,none⟩=false:=fun o=>frozen_free xz
 have BX:=hide bX
 clear g0 g1 g2 g3 g4 g5 x8 xz bX
 go_enter Try.func23,Try.ntmps23
 go_wp2
 refine bodyPost_ret (v:=.agg #[.int .i64 v.kind,.string v.attr,.slice v.qi v.ni v.ci,.slice v.qw v.nw v.cw,.int .i64 v.lo,.int .i64 v.hi,.bool true,.int .i64 1,.int .i64 1,.slice none 0 0]) (by simp [results,Try.results23,go_sem, *]) rfl ⟨rfl, ?_⟩

 with_reducible exact set10_below (uh BX) (by omega) _ _ _ _ _ _ _ _ _ _
end Go.Proofs.Ytikhopiegaoacac

/- dnf's spread: a pushed tree of which each part bears its width, as it lies in memory. -/
import Derived.Test.YtikhopiegaoacacDDnfHolds
import Derived.Test.YtikhopiegaoacacDJoin
namespace Go.Proofs.Ytikhopiegaoacac
open Go.RowKit Go.Sort

/-- A spread's own cells. -/
structure Sv where
  lit:Lv
  op:Int
  width:Int
  qk:Option Addr
  nk:Nat
  ck:Nat
instance:Inhabited Sv:=⟨⟨default,0,0,none,0,0⟩⟩
def encSd (s:Sv):List Value:=[.int .i64 s.lit.kind,.string s.lit.attr,.slice s.lit.qi s.lit.ni s.lit.ci,.slice s.lit.qw s.lit.nw s.lit.cw,.int .i64 s.lit.lo,.int .i64 s.lit.hi,.bool s.lit.neg,.int .i64 s.op,.int .i64 s.width,.slice s.qk s.nk s.ck]
def Sv.val (s:Sv):Value:=.agg #[.int .i64 s.lit.kind,.string s.lit.attr,.slice s.lit.qi s.lit.ni s.lit.ci,.slice s.lit.qw s.lit.nw s.lit.cw,.int .i64 s.lit.lo,.int .i64 s.lit.hi,.bool s.lit.neg,.int .i64 s.op,.int .i64 s.width,.slice s.qk s.nk s.ck]
/-- The spread s is the measured tree t. -/
inductive SdIn (w:World):Sv→Nd→Prop
  | pos {s:Sv} {kind:Int} {attr:ByteArray} {ints:List Int} {words:List ByteArray} {lo hi:Int} {kids:List Nd} :
      LitIn w s.lit ⟨kind,attr,ints,words,lo,hi,false⟩→s.op=1→s.width=1→SdIn w s (.mk kind attr ints words lo hi 1 kids)
  | neg {s:Sv} {k0:Int} {a0:ByteArray} {i0:List Int} {w0:List ByteArray} {l0 h0:Int} {kind:Int} {attr:ByteArray} {ints:List Int} {words:List ByteArray} {lo hi o1:Int} {ks1:List Nd} :
      LitIn w s.lit ⟨kind,attr,ints,words,lo,hi,true⟩→s.op=1→s.width=1→SdIn w s (.mk k0 a0 i0 w0 l0 h0 2 [.mk kind attr ints words lo hi o1 ks1])
  | join {s:Sv} {kind:Int} {attr:ByteArray} {ints:List Int} {words:List ByteArray} {lo hi op:Int} {kids:List Nd} {vs:List Sv} :
      (op=3 ∨ op=4)→s.op=op→s.width=wN (.mk kind attr ints words lo hi op kids)→SlOf encSd 10 w s.qk s.ck vs→s.nk=kids.length→vs.length=kids.length→(∀ (j:Nat) (v:Sv) (x:Nd),vs[j]? = some v→kids[j]? = some x→SdIn w v x)→SdIn w s (.mk kind attr ints words lo hi op kids)
theorem SdIn.keep {w w':World} {s:Sv} {t:Nd} (h:SdIn w s t) (hb:Below w.heap.size w w'):SdIn w' s t:=by
  induction h with
  | pos h1 h2 h3=>exact .pos (h1.keep hb) h2 h3
  | neg h1 h2 h3=>exact .neg (h1.keep hb) h2 h3
  | join h1 h2 h3 h4 h5 h6 _ ih=>exact .join h1 h2 h3 (h4.below hb) h5 h6 fun j v x hj hx=>ih j v x hj hx
/-- A list of spreads in memory. -/
def SdsOf (w:World) (q:Option Addr) (c:Nat) (l:List Nd):Prop:=∃ vs,SlOf encSd 10 w q c vs∧vs.length=l.length∧∀ (j:Nat) (v:Sv) (x:Nd),vs[j]? = some v→l[j]? = some x→SdIn w v x
theorem SdsOf.below {w w':World} {q:Option Addr} {c:Nat} {l:List Nd} (h:SdsOf w q c l) (hb:Below w.heap.size w w'):SdsOf w' q c l:=by
  obtain ⟨vs,h1,h2,h3⟩:=h
  exact ⟨vs,h1.below hb,h2,fun j v x hj hx=>(h3 j v x hj hx).keep hb⟩
theorem SdsOf.at {w:World} {q:Option Addr} {c:Nat} {l:List Nd} {j:Nat} {x:Nd} (h:SdsOf w q c l) (hj:l[j]? = some x) :
    ∃ b off s,q=some ⟨b,off,none⟩∧b < w.heap.size∧SdIn w s x∧w.cell? ⟨b,off + j * 10,none⟩=some (.int .i64 s.lit.kind)∧w.cell? ⟨b,off + j * 10 + 1,none⟩=some (.string s.lit.attr)∧w.cell? ⟨b,off + j * 10 + 2,none⟩=some (.slice s.lit.qi s.lit.ni s.lit.ci)∧w.cell? ⟨b,off + j * 10 + 3,none⟩=some (.slice s.lit.qw s.lit.nw s.lit.cw)∧w.cell? ⟨b,off + j * 10 + 4,none⟩=some (.int .i64 s.lit.lo)∧w.cell? ⟨b,off + j * 10 + 5,none⟩=some (.int .i64 s.lit.hi)∧w.cell? ⟨b,off + j * 10 + 6,none⟩=some (.bool s.lit.neg)∧w.cell? ⟨b,off + j * 10 + 7,none⟩=some (.int .i64 s.op)∧w.cell? ⟨b,off + j * 10 + 8,none⟩=some (.int .i64 s.width)∧w.cell? ⟨b,off + j * 10 + 9,none⟩=some (.slice s.qk s.nk s.ck):=by
  obtain ⟨vs,h1,h2,h3⟩:=h
  have hl:j < l.length:=(List.getElem?_eq_some_iff.1 hj).1
  obtain ⟨s,hs,_⟩:=get_at (l:=vs) (k:=j) (by omega)
  obtain ⟨b,off,hq,hb,hc⟩:=h1.2.2.2.at hs
  exact ⟨b,off,s,hq,hb,h3 j s x hs hj,hc 0 (by omega),hc 1 (by omega),hc 2 (by omega),hc 3 (by omega),hc 4 (by omega),hc 5 (by omega),hc 6 (by omega),hc 7 (by omega),hc 8 (by omega),hc 9 (by omega)⟩
theorem SdIn.kids {w:World} {s:Sv} {kind:Int} {attr:ByteArray} {ints:List Int} {words:List ByteArray} {lo hi op:Int} {kids:List Nd} (h:SdIn w s (.mk kind attr ints words lo hi op kids)) (ho:op=3 ∨ op=4) :
    s.op=op∧s.width=wN (.mk kind attr ints words lo hi op kids)∧s.nk=kids.length∧SdsOf w s.qk s.ck kids:=by
  cases h with
  | pos _ _ _=>omega
  | neg _ _ _=>omega
  | join _ h2 h3 h4 h5 h6 h7=>exact ⟨h2,h3,h5,_,h4,h6,h7⟩
/-- A spread's width is its tree's. -/
theorem SdIn.wide {w:World} {s:Sv} {t:Nd} (h:SdIn w s t) (hc:chkN t=true) (ha:atN t=true):s.width=wN t:=by
  cases h with
  | pos _ _ h3=>rw [h3];simp [wN]
  | neg _ _ h3=>rw [h3];simp [wN]
  | join _ _ h3 _ _ _ _=>exact h3
end Go.Proofs.Ytikhopiegaoacac

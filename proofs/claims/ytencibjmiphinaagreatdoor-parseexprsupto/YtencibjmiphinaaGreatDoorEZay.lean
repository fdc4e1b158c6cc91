/- The document's reader: its calls as functions of its state. -/
import Derived.Test.YtencibjmiphinaaGreatDoorEZax
import Derived.Test.YtencibjmiphinaaGreatDoorEPaLoc
import Derived.Test.YtencibjmiphinaaGreatDoorEZaj
namespace Go.Proofs.YtencibjmiphinaaGreatDoor
open Go.RowKit Go.Sort

def tkS (L:List Tk) (k:Int) (i:Nat) (bad:Bool):Tk × Nat × Bool:=if kdB bad (L.drop i)=k then ((L.drop i).headD zTk,i + 1,false) else (zTk,i,true)
def sgS (L:List Tk) (s:ByteArray) (i:Nat) (bad:Bool):Nat × Bool:=if isS s bad (L.drop i)=true then (i + 1,false) else (i,true)
theorem kdB_some {bad:Bool} {l:List Tk} {k:Int} (hk:k ≠ 0) (h:kdB bad l=k):bad=false∧∃ t r,l=t :: r∧t.1=k:=by
 cases bad with
 | true=>exact absurd h.symm hk
 | false =>
  cases l with
  | nil=>exact absurd h.symm hk
  | cons t r=>exact ⟨rfl,t,r,rfl,h⟩
theorem isS_some {bad:Bool} {l:List Tk} {s:ByteArray} (h:isS s bad l=true):bad=false∧∃ r,skL s l=some r:=by
 unfold isS at h
 simp only [Bool.and_eq_true,Bool.not_eq_true'] at h
 exact ⟨h.1,Option.isSome_iff_exists.1 h.2⟩
theorem isS_none {l:List Tk} {s:ByteArray} (h:isS s false l=false):skL s l=none:=by
 unfold isS at h
 simpa using h
theorem take_st {g i i':Nat} {L:List Tk} {bad b':Bool} {k:Int} {t:Tk} {w:World} (hk:k ≠ 0) (h:Rd w g L i bad) (hs:tkS L k i bad=(t,i',b')) :
  Calls Tryz.prog 123 #[.pointer (some ⟨g,0,none⟩),.int .i64 k] w fun e w'=>e=.returned (tkV t)∧Rx g L i' b' w w':=by
 unfold tkS at hs
 split at hs
 ·rename_i h1
  obtain ⟨rfl,t0,r,hd,ht⟩:=kdB_some hk h1
  rw [hd] at hs
  cases hs
  exact take_yes g L i k _ r w h hd ht
 ·rename_i h1
  cases hs
  exact take_no g L _ bad k w h h1
theorem sign_st {g i i':Nat} {L:List Tk} {bad b':Bool} {s:ByteArray} {w:World} (h:Rd w g L i bad) (hs:sgS L s i bad=(i',b')) :
  Calls Tryz.prog 100 #[.pointer (some ⟨g,0,none⟩),.string s] w fun e w'=>e=.returned (.tuple #[])∧Rx g L i' b' w w':=by
 unfold sgS at hs
 split at hs
 ·rename_i h1
  obtain ⟨rfl,r,hr⟩:=isS_some h1
  cases hs
  exact sgn_yes g L i s r w h hr
 ·rename_i h1
  cases hs
  exact sgn_no g L _ bad s w h (by simpa using h1)
/-- What a rule reads, and the reader's state behind it: a rule that gives up leaves it at that place. -/
def Mt {α:Type} (en:Int) (L:List Tk) (y:Rs α) (x:α) (i:Nat) (b:Bool):Prop:=match y with
 | .ok t r=>b=false∧x=t∧L.drop i=r
 | .bad p=>b=true∧plc en (L.drop i)=p
section
variable {α β : Type} {en : Int} {L : List Tk} {i i' : Nat} {b b' : Bool}
theorem Mt.bnd {y:Rs α} {x:α} {z:β} {g:α→List Tk→Rs β} (h:Mt en L y x i b) (h1:b=false→Mt en L (g x (L.drop i)) z i' b') (h2:b=true→i'=i∧b'=true):Mt en L (y.bnd g) z i' b':=by
 cases y with
 | bad p =>
  obtain ⟨rfl,hp⟩:=h
  obtain ⟨rfl,rfl⟩:=h2 rfl
  exact ⟨rfl,hp⟩
 | ok t r =>
  obtain ⟨rfl,rfl,rfl⟩:=h
  exact h1 rfl
theorem Mt.ret (x:α):Mt en L (.ok x (L.drop i)) x i false:=⟨rfl,rfl,rfl⟩
theorem tk_mt {k:Int} {t:Tk} (hk:k ≠ 0) (h:tkS L k i false=(t,i',b')):Mt en L (ndL en k (L.drop i)) t i' b':=by
 unfold tkS at h
 have hd1:L.drop (i + 1)=(L.drop i).tail:=by rw [List.tail_drop]
 cases hd:L.drop i with
 | nil =>
  rw [hd] at h
  split at h
  ·rename_i h1
   exact absurd h1.symm hk
  ·cases h
   exact ⟨rfl,by rw [hd];rfl⟩
 | cons u r =>
  rw [hd] at h
  split at h
  ·rename_i h1
   have h1:u.1=k:=h1
   cases h
   simp only [ndL,if_pos h1]
   exact ⟨rfl,rfl,by rw [hd1,hd];rfl⟩
  ·rename_i h1
   have h1:¬ u.1=k:=h1
   cases h
   simp only [ndL,if_neg h1]
   exact ⟨rfl,by rw [hd];rfl⟩
theorem sg_mt {s:ByteArray} (h:sgS L s i false=(i',b')):Mt en L (sgL en s (L.drop i)) () i' b':=by
 unfold sgS at h
 split at h
 ·rename_i h1
  obtain ⟨_,r,hr⟩:=isS_some h1
  cases h
  unfold sgL
  rw [hr]
  obtain ⟨t,h2,_⟩:=skL_is hr
  exact ⟨rfl,rfl,by rw [← List.tail_drop,h2];rfl⟩
 ·rename_i h1
  cases h
  have h1:=isS_none (l:=L.drop i) (by simpa using h1)
  unfold sgL
  rw [h1]
  exact ⟨rfl,rfl⟩
theorem tk_stay {k:Int} {t:Tk} (hk:k ≠ 0) (hb:b=true) (h:tkS L k i b=(t,i',b')):i'=i∧b'=true:=by
 subst hb
 unfold tkS at h
 rw [if_neg (fun e=>hk e.symm)] at h
 cases h;exact ⟨rfl,rfl⟩
theorem sg_stay {s:ByteArray} (hb:b=true) (h:sgS L s i b=(i',b')):i'=i∧b'=true:=by
 subst hb
 unfold sgS at h
 rw [if_neg (by simp [isS])] at h
 cases h;exact ⟨rfl,rfl⟩
end
end Go.Proofs.YtencibjmiphinaaGreatDoor
namespace Go.Proofs.YtencibjmiphinaaGreatDoor
open Go.RowKit Go.Sort

theorem of6r {w:World} {M:Nat} {a0 a1 a2 a3 a4 a5:Value} {T:TypeId} (h:w.heap[M]? = some (.cells #[a0,a1,a2,a3,a4,a5] T (0,0))):w.cell? ⟨M,0,none⟩=some a0∧w.cell? ⟨M,1,none⟩=some a1∧w.cell? ⟨M,2,none⟩=some a2∧w.cell? ⟨M,3,none⟩=some a3∧w.cell? ⟨M,4,none⟩=some a4∧w.cell? ⟨M,5,none⟩=some a5∧(∀ o,w.frozen? ⟨M,o,none⟩=false)∧M < w.heap.size:=by
 refine ⟨by unfold World.cell?;simp [h],by unfold World.cell?;simp [h],by unfold World.cell?;simp [h],by unfold World.cell?;simp [h],by unfold World.cell?;simp [h],by unfold World.cell?;simp [h],fun o=>by unfold World.frozen?;simp [h],(Array.getElem?_eq_some_iff.1 h).1⟩
/-- A rule under way: the reader, the result's box (at w's end) and the predicate's box b. -/
structure PS (w:World) (g:Nat) (L:List Tk) (i:Nat) (bad:Bool) (b:Nat) (p0 p1 p2 p3 p4 p5:Value) (W:World):Prop where
 rx:Rx g L i bad w W
 res:W.heap[w.heap.size]? = some (.cells #[.int .i64 0,.string ⟨#[]⟩,.slice none 0 0,.slice none 0 0,.int .i64 0,.int .i64 0] 26 (0,0))
 box:W.heap[b]? = some (.cells #[p0,p1,p2,p3,p4,p5] 26 (0,0))
 lt:g < w.heap.size
 lb:w.heap.size < b
section
variable {w W W' : World} {g i i' b : Nat} {L : List Tk} {bad bad' : Bool} {p0 p1 p2 p3 p4 p5 : Value}
theorem PS.call (h:PS w g L i bad b p0 p1 p2 p3 p4 p5 W) (k:Rx g L i' bad' W W'):PS w g L i' bad' b p0 p1 p2 p3 p4 p5 W' :=
 ⟨h.rx.trans k,blk_far2 h.res k.2 (by have:=h.lt;omega),blk_far2 h.box k.2 (by have:=h.lt;have:=h.lb;omega),h.lt,h.lb⟩
theorem PS.bel (h:PS w g L i bad b p0 p1 p2 p3 p4 p5 W) (k:RowKit.Below W.heap.size W W'):PS w g L i bad b p0 p1 p2 p3 p4 p5 W' :=
 ⟨h.rx.bel k,(k.block _ (Array.getElem?_eq_some_iff.1 h.res).1).trans h.res,(k.block _ (Array.getElem?_eq_some_iff.1 h.box).1).trans h.box,h.lt,h.lb⟩
theorem PS.al (h:PS w g L i bad b p0 p1 p2 p3 p4 p5 W) (o:Obj):PS w g L i bad b p0 p1 p2 p3 p4 p5 (W.alloc o):=h.bel ((RowKit.Below.refl _ _).alloc (Nat.le_refl _) o)
theorem PS.hp (h:PS w g L i bad b p0 p1 p2 p3 p4 p5 W) (e:W'.heap=W.heap) (k:RowKit.Below W.heap.size W W'):PS w g L i bad b p0 p1 p2 p3 p4 p5 W':=(fun _=>h.bel k) e
theorem PS.put (h:PS w g L i bad b p0 p1 p2 p3 p4 p5 W) (j:Nat) (v:Value) {q0 q1 q2 q3 q4 q5:Value} (e:(#[p0,p1,p2,p3,p4,p5]:Array Value).setIfInBounds j v=#[q0,q1,q2,q3,q4,q5]):PS w g L i bad b q0 q1 q2 q3 q4 q5 (W.setCell ⟨b,j,none⟩ v):=by
 have hb:=h.lb
 have hs:=(Array.getElem?_eq_some_iff.1 h.res).1
 have k:RowKit.Below (w.heap.size + 1) W (W.setCell ⟨b,j,none⟩ v):=(RowKit.Below.refl _ _).setCell (by show w.heap.size + 1≤b;omega) v
 refine ⟨⟨h.rx.1.low fun n hn=>k.block n (by have:=h.lt;omega), ?_⟩,(k.block _ (by omega)).trans h.res, ?_,h.lt,h.lb⟩
 ·exact ⟨k.os.trans h.rx.2.os,k.tape.trans h.rx.2.tape,k.output.trans h.rx.2.output,Nat.le_trans h.rx.2.size (by simp),fun n hn hr=>(k.block n (by omega)).trans (h.rx.2.block n hn hr)⟩
 ·rw [heap_set,h.box]
  show some (Obj.cells ((#[p0,p1,p2,p3,p4,p5]:Array Value).setIfInBounds j v) 26 (0,0))=_
  rw [e]
theorem PS.st0 (h:PS w g L i bad b p0 p1 p2 p3 p4 p5 W) (v:Value):PS w g L i bad b v p1 p2 p3 p4 p5 (W.setCell ⟨b,0,none⟩ v):=h.put 0 v rfl
theorem PS.st2 (h:PS w g L i bad b p0 p1 p2 p3 p4 p5 W) (v:Value):PS w g L i bad b p0 p1 v p3 p4 p5 (W.setCell ⟨b,2,none⟩ v):=h.put 2 v rfl
theorem PS.st3 (h:PS w g L i bad b p0 p1 p2 p3 p4 p5 W) (v:Value):PS w g L i bad b p0 p1 p2 v p4 p5 (W.setCell ⟨b,3,none⟩ v):=h.put 3 v rfl
theorem PS.st4 (h:PS w g L i bad b p0 p1 p2 p3 p4 p5 W) (v:Value):PS w g L i bad b p0 p1 p2 p3 v p5 (W.setCell ⟨b,4,none⟩ v):=h.put 4 v rfl
theorem PS.st5 (h:PS w g L i bad b p0 p1 p2 p3 p4 p5 W) (v:Value):PS w g L i bad b p0 p1 p2 p3 p4 v (W.setCell ⟨b,5,none⟩ v):=h.put 5 v rfl
theorem Rd.inc {w:World} {g i:Nat} {L:List Tk} {bad:Bool} (h:Rd w g L i bad) (hi:i + 1≤L.length):Rx g L (i + 1) bad w (w.setCell ⟨g,1,none⟩ (.int .i64 ((i:Int) + 1))):=by
 have:=h.put1 hi
 have e:((i + 1:Nat):Int)=(i:Int) + 1:=by omega
 rw [e] at this;exact this
theorem PS.inc (h:PS w g L i bad b p0 p1 p2 p3 p4 p5 W) (hi:i + 1≤L.length):PS w g L (i + 1) bad b p0 p1 p2 p3 p4 p5 (W.setCell ⟨g,1,none⟩ (.int .i64 ((i:Int) + 1))):=h.call (h.rx.1.inc hi)
theorem PS.stB (h:PS w g L i bad b p0 p1 p2 p3 p4 p5 W) (v:Bool):PS w g L i v b p0 p1 p2 p3 p4 p5 (W.setCell ⟨g,2,none⟩ (.bool v)):=h.call (h.rx.1.put2 v)
theorem PS.cells (h:PS w g L i bad b p0 p1 p2 p3 p4 p5 W):(W.cell? ⟨b,0,none⟩=some p0∧W.cell? ⟨b,1,none⟩=some p1∧W.cell? ⟨b,2,none⟩=some p2∧W.cell? ⟨b,3,none⟩=some p3∧W.cell? ⟨b,4,none⟩=some p4∧W.cell? ⟨b,5,none⟩=some p5∧(∀ o,W.frozen? ⟨b,o,none⟩=false)∧b < W.heap.size) ∧
  (W.cell? ⟨w.heap.size,0,none⟩=some (.int .i64 0)∧W.cell? ⟨w.heap.size,1,none⟩=some (.string ⟨#[]⟩)∧W.cell? ⟨w.heap.size,2,none⟩=some (.slice none 0 0)∧W.cell? ⟨w.heap.size,3,none⟩=some (.slice none 0 0)∧W.cell? ⟨w.heap.size,4,none⟩=some (.int .i64 0)∧W.cell? ⟨w.heap.size,5,none⟩=some (.int .i64 0)∧(∀ o,W.frozen? ⟨w.heap.size,o,none⟩=false)∧w.heap.size < W.heap.size) ∧
  W.cell? ⟨g,1,none⟩=some (.int .i64 i)∧W.cell? ⟨g,2,none⟩=some (.bool bad)∧(∀ o,W.frozen? ⟨g,o,none⟩=false):=by
 obtain ⟨q,c,h0,_⟩:=h.rx.1
 obtain ⟨_,c1,c2,hf,_⟩:=of3 h0
 exact ⟨of6r h.box,of6r h.res,c1,c2,hf⟩
theorem set6_up (W:World) (B:Nat) (M:Nat) (hM:M < B) (a0 a1 a2 a3 a4 a5:Value):RowKit.Below M W ((((((W.setCell ⟨M,0,none⟩ a0).setCell ⟨M,1,none⟩ a1).setCell ⟨M,2,none⟩ a2).setCell ⟨M,3,none⟩ a3).setCell ⟨M,4,none⟩ a4).setCell ⟨M,5,none⟩ a5)∧SameUp B W ((((((W.setCell ⟨M,0,none⟩ a0).setCell ⟨M,1,none⟩ a1).setCell ⟨M,2,none⟩ a2).setCell ⟨M,3,none⟩ a3).setCell ⟨M,4,none⟩ a4).setCell ⟨M,5,none⟩ a5):=by
 refine ⟨((((((RowKit.Below.refl _ _).setCell (Nat.le_refl M) _).setCell (Nat.le_refl M) _).setCell (Nat.le_refl M) _).setCell (Nat.le_refl M) _).setCell (Nat.le_refl M) _).setCell (Nat.le_refl M) _,by simp,fun b o hb hl=>?_⟩
 have e:b ≠ M:=by omega
 rw [set_other _ e,set_other _ e,set_other _ e,set_other _ e,set_other _ e,set_other _ e]
theorem PS.start (hg:g < w.heap.size) (h:Rx g L i bad (w.alloc (.cells #[.int .i64 0,.string ⟨#[]⟩,.slice none 0 0,.slice none 0 0,.int .i64 0,.int .i64 0] 26)) W) (x:ByteArray):PS w g L i bad W.heap.size (.int .i64 0) (.string x) (.slice none 0 0) (.slice none 0 0) (.int .i64 0) (.int .i64 0) (W.alloc (.cells #[.int .i64 0,.string x,.slice none 0 0,.slice none 0 0,.int .i64 0,.int .i64 0] 26)):=by
 have hs:=h.2.size
 simp at hs
 have k:RowKit.Below w.heap.size w (w.alloc (.cells #[.int .i64 0,.string ⟨#[]⟩,.slice none 0 0,.slice none 0 0,.int .i64 0,.int .i64 0] 26)):=(RowKit.Below.refl _ _).alloc (Nat.le_refl _) _
 have k2:RowKit.Below W.heap.size W (W.alloc (.cells #[.int .i64 0,.string x,.slice none 0 0,.slice none 0 0,.int .i64 0,.int .i64 0] 26)):=(RowKit.Below.refl _ _).alloc (Nat.le_refl _) _
 exact ⟨⟨h.1.below k2,((grown_bel k _).trans h.2).trans (grown_bel k2 _)⟩,(k2.block _ (by omega)).trans (blk_far2 (box_nw w _) h.2 (by omega)),box_nw _ _,hg,hs⟩
end
/-- What the predicate's rule leaves: a predicate, and the reader's state. -/
def PvR (g:Nat) (L:List Tk) (w:World) (x:Nd) (i':Nat) (b':Bool) (e:Ending) (w':World):Prop :=
 ∃ v:Nv,e=.returned (.agg #[.int .i64 v.kind,.string v.attr,.slice v.qi v.ni v.ci,.slice v.qw v.nw v.cw,.int .i64 v.lo,.int .i64 v.hi])∧v.op=1∧v.qk=none∧v.nk=0∧v.ck=0∧NdFrom w' w.heap.size v x∧Rx g L i' b' w w'
theorem own_from {α:Type} [Inhabited α] {enc:α→List Value} {e:TypeId} {k B:Nat} {w:World} {q:Option Addr} {cap:Nat} {l:List α} (h:OwnK enc e k B w q cap l):∀ a,q=some a→B≤a.block:=fun a ha=>by
 subst ha
 exact (World.ownsRow.lt h a.block rfl).1
theorem own_pastj {α:Type} [Inhabited α] {enc:α→List Value} {e:TypeId} {k bx:Nat} {w:World} {q:Option Addr} {c:Nat} {l:List α} (h:OwnK enc e k (bx + 1) w q c l) (j:Nat) (v:Value):OwnK enc e k (bx + 1) (w.setCell ⟨bx,j,none⟩ v) q c l:=by
 refine World.ownsRow.kept h (row:=some bx) ⟨by simp [World.setCell],by simp [World.setCell],by simp [World.setCell],by simp [World.setCell],fun k hk hr=>Below.heap_setCell w ⟨bx,j,none⟩ _ k (fun e=>hr (by rw [e]))⟩ ?_
 cases e:(Value.slice q l.length c).ownBlock with
 | none=>exact Or.inl rfl
 | some b=>right;intro e2;have:=(World.ownsRow.lt h _ e).1;cases e2;omega
theorem own_oneS (W:World) (x:ByteArray) (B M:Nat) (hM:W.heap.size=M) (hB:B≤M):OwnK encS 9 1 B (W.alloc (.cells #[.string x] 9)) (some ⟨M,0,none⟩) 1 [x]:=by
 subst hM
 have hb:=box_nw W (.cells #[.string x] 9)
 unfold OwnK;exact ⟨by simp,Or.inr ⟨W.heap.size,1,_,rfl,hB,hb,Nat.le_refl _,by unfold maxLen;omega,rfl,by simp only [Go.Sort.flatK,Array.toList_map,Array.toList_range];simp [List.range,List.range.loop,encS]⟩⟩
/-- The end: the predicate is copied into the result. -/
theorem PS.fin {w W:World} {g i b:Nat} {L:List Tk} {bad:Bool} {k:Int} {a:ByteArray} {ints:List Int} {words:List ByteArray} {lo hi:Int} {qi qw:Option Addr} {ci cw ni nw:Nat} (h:PS w g L i bad b (.int .i64 k) (.string a) (.slice qi ni ci) (.slice qw nw cw) (.int .i64 lo) (.int .i64 hi) W)
  (hi1:SlOf encI 1 W qi ci ints) (hn1:ints.length=ni) (f1:∀ x,qi=some x→b + 1≤x.block) (hw1:SlOf encS 1 W qw cw words) (hn2:words.length=nw) (f2:∀ x,qw=some x→b + 1≤x.block) :
  PvR g L w (.mk k a ints words lo hi 1 []) i bad (.returned (.agg #[.int .i64 k,.string a,.slice qi ni ci,.slice qw nw cw,.int .i64 lo,.int .i64 hi])) ((((((W.setCell ⟨w.heap.size,0,none⟩ (.int .i64 k)).setCell ⟨w.heap.size,1,none⟩ (.string a)).setCell ⟨w.heap.size,2,none⟩ (.slice qi ni ci)).setCell ⟨w.heap.size,3,none⟩ (.slice qw nw cw)).setCell ⟨w.heap.size,4,none⟩ (.int .i64 lo)).setCell ⟨w.heap.size,5,none⟩ (.int .i64 hi)):=by
 subst hn1 hn2
 have hb:=h.lb
 have hu:=set6_up W (b + 1) w.heap.size (by omega) (.int .i64 k) (.string a) (.slice qi ints.length ci) (.slice qw words.length cw) (.int .i64 lo) (.int .i64 hi)
 refine ⟨⟨k,a,qi,ints.length,ci,qw,words.length,cw,lo,hi,1,none,0,0⟩,rfl,rfl,rfl,rfl,rfl, ?_, ?_⟩
 ·exact (NdFrom.make (kids:=[]) (vs:=[]) (hi1.up f1 hu.2) f1 (hw1.up f2 hu.2) f2 (SlOf.none _) no_from rfl (fun j v x h=>by simp at h)).mono (by omega)
 ·exact ⟨h.rx.1.low fun n hn=>hu.1.block n (by have:=h.lt;omega),⟨hu.1.os.trans h.rx.2.os,hu.1.tape.trans h.rx.2.tape,hu.1.output.trans h.rx.2.output,Nat.le_trans h.rx.2.size hu.1.size,fun n hn hr=>(hu.1.block n hn).trans (h.rx.2.block n hn hr)⟩⟩
theorem bel_zp (w:World):RowKit.Below w.heap.size w (w.alloc (.cells #[.int .i64 0,.string ⟨#[]⟩,.slice none 0 0,.slice none 0 0,.int .i64 0,.int .i64 0] 26)):=(RowKit.Below.refl _ _).alloc (Nat.le_refl _) _
set_option maxHeartbeats 4000000 in
/-- A name, and a word behind it. -/
theorem pred_word (g:Nat) (L:List Tk) (i i1 i2 i3:Nat) (b1 b2 b3:Bool) (t x:Tk) (w:World) (h:Rd w g L i false) (h1:tkS L 1 i false=(t,i1,b1)) (hk:kdB b1 (L.drop i1)=3) (h2:tkS L 3 i1 b1=(x,i2,b2)) (h3:sgS L ⟨#[42]⟩ i2 b2=(i3,b3)) :
  Calls Tryz.prog 101 #[.pointer (some ⟨g,0,none⟩)] w fun e w'=>PvR g L w (.mk 4 t.2.2.2.2 [] [x.2.2.2.2] 0 0 1 []) i3 b3 e w':=by
 have hg:=h.lt
 have hf4:=fld4
 have H0:=hide (h.below (bel_zp w))
 have H1:=hide h1
 have H2:=hide h2
 have H3:=hide h3
 have HK:=hide hk
 clear h h1 h2 h3 hk
 go_enter Tryz.func101,Tryz.ntmps101
 go_wp2_with first
  | (go_at_call 123;have tst:=uh P2;clear tst;refine (take_st (by decide) ((uh P2).st0 (.int .i64 4)).rx.1 (uh H2)).mono ?_;rintro e w3 ⟨rfl,hx⟩;have P3:=hide (((uh P2).st0 (.int .i64 4)).call hx);obtain ⟨⟨k0,k1,k2,k3,k4,k5,kf,kl⟩,_,_,_,_⟩:=(uh P3).cells;clear hx;unfold tkV)
  | (go_at_call 123;refine (take_st (by decide) (uh H0) (uh H1)).mono ?_;rintro e w1 ⟨rfl,hx⟩;have P1:=hide (PS.start hg hx t.2.2.2.2);clear hx;unfold tkV)
  | (go_at_call 124;refine (kind_r g L i1 b1 _ (uh P1).rx.1).mono ?_;rintro e w2 ⟨rfl,hb⟩;have P2:=hide ((uh P1).bel hb);obtain ⟨⟨k0,k1,k2,k3,k4,k5,kf,kl⟩,_,_,_,_⟩:=(uh P2).cells;clear hb;rw [uh HK])
  | (go_at_call 100;refine (sign_st (((uh P3).st3 _).al _).rx.1 (uh H3)).mono ?_;rintro e w4 ⟨rfl,hx⟩;have P4:=hide ((((uh P3).st3 _).al _).call hx);have hs4:=own_far (own_oneS _ x.2.2.2.2 (w1.heap.size + 1) w3.heap.size (by simp) kl) hx.2 (by have:=(uh P3).lt;have:=(uh P3).lb;omega);have O4:=hide hs4;obtain ⟨⟨m0,m1,m2,m3,m4,m5,mf,ml⟩,⟨r0,r1,r2,r3,r4,r5,rf,rl⟩,_,_,_⟩:=(uh P4).cells;clear hx hs4)
 refine bodyPost_ret (v:=.agg #[.int .i64 4,.string t.2.2.2.2,.slice none 0 0,.slice (some ⟨w3.heap.size,0,none⟩) 1 1,.int .i64 0,.int .i64 0]) (by simp [results,Tryz.results101,go_sem, *]) rfl ?_
 exact (uh P4).fin (ints:=[]) (words:=[x.2.2.2.2]) (SlOf.none _) rfl no_from (uh O4).ls rfl (own_from (uh O4))
end Go.Proofs.YtencibjmiphinaaGreatDoor

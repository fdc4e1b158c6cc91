/- What eval.Holds returns, for every predicate and every event. -/
import Derived.Test.YtikhopiegaoacacDEvGet
import Derived.Test.YtikhopiegaoacacDPred
import Derived.Test.YtikhopiegaoacacDKept
import Derived.Lib.QuietBelow
import Derived.Shelf.Abstract
namespace Go.Proofs.Ytikhopiegaoacac
open Go.RowKit Go.Sort

theorem heap_lt {w:World} {b:Nat} {o:Obj} (h:w.heap[b]? = some o):b < w.heap.size:=(Array.getElem?_eq_some_iff.1 h).1
theorem name_world {P:Program} {f:Nat} {args:Array Value} {w:World} {Q:Ending→World→Prop} (h:∀ Y,Y=w→Calls P f args Y Q):Calls P f args w Q:=h w rfl
theorem of3' {w:World} {N:Nat} {a0 a1 a2:Value} {T:TypeId} (h:w.heap[N]? = some (.cells #[a0,a1,a2] T (0,0))):w.cell? ⟨N,0,none⟩=some a0∧w.cell? ⟨N,1,none⟩=some a1∧w.cell? ⟨N,2,none⟩=some a2:=by
 refine ⟨?_, ?_, ?_⟩ <;> rw [Lib.cell_of_heap h] <;> rfl
/-- Does a predicate in form hold of a value? -/
def toldB (kind:Int) (ints:List Int) (words:List ByteArray) (lo hi:Int) (y:Pr):Bool :=
 if kind=1 then (y.kind == 1) && hasI y.int ints else if kind=2 then (y.kind == 2) && hasS y.word words else if kind=3 then (y.kind == 1) && (decide (lo≤y.int) && decide (y.int≤hi)) else (y.kind == 2) && prefB y.word (words.headD ⟨#[]⟩)
def holdsB (kind:Int) (attr:ByteArray) (ints:List Int) (words:List ByteArray) (lo hi:Int) (ev:List Pr):Bool :=
 predB kind attr ints words lo hi && (match getP attr ev with
  | none=>false
  | some y=>decide (chkV y.kind y.int y.word=0) && toldB kind ints words lo hi y)
theorem holdsB_no {kind:Int} {attr:ByteArray} {ints:List Int} {words:List ByteArray} {lo hi:Int} {ev:List Pr} (h:predB kind attr ints words lo hi=false):holdsB kind attr ints words lo hi ev=false:=by simp [holdsB,h]
theorem holdsB_none {kind:Int} {attr:ByteArray} {ints:List Int} {words:List ByteArray} {lo hi:Int} {ev:List Pr} (h:getP attr ev=none):holdsB kind attr ints words lo hi ev=false:=by simp [holdsB,h]
theorem holdsB_bad {kind:Int} {attr:ByteArray} {ints:List Int} {words:List ByteArray} {lo hi:Int} {ev:List Pr} {y:Pr} (h:getP attr ev=some y) (hc:chkV y.kind y.int y.word ≠ 0):holdsB kind attr ints words lo hi ev=false:=by simp [holdsB,h,hc]
theorem holdsB_told {kind:Int} {attr:ByteArray} {ints:List Int} {words:List ByteArray} {lo hi:Int} {ev:List Pr} {y:Pr} (hp:predB kind attr ints words lo hi=true) (h:getP attr ev=some y) (hc:chkV y.kind y.int y.word=0):holdsB kind attr ints words lo hi ev=toldB kind ints words lo hi y:=by simp [holdsB,hp,h,hc]
theorem chk_or (k n:Int) (s:ByteArray):chkV k n s=0 ∨ chkV k n s=1:=by unfold chkV;split <;> simp
set_option maxRecDepth 100000 in
set_option maxHeartbeats 4000000 in
theorem holds_no (kind:Int) (attr:ByteArray) (qi:Option Addr) (ci:Nat) (ints:List Int) (qw:Option Addr) (cw:Nat) (words:List ByteArray) (lo hi:Int) (qe:Option Addr) (ce:Nat) (ev:List Pr) (w:World) (h1:SlOf encI 1 w qi ci ints) (h2:SlOf encS 1 w qw cw words) (h3:SlOf encP 4 w qe ce ev) (l1:ints.length≤100000000000000) (l2:words.length≤100000000000000) (_:ev.length≤100000000000000) (hpB:predB kind attr ints words lo hi=false) :
  Calls Try.prog 35 #[.agg #[.int .i64 kind,.string attr,.slice qi ints.length ci,.slice qw words.length cw,.int .i64 lo,.int .i64 hi],.slice qe ev.length ce] w fun e w'=>e=.returned (.bool false)∧Below w.heap.size w w':=by
 obtain ⟨X,HX⟩:∃ X,w.alloc (.cells #[.int .i64 kind,.string attr,.slice qi ints.length ci,.slice qw words.length cw,.int .i64 lo,.int .i64 hi] 25)=X:=⟨_,rfl⟩
 have hX0:X.heap[w.heap.size]? = some (.cells #[.int .i64 kind,.string attr,.slice qi ints.length ci,.slice qw words.length cw,.int .i64 lo,.int .i64 hi] 25 (0,0)):=by rw [← HX];exact box_nw _ _
 have hwX:Below w.heap.size w X:=by rw [← HX];exact (Below.refl _ _).alloc (Nat.le_refl _) _
 have hp:=pred_any kind attr qi ci ints qw cw words lo hi X (h1.below hwX) (h2.below hwX) (by omega) (by omega)
 rw [hpB] at hp
 simp only [code,Bool.false_eq_true,if_false] at hp
 have H1:=hide h1
 have H2:=hide h2
 have H3:=hide h3
 obtain ⟨x0,x1,x2,x3,x4,x5⟩:=of6' hX0
 have HX0:=hide hX0
 have HXL:=hide (heap_lt hX0)
 have HWX:=hide hwX
 clear h1 h2 h3 hX0 hwX
 go_enter Try.func35,Try.ntmps35
 go_wp2_with (first
  | (go_at_call 52;refine hp.mono ?_;rintro e w1 ⟨rfl,b1⟩;have hh:=(b1.block _ (uh HXL)).trans (uh HX0);obtain ⟨c0,c1,c2,c3,c4,c5⟩:=of6' hh;have HH1:=hide hh;have B1:=hide (below_sub (uh HWX) b1);clear b1 hh))
 go_ret
 exact ⟨rfl,uh B1⟩
set_option maxRecDepth 100000 in
set_option maxHeartbeats 4000000 in
theorem holds_none (kind:Int) (attr:ByteArray) (qi:Option Addr) (ci:Nat) (ints:List Int) (qw:Option Addr) (cw:Nat) (words:List ByteArray) (lo hi:Int) (qe:Option Addr) (ce:Nat) (ev:List Pr) (w:World) (h1:SlOf encI 1 w qi ci ints) (h2:SlOf encS 1 w qw cw words) (h3:SlOf encP 4 w qe ce ev) (l1:ints.length≤100000000000000) (l2:words.length≤100000000000000) (l3:ev.length≤100000000000000) (hpB:predB kind attr ints words lo hi=true) (hgt:getP attr ev=none) :
  Calls Try.prog 35 #[.agg #[.int .i64 kind,.string attr,.slice qi ints.length ci,.slice qw words.length cw,.int .i64 lo,.int .i64 hi],.slice qe ev.length ce] w fun e w'=>e=.returned (.bool false)∧Below w.heap.size w w':=by
 obtain ⟨X,HX⟩:∃ X,w.alloc (.cells #[.int .i64 kind,.string attr,.slice qi ints.length ci,.slice qw words.length cw,.int .i64 lo,.int .i64 hi] 25)=X:=⟨_,rfl⟩
 have hX0:X.heap[w.heap.size]? = some (.cells #[.int .i64 kind,.string attr,.slice qi ints.length ci,.slice qw words.length cw,.int .i64 lo,.int .i64 hi] 25 (0,0)):=by rw [← HX];exact box_nw _ _
 have hwX:Below w.heap.size w X:=by rw [← HX];exact (Below.refl _ _).alloc (Nat.le_refl _) _
 have hp:=pred_any kind attr qi ci ints qw cw words lo hi X (h1.below hwX) (h2.below hwX) (by omega) (by omega)
 rw [hpB] at hp
 simp only [code,if_true] at hp
 have H1:=hide h1
 have H2:=hide h2
 have H3:=hide h3
 obtain ⟨x0,x1,x2,x3,x4,x5⟩:=of6' hX0
 have HX0:=hide hX0
 have HXL:=hide (heap_lt hX0)
 have HWX:=hide hwX
 clear h1 h2 h3 hX0 hwX
 go_enter Try.func35,Try.ntmps35
 go_wp2_with (first
  | (go_at_call 52;refine hp.mono ?_;rintro e w1 ⟨rfl,b1⟩;have hh:=(b1.block _ (uh HXL)).trans (uh HX0);obtain ⟨c0,c1,c2,c3,c4,c5⟩:=of6' hh;have HH1:=hide hh;have B1:=hide (below_sub (uh HWX) b1);clear b1 hh)
  | (go_at_call 54;refine (get_any qe ce ev attr _ (by omega) ((uh H3).below (uh B1))).mono ?_;rw [hgt];rintro e w2 ⟨rfl,b2⟩;simp only [getV];have hh:=(b2.block _ (heap_lt (uh HH1))).trans (uh HH1);obtain ⟨d0,d1,d2,d3,d4,d5⟩:=of6' hh;have HH2:=hide hh;have B2:=hide (below_sub (uh B1) b2);clear b2 hh c0 c1 c2 c3 c4 c5))
 go_ret
 exact ⟨rfl,(uh B2).alloc (uh B2).size _⟩
set_option maxRecDepth 100000 in
set_option maxHeartbeats 4000000 in
theorem holds_bad (kind:Int) (attr:ByteArray) (qi:Option Addr) (ci:Nat) (ints:List Int) (qw:Option Addr) (cw:Nat) (words:List ByteArray) (lo hi:Int) (qe:Option Addr) (ce:Nat) (ev:List Pr) (w:World) (h1:SlOf encI 1 w qi ci ints) (h2:SlOf encS 1 w qw cw words) (h3:SlOf encP 4 w qe ce ev) (l1:ints.length≤100000000000000) (l2:words.length≤100000000000000) (l3:ev.length≤100000000000000) (y:Pr) (hpB:predB kind attr ints words lo hi=true) (hgt:getP attr ev=some y) (hck:chkV y.kind y.int y.word=1) :
  Calls Try.prog 35 #[.agg #[.int .i64 kind,.string attr,.slice qi ints.length ci,.slice qw words.length cw,.int .i64 lo,.int .i64 hi],.slice qe ev.length ce] w fun e w'=>e=.returned (.bool false)∧Below w.heap.size w w':=by
 obtain ⟨X,HX⟩:∃ X,w.alloc (.cells #[.int .i64 kind,.string attr,.slice qi ints.length ci,.slice qw words.length cw,.int .i64 lo,.int .i64 hi] 25)=X:=⟨_,rfl⟩
 have hX0:X.heap[w.heap.size]? = some (.cells #[.int .i64 kind,.string attr,.slice qi ints.length ci,.slice qw words.length cw,.int .i64 lo,.int .i64 hi] 25 (0,0)):=by rw [← HX];exact box_nw _ _
 have hwX:Below w.heap.size w X:=by rw [← HX];exact (Below.refl _ _).alloc (Nat.le_refl _) _
 have hp:=pred_any kind attr qi ci ints qw cw words lo hi X (h1.below hwX) (h2.below hwX) (by omega) (by omega)
 rw [hpB] at hp
 simp only [code,if_true] at hp
 have H1:=hide h1
 have H2:=hide h2
 have H3:=hide h3
 obtain ⟨x0,x1,x2,x3,x4,x5⟩:=of6' hX0
 have HX0:=hide hX0
 have HXL:=hide (heap_lt hX0)
 have HWX:=hide hwX
 clear h1 h2 h3 hX0 hwX
 go_enter Try.func35,Try.ntmps35
 go_wp2_with (first
  | (go_at_call 52;refine hp.mono ?_;rintro e w1 ⟨rfl,b1⟩;have hh:=(b1.block _ (uh HXL)).trans (uh HX0);obtain ⟨c0,c1,c2,c3,c4,c5⟩:=of6' hh;have HH1:=hide hh;have B1:=hide (below_sub (uh HWX) b1);clear b1 hh)
  | (go_at_call 54;refine (get_any qe ce ev attr _ (by omega) ((uh H3).below (uh B1))).mono ?_;rw [hgt];rintro e w2 ⟨rfl,b2⟩;simp only [getV];have hh:=(b2.block _ (heap_lt (uh HH1))).trans (uh HH1);obtain ⟨d0,d1,d2,d3,d4,d5⟩:=of6' hh;have HH2:=hide hh;have B2:=hide (below_sub (uh B1) b2);clear b2 hh c0 c1 c2 c3 c4 c5)
  | (go_at_call 55;refine name_world ?_;intro Y hY;have yv:Y.heap[w2.heap.size]? = some (.cells #[.int .i64 y.kind,.int .i64 y.int,.string y.word] 46 (0,0)):=(by rw [hY];exact box_nw _ _);have bY:Below w2.heap.size w2 Y:=(by rw [hY];exact (Below.refl _ _).alloc (Nat.le_refl _) _);clear hY;refine (check_any y.kind y.int y.word Y).mono ?_;rw [hck];rintro e w3 ⟨rfl,b3⟩;have hh:=(b3.block _ (heap_lt yv)).trans yv;obtain ⟨v0,v1,v2⟩:=of3' hh;have hp3:=((below_sub bY b3).block _ (heap_lt (uh HH2))).trans (uh HH2);obtain ⟨e0,e1,e2,e3,e4,e5⟩:=of6' hp3;have HV3:=hide hh;have HP3:=hide hp3;have B3:=hide (below_sub (uh B2) (below_sub bY b3));clear b3 hh hp3 yv bY d0 d1 d2 d3 d4 d5))
 go_ret
 exact ⟨rfl,uh B3⟩
set_option maxRecDepth 100000 in
set_option maxHeartbeats 4000000 in
theorem holds_k1 (kind:Int) (attr:ByteArray) (qi:Option Addr) (ci:Nat) (ints:List Int) (qw:Option Addr) (cw:Nat) (words:List ByteArray) (lo hi:Int) (qe:Option Addr) (ce:Nat) (ev:List Pr) (w:World) (h1:SlOf encI 1 w qi ci ints) (h2:SlOf encS 1 w qw cw words) (h3:SlOf encP 4 w qe ce ev) (l1:ints.length≤100000000000000) (l2:words.length≤100000000000000) (l3:ev.length≤100000000000000) (hkd:kind=1) (y:Pr) (hpB:predB kind attr ints words lo hi=true) (hgt:getP attr ev=some y) (hck:chkV y.kind y.int y.word=0) :
  Calls Try.prog 35 #[.agg #[.int .i64 kind,.string attr,.slice qi ints.length ci,.slice qw words.length cw,.int .i64 lo,.int .i64 hi],.slice qe ev.length ce] w fun e w'=>e=.returned (.bool ((y.kind == 1) && hasI y.int ints))∧Below w.heap.size w w':=by
 obtain ⟨X,HX⟩:∃ X,w.alloc (.cells #[.int .i64 kind,.string attr,.slice qi ints.length ci,.slice qw words.length cw,.int .i64 lo,.int .i64 hi] 25)=X:=⟨_,rfl⟩
 have hX0:X.heap[w.heap.size]? = some (.cells #[.int .i64 kind,.string attr,.slice qi ints.length ci,.slice qw words.length cw,.int .i64 lo,.int .i64 hi] 25 (0,0)):=by rw [← HX];exact box_nw _ _
 have hwX:Below w.heap.size w X:=by rw [← HX];exact (Below.refl _ _).alloc (Nat.le_refl _) _
 have hp:=pred_any kind attr qi ci ints qw cw words lo hi X (h1.below hwX) (h2.below hwX) (by omega) (by omega)
 rw [hpB] at hp
 simp only [code,if_true] at hp
 have H1:=hide h1
 have H2:=hide h2
 have H3:=hide h3
 obtain ⟨x0,x1,x2,x3,x4,x5⟩:=of6' hX0
 have HX0:=hide hX0
 have HXL:=hide (heap_lt hX0)
 have HWX:=hide hwX
 clear h1 h2 h3 hX0 hwX
 subst hkd
 cases hyk:(y.kind == 1) with
 | true =>
  go_enter Try.func35,Try.ntmps35
  go_wp2_with (first
   | (go_at_call 52;refine hp.mono ?_;rintro e w1 ⟨rfl,b1⟩;have hh:=(b1.block _ (uh HXL)).trans (uh HX0);obtain ⟨c0,c1,c2,c3,c4,c5⟩:=of6' hh;have HH1:=hide hh;have B1:=hide (below_sub (uh HWX) b1);clear b1 hh)
   | (go_at_call 54;refine (get_any qe ce ev attr _ (by omega) ((uh H3).below (uh B1))).mono ?_;rw [hgt];rintro e w2 ⟨rfl,b2⟩;simp only [getV];have hh:=(b2.block _ (heap_lt (uh HH1))).trans (uh HH1);obtain ⟨d0,d1,d2,d3,d4,d5⟩:=of6' hh;have HH2:=hide hh;have B2:=hide (below_sub (uh B1) b2);clear b2 hh c0 c1 c2 c3 c4 c5)
   | (go_at_call 55;refine name_world ?_;intro Y hY;have yv:Y.heap[w2.heap.size]? = some (.cells #[.int .i64 y.kind,.int .i64 y.int,.string y.word] 46 (0,0)):=(by rw [hY];exact box_nw _ _);have bY:Below w2.heap.size w2 Y:=(by rw [hY];exact (Below.refl _ _).alloc (Nat.le_refl _) _);clear hY;refine (check_any y.kind y.int y.word Y).mono ?_;rw [hck];rintro e w3 ⟨rfl,b3⟩;have hh:=(b3.block _ (heap_lt yv)).trans yv;obtain ⟨v0,v1,v2⟩:=of3' hh;have hp3:=((below_sub bY b3).block _ (heap_lt (uh HH2))).trans (uh HH2);obtain ⟨e0,e1,e2,e3,e4,e5⟩:=of6' hp3;have HV3:=hide hh;have HP3:=hide hp3;have B3:=hide (below_sub (uh B2) (below_sub bY b3));clear b3 hh hp3 yv bY d0 d1 d2 d3 d4 d5)
   | (go_at_call 56;refine (containsI qi ci ints y.int _ (by omega) ((uh H1).below (uh B3))).mono ?_;rintro e w4 ⟨rfl,b4⟩;have B4:=hide (below_sub (uh B3) b4);clear b4))
  go_ret
  exact ⟨ret_bool (by simp),uh B4⟩
 | false =>
  go_enter Try.func35,Try.ntmps35
  go_wp2_with (first
   | (go_at_call 52;refine hp.mono ?_;rintro e w1 ⟨rfl,b1⟩;have hh:=(b1.block _ (uh HXL)).trans (uh HX0);obtain ⟨c0,c1,c2,c3,c4,c5⟩:=of6' hh;have HH1:=hide hh;have B1:=hide (below_sub (uh HWX) b1);clear b1 hh)
   | (go_at_call 54;refine (get_any qe ce ev attr _ (by omega) ((uh H3).below (uh B1))).mono ?_;rw [hgt];rintro e w2 ⟨rfl,b2⟩;simp only [getV];have hh:=(b2.block _ (heap_lt (uh HH1))).trans (uh HH1);obtain ⟨d0,d1,d2,d3,d4,d5⟩:=of6' hh;have HH2:=hide hh;have B2:=hide (below_sub (uh B1) b2);clear b2 hh c0 c1 c2 c3 c4 c5)
   | (go_at_call 55;refine name_world ?_;intro Y hY;have yv:Y.heap[w2.heap.size]? = some (.cells #[.int .i64 y.kind,.int .i64 y.int,.string y.word] 46 (0,0)):=(by rw [hY];exact box_nw _ _);have bY:Below w2.heap.size w2 Y:=(by rw [hY];exact (Below.refl _ _).alloc (Nat.le_refl _) _);clear hY;refine (check_any y.kind y.int y.word Y).mono ?_;rw [hck];rintro e w3 ⟨rfl,b3⟩;have hh:=(b3.block _ (heap_lt yv)).trans yv;obtain ⟨v0,v1,v2⟩:=of3' hh;have hp3:=((below_sub bY b3).block _ (heap_lt (uh HH2))).trans (uh HH2);obtain ⟨e0,e1,e2,e3,e4,e5⟩:=of6' hp3;have HV3:=hide hh;have HP3:=hide hp3;have B3:=hide (below_sub (uh B2) (below_sub bY b3));clear b3 hh hp3 yv bY d0 d1 d2 d3 d4 d5))
  go_ret
  exact ⟨ret_bool (by simp),uh B3⟩
set_option maxRecDepth 100000 in
set_option maxHeartbeats 4000000 in
theorem holds_k2 (kind:Int) (attr:ByteArray) (qi:Option Addr) (ci:Nat) (ints:List Int) (qw:Option Addr) (cw:Nat) (words:List ByteArray) (lo hi:Int) (qe:Option Addr) (ce:Nat) (ev:List Pr) (w:World) (h1:SlOf encI 1 w qi ci ints) (h2:SlOf encS 1 w qw cw words) (h3:SlOf encP 4 w qe ce ev) (l1:ints.length≤100000000000000) (l2:words.length≤100000000000000) (l3:ev.length≤100000000000000) (hkd:kind=2) (y:Pr) (hpB:predB kind attr ints words lo hi=true) (hgt:getP attr ev=some y) (hck:chkV y.kind y.int y.word=0) :
  Calls Try.prog 35 #[.agg #[.int .i64 kind,.string attr,.slice qi ints.length ci,.slice qw words.length cw,.int .i64 lo,.int .i64 hi],.slice qe ev.length ce] w fun e w'=>e=.returned (.bool ((y.kind == 2) && hasS y.word words))∧Below w.heap.size w w':=by
 obtain ⟨X,HX⟩:∃ X,w.alloc (.cells #[.int .i64 kind,.string attr,.slice qi ints.length ci,.slice qw words.length cw,.int .i64 lo,.int .i64 hi] 25)=X:=⟨_,rfl⟩
 have hX0:X.heap[w.heap.size]? = some (.cells #[.int .i64 kind,.string attr,.slice qi ints.length ci,.slice qw words.length cw,.int .i64 lo,.int .i64 hi] 25 (0,0)):=by rw [← HX];exact box_nw _ _
 have hwX:Below w.heap.size w X:=by rw [← HX];exact (Below.refl _ _).alloc (Nat.le_refl _) _
 have hp:=pred_any kind attr qi ci ints qw cw words lo hi X (h1.below hwX) (h2.below hwX) (by omega) (by omega)
 rw [hpB] at hp
 simp only [code,if_true] at hp
 have H1:=hide h1
 have H2:=hide h2
 have H3:=hide h3
 obtain ⟨x0,x1,x2,x3,x4,x5⟩:=of6' hX0
 have HX0:=hide hX0
 have HXL:=hide (heap_lt hX0)
 have HWX:=hide hwX
 clear h1 h2 h3 hX0 hwX
 subst hkd
 cases hyk:(y.kind == 2) with
 | true =>
  go_enter Try.func35,Try.ntmps35
  go_wp2_with (first
   | (go_at_call 52;refine hp.mono ?_;rintro e w1 ⟨rfl,b1⟩;have hh:=(b1.block _ (uh HXL)).trans (uh HX0);obtain ⟨c0,c1,c2,c3,c4,c5⟩:=of6' hh;have HH1:=hide hh;have B1:=hide (below_sub (uh HWX) b1);clear b1 hh)
   | (go_at_call 54;refine (get_any qe ce ev attr _ (by omega) ((uh H3).below (uh B1))).mono ?_;rw [hgt];rintro e w2 ⟨rfl,b2⟩;simp only [getV];have hh:=(b2.block _ (heap_lt (uh HH1))).trans (uh HH1);obtain ⟨d0,d1,d2,d3,d4,d5⟩:=of6' hh;have HH2:=hide hh;have B2:=hide (below_sub (uh B1) b2);clear b2 hh c0 c1 c2 c3 c4 c5)
   | (go_at_call 55;refine name_world ?_;intro Y hY;have yv:Y.heap[w2.heap.size]? = some (.cells #[.int .i64 y.kind,.int .i64 y.int,.string y.word] 46 (0,0)):=(by rw [hY];exact box_nw _ _);have bY:Below w2.heap.size w2 Y:=(by rw [hY];exact (Below.refl _ _).alloc (Nat.le_refl _) _);clear hY;refine (check_any y.kind y.int y.word Y).mono ?_;rw [hck];rintro e w3 ⟨rfl,b3⟩;have hh:=(b3.block _ (heap_lt yv)).trans yv;obtain ⟨v0,v1,v2⟩:=of3' hh;have hp3:=((below_sub bY b3).block _ (heap_lt (uh HH2))).trans (uh HH2);obtain ⟨e0,e1,e2,e3,e4,e5⟩:=of6' hp3;have HV3:=hide hh;have HP3:=hide hp3;have B3:=hide (below_sub (uh B2) (below_sub bY b3));clear b3 hh hp3 yv bY d0 d1 d2 d3 d4 d5)
   | (go_at_call 57;refine (containsS qw cw words y.word _ (by omega) ((uh H2).below (uh B3))).mono ?_;rintro e w4 ⟨rfl,b4⟩;have B4:=hide (below_sub (uh B3) b4);clear b4))
  go_ret
  exact ⟨ret_bool (by simp),uh B4⟩
 | false =>
  go_enter Try.func35,Try.ntmps35
  go_wp2_with (first
   | (go_at_call 52;refine hp.mono ?_;rintro e w1 ⟨rfl,b1⟩;have hh:=(b1.block _ (uh HXL)).trans (uh HX0);obtain ⟨c0,c1,c2,c3,c4,c5⟩:=of6' hh;have HH1:=hide hh;have B1:=hide (below_sub (uh HWX) b1);clear b1 hh)
   | (go_at_call 54;refine (get_any qe ce ev attr _ (by omega) ((uh H3).below (uh B1))).mono ?_;rw [hgt];rintro e w2 ⟨rfl,b2⟩;simp only [getV];have hh:=(b2.block _ (heap_lt (uh HH1))).trans (uh HH1);obtain ⟨d0,d1,d2,d3,d4,d5⟩:=of6' hh;have HH2:=hide hh;have B2:=hide (below_sub (uh B1) b2);clear b2 hh c0 c1 c2 c3 c4 c5)
   | (go_at_call 55;refine name_world ?_;intro Y hY;have yv:Y.heap[w2.heap.size]? = some (.cells #[.int .i64 y.kind,.int .i64 y.int,.string y.word] 46 (0,0)):=(by rw [hY];exact box_nw _ _);have bY:Below w2.heap.size w2 Y:=(by rw [hY];exact (Below.refl _ _).alloc (Nat.le_refl _) _);clear hY;refine (check_any y.kind y.int y.word Y).mono ?_;rw [hck];rintro e w3 ⟨rfl,b3⟩;have hh:=(b3.block _ (heap_lt yv)).trans yv;obtain ⟨v0,v1,v2⟩:=of3' hh;have hp3:=((below_sub bY b3).block _ (heap_lt (uh HH2))).trans (uh HH2);obtain ⟨e0,e1,e2,e3,e4,e5⟩:=of6' hp3;have HV3:=hide hh;have HP3:=hide hp3;have B3:=hide (below_sub (uh B2) (below_sub bY b3));clear b3 hh hp3 yv bY d0 d1 d2 d3 d4 d5))
  go_ret
  exact ⟨ret_bool (by simp),uh B3⟩
set_option maxRecDepth 100000 in
set_option maxHeartbeats 4000000 in
theorem holds_k3 (kind:Int) (attr:ByteArray) (qi:Option Addr) (ci:Nat) (ints:List Int) (qw:Option Addr) (cw:Nat) (words:List ByteArray) (lo hi:Int) (qe:Option Addr) (ce:Nat) (ev:List Pr) (w:World) (h1:SlOf encI 1 w qi ci ints) (h2:SlOf encS 1 w qw cw words) (h3:SlOf encP 4 w qe ce ev) (l1:ints.length≤100000000000000) (l2:words.length≤100000000000000) (l3:ev.length≤100000000000000) (hkd:kind=3) (y:Pr) (hpB:predB kind attr ints words lo hi=true) (hgt:getP attr ev=some y) (hck:chkV y.kind y.int y.word=0) :
  Calls Try.prog 35 #[.agg #[.int .i64 kind,.string attr,.slice qi ints.length ci,.slice qw words.length cw,.int .i64 lo,.int .i64 hi],.slice qe ev.length ce] w fun e w'=>e=.returned (.bool ((y.kind == 1) && (decide (lo≤y.int) && decide (y.int≤hi))))∧Below w.heap.size w w':=by
 obtain ⟨X,HX⟩:∃ X,w.alloc (.cells #[.int .i64 kind,.string attr,.slice qi ints.length ci,.slice qw words.length cw,.int .i64 lo,.int .i64 hi] 25)=X:=⟨_,rfl⟩
 have hX0:X.heap[w.heap.size]? = some (.cells #[.int .i64 kind,.string attr,.slice qi ints.length ci,.slice qw words.length cw,.int .i64 lo,.int .i64 hi] 25 (0,0)):=by rw [← HX];exact box_nw _ _
 have hwX:Below w.heap.size w X:=by rw [← HX];exact (Below.refl _ _).alloc (Nat.le_refl _) _
 have hp:=pred_any kind attr qi ci ints qw cw words lo hi X (h1.below hwX) (h2.below hwX) (by omega) (by omega)
 rw [hpB] at hp
 simp only [code,if_true] at hp
 have H1:=hide h1
 have H2:=hide h2
 have H3:=hide h3
 obtain ⟨x0,x1,x2,x3,x4,x5⟩:=of6' hX0
 have HX0:=hide hX0
 have HXL:=hide (heap_lt hX0)
 have HWX:=hide hwX
 clear h1 h2 h3 hX0 hwX
 subst hkd
 cases hyk:(y.kind == 1) with
 | true =>
  cases hlo:decide (lo≤y.int) with
  | true =>
   cases hhi:decide (y.int≤hi) with
   | true =>
    go_enter Try.func35,Try.ntmps35
    go_wp2_with (first
     | (go_at_call 52;refine hp.mono ?_;rintro e w1 ⟨rfl,b1⟩;have hh:=(b1.block _ (uh HXL)).trans (uh HX0);obtain ⟨c0,c1,c2,c3,c4,c5⟩:=of6' hh;have HH1:=hide hh;have B1:=hide (below_sub (uh HWX) b1);clear b1 hh)
     | (go_at_call 54;refine (get_any qe ce ev attr _ (by omega) ((uh H3).below (uh B1))).mono ?_;rw [hgt];rintro e w2 ⟨rfl,b2⟩;simp only [getV];have hh:=(b2.block _ (heap_lt (uh HH1))).trans (uh HH1);obtain ⟨d0,d1,d2,d3,d4,d5⟩:=of6' hh;have HH2:=hide hh;have B2:=hide (below_sub (uh B1) b2);clear b2 hh c0 c1 c2 c3 c4 c5)
     | (go_at_call 55;refine name_world ?_;intro Y hY;have yv:Y.heap[w2.heap.size]? = some (.cells #[.int .i64 y.kind,.int .i64 y.int,.string y.word] 46 (0,0)):=(by rw [hY];exact box_nw _ _);have bY:Below w2.heap.size w2 Y:=(by rw [hY];exact (Below.refl _ _).alloc (Nat.le_refl _) _);clear hY;refine (check_any y.kind y.int y.word Y).mono ?_;rw [hck];rintro e w3 ⟨rfl,b3⟩;have hh:=(b3.block _ (heap_lt yv)).trans yv;obtain ⟨v0,v1,v2⟩:=of3' hh;have hp3:=((below_sub bY b3).block _ (heap_lt (uh HH2))).trans (uh HH2);obtain ⟨e0,e1,e2,e3,e4,e5⟩:=of6' hp3;have HV3:=hide hh;have HP3:=hide hp3;have B3:=hide (below_sub (uh B2) (below_sub bY b3));clear b3 hh hp3 yv bY d0 d1 d2 d3 d4 d5))
    go_ret
    exact ⟨ret_bool (by simp),uh B3⟩
   | false =>
    go_enter Try.func35,Try.ntmps35
    go_wp2_with (first
     | (go_at_call 52;refine hp.mono ?_;rintro e w1 ⟨rfl,b1⟩;have hh:=(b1.block _ (uh HXL)).trans (uh HX0);obtain ⟨c0,c1,c2,c3,c4,c5⟩:=of6' hh;have HH1:=hide hh;have B1:=hide (below_sub (uh HWX) b1);clear b1 hh)
     | (go_at_call 54;refine (get_any qe ce ev attr _ (by omega) ((uh H3).below (uh B1))).mono ?_;rw [hgt];rintro e w2 ⟨rfl,b2⟩;simp only [getV];have hh:=(b2.block _ (heap_lt (uh HH1))).trans (uh HH1);obtain ⟨d0,d1,d2,d3,d4,d5⟩:=of6' hh;have HH2:=hide hh;have B2:=hide (below_sub (uh B1) b2);clear b2 hh c0 c1 c2 c3 c4 c5)
     | (go_at_call 55;refine name_world ?_;intro Y hY;have yv:Y.heap[w2.heap.size]? = some (.cells #[.int .i64 y.kind,.int .i64 y.int,.string y.word] 46 (0,0)):=(by rw [hY];exact box_nw _ _);have bY:Below w2.heap.size w2 Y:=(by rw [hY];exact (Below.refl _ _).alloc (Nat.le_refl _) _);clear hY;refine (check_any y.kind y.int y.word Y).mono ?_;rw [hck];rintro e w3 ⟨rfl,b3⟩;have hh:=(b3.block _ (heap_lt yv)).trans yv;obtain ⟨v0,v1,v2⟩:=of3' hh;have hp3:=((below_sub bY b3).block _ (heap_lt (uh HH2))).trans (uh HH2);obtain ⟨e0,e1,e2,e3,e4,e5⟩:=of6' hp3;have HV3:=hide hh;have HP3:=hide hp3;have B3:=hide (below_sub (uh B2) (below_sub bY b3));clear b3 hh hp3 yv bY d0 d1 d2 d3 d4 d5))
    go_ret
    exact ⟨ret_bool (by simp),uh B3⟩
  | false =>
   go_enter Try.func35,Try.ntmps35
   go_wp2_with (first
    | (go_at_call 52;refine hp.mono ?_;rintro e w1 ⟨rfl,b1⟩;have hh:=(b1.block _ (uh HXL)).trans (uh HX0);obtain ⟨c0,c1,c2,c3,c4,c5⟩:=of6' hh;have HH1:=hide hh;have B1:=hide (below_sub (uh HWX) b1);clear b1 hh)
    | (go_at_call 54;refine (get_any qe ce ev attr _ (by omega) ((uh H3).below (uh B1))).mono ?_;rw [hgt];rintro e w2 ⟨rfl,b2⟩;simp only [getV];have hh:=(b2.block _ (heap_lt (uh HH1))).trans (uh HH1);obtain ⟨d0,d1,d2,d3,d4,d5⟩:=of6' hh;have HH2:=hide hh;have B2:=hide (below_sub (uh B1) b2);clear b2 hh c0 c1 c2 c3 c4 c5)
    | (go_at_call 55;refine name_world ?_;intro Y hY;have yv:Y.heap[w2.heap.size]? = some (.cells #[.int .i64 y.kind,.int .i64 y.int,.string y.word] 46 (0,0)):=(by rw [hY];exact box_nw _ _);have bY:Below w2.heap.size w2 Y:=(by rw [hY];exact (Below.refl _ _).alloc (Nat.le_refl _) _);clear hY;refine (check_any y.kind y.int y.word Y).mono ?_;rw [hck];rintro e w3 ⟨rfl,b3⟩;have hh:=(b3.block _ (heap_lt yv)).trans yv;obtain ⟨v0,v1,v2⟩:=of3' hh;have hp3:=((below_sub bY b3).block _ (heap_lt (uh HH2))).trans (uh HH2);obtain ⟨e0,e1,e2,e3,e4,e5⟩:=of6' hp3;have HV3:=hide hh;have HP3:=hide hp3;have B3:=hide (below_sub (uh B2) (below_sub bY b3));clear b3 hh hp3 yv bY d0 d1 d2 d3 d4 d5))
   go_ret
   exact ⟨ret_bool (by simp),uh B3⟩
 | false =>
  go_enter Try.func35,Try.ntmps35
  go_wp2_with (first
   | (go_at_call 52;refine hp.mono ?_;rintro e w1 ⟨rfl,b1⟩;have hh:=(b1.block _ (uh HXL)).trans (uh HX0);obtain ⟨c0,c1,c2,c3,c4,c5⟩:=of6' hh;have HH1:=hide hh;have B1:=hide (below_sub (uh HWX) b1);clear b1 hh)
   | (go_at_call 54;refine (get_any qe ce ev attr _ (by omega) ((uh H3).below (uh B1))).mono ?_;rw [hgt];rintro e w2 ⟨rfl,b2⟩;simp only [getV];have hh:=(b2.block _ (heap_lt (uh HH1))).trans (uh HH1);obtain ⟨d0,d1,d2,d3,d4,d5⟩:=of6' hh;have HH2:=hide hh;have B2:=hide (below_sub (uh B1) b2);clear b2 hh c0 c1 c2 c3 c4 c5)
   | (go_at_call 55;refine name_world ?_;intro Y hY;have yv:Y.heap[w2.heap.size]? = some (.cells #[.int .i64 y.kind,.int .i64 y.int,.string y.word] 46 (0,0)):=(by rw [hY];exact box_nw _ _);have bY:Below w2.heap.size w2 Y:=(by rw [hY];exact (Below.refl _ _).alloc (Nat.le_refl _) _);clear hY;refine (check_any y.kind y.int y.word Y).mono ?_;rw [hck];rintro e w3 ⟨rfl,b3⟩;have hh:=(b3.block _ (heap_lt yv)).trans yv;obtain ⟨v0,v1,v2⟩:=of3' hh;have hp3:=((below_sub bY b3).block _ (heap_lt (uh HH2))).trans (uh HH2);obtain ⟨e0,e1,e2,e3,e4,e5⟩:=of6' hp3;have HV3:=hide hh;have HP3:=hide hp3;have B3:=hide (below_sub (uh B2) (below_sub bY b3));clear b3 hh hp3 yv bY d0 d1 d2 d3 d4 d5))
  go_ret
  exact ⟨ret_bool (by simp),uh B3⟩
set_option maxRecDepth 100000 in
set_option maxHeartbeats 4000000 in
theorem holds_k4 (attr:ByteArray) (qi:Option Addr) (ci:Nat) (ints:List Int) (b off:Nat) (cw:Nat) (x:ByteArray) (lo hi:Int) (qe:Option Addr) (ce:Nat) (ev:List Pr) (w:World) (h1:SlOf encI 1 w qi ci ints) (h2:SlOf encS 1 w (some ⟨b,off,none⟩) cw [x]) (hlt:b < w.heap.size) (hc:w.cell? ⟨b,off,none⟩=some (.string x)) (h3:SlOf encP 4 w qe ce ev) (l1:ints.length≤100000000000000) (l3:ev.length≤100000000000000) (y:Pr) (hpB:predB 4 attr ints [x] lo hi=true) (hgt:getP attr ev=some y) (hck:chkV y.kind y.int y.word=0) :
  Calls Try.prog 35 #[.agg #[.int .i64 4,.string attr,.slice qi ints.length ci,.slice (some ⟨b,off,none⟩) 1 cw,.int .i64 lo,.int .i64 hi],.slice qe ev.length ce] w fun e w'=>e=.returned (.bool ((y.kind == 2) && prefB y.word x))∧Below w.heap.size w w':=by
 have mixed:Try.prog.follows .mixedOrders=true:=by kernel_rfl
 have HC:=hide hc
 have HLT:=hide hlt
 clear hc hlt
 obtain ⟨X,HX⟩:∃ X,w.alloc (.cells #[.int .i64 4,.string attr,.slice qi ints.length ci,.slice (some ⟨b,off,none⟩) 1 cw,.int .i64 lo,.int .i64 hi] 25)=X:=⟨_,rfl⟩
 have hX0:X.heap[w.heap.size]? = some (.cells #[.int .i64 4,.string attr,.slice qi ints.length ci,.slice (some ⟨b,off,none⟩) 1 cw,.int .i64 lo,.int .i64 hi] 25 (0,0)):=by rw [← HX];exact box_nw _ _
 have hwX:Below w.heap.size w X:=by rw [← HX];exact (Below.refl _ _).alloc (Nat.le_refl _) _
 have hp:Calls Try.prog 52 #[.agg #[.int .i64 4,.string attr,.slice qi ints.length ci,.slice (some ⟨b,off,none⟩) 1 cw,.int .i64 lo,.int .i64 hi]] X fun e w'=>e=.returned (.int .i64 (code (predB 4 attr ints [x] lo hi)))∧Below X.heap.size X w':=pred_any 4 attr qi ci ints (some ⟨b,off,none⟩) cw [x] lo hi X (h1.below hwX) (h2.below hwX) (by omega) (by simp)
 rw [hpB] at hp
 simp only [code,if_true] at hp
 have H1:=hide h1
 have H2:=hide h2
 have H3:=hide h3
 obtain ⟨x0,x1,x2,x3,x4,x5⟩:=of6' hX0
 have HX0:=hide hX0
 have HXL:=hide (heap_lt hX0)
 have HWX:=hide hwX
 clear h1 h2 h3 hX0 hwX
 cases hyk:(y.kind == 2) with
 | true =>
  go_enter Try.func35,Try.ntmps35
  go_wp2_with (first
   | (go_at_call 52;refine hp.mono ?_;rintro e w1 ⟨rfl,b1⟩;have hh:=(b1.block _ (uh HXL)).trans (uh HX0);obtain ⟨c0,c1,c2,c3,c4,c5⟩:=of6' hh;have HH1:=hide hh;have B1:=hide (below_sub (uh HWX) b1);clear b1 hh)
   | (go_at_call 54;refine (get_any qe ce ev attr _ (by omega) ((uh H3).below (uh B1))).mono ?_;rw [hgt];rintro e w2 ⟨rfl,b2⟩;simp only [getV];have hh:=(b2.block _ (heap_lt (uh HH1))).trans (uh HH1);obtain ⟨d0,d1,d2,d3,d4,d5⟩:=of6' hh;have HH2:=hide hh;have B2:=hide (below_sub (uh B1) b2);clear b2 hh c0 c1 c2 c3 c4 c5)
   | (go_at_call 55;refine name_world ?_;intro Y hY;have yv:Y.heap[w2.heap.size]? = some (.cells #[.int .i64 y.kind,.int .i64 y.int,.string y.word] 46 (0,0)):=(by rw [hY];exact box_nw _ _);have bY:Below w2.heap.size w2 Y:=(by rw [hY];exact (Below.refl _ _).alloc (Nat.le_refl _) _);clear hY;refine (check_any y.kind y.int y.word Y).mono ?_;rw [hck];rintro e w3 ⟨rfl,b3⟩;have hh:=(b3.block _ (heap_lt yv)).trans yv;obtain ⟨v0,v1,v2⟩:=of3' hh;have hp3:=((below_sub bY b3).block _ (heap_lt (uh HH2))).trans (uh HH2);obtain ⟨e0,e1,e2,e3,e4,e5⟩:=of6' hp3;have HV3:=hide hh;have HP3:=hide hp3;have B3:=hide (below_sub (uh B2) (below_sub bY b3));clear b3 hh hp3 yv bY d0 d1 d2 d3 d4 d5))
  have HC3:=hide (((uh B3).cell (p:=⟨b,off,none⟩) (by exact uh HLT)).trans (uh HC))
  have f0:∀ n os,(grow (redrawn w3 n) os).cell? ⟨w2.heap.size,0,none⟩=some (.int .i64 y.kind):=cell_regrown v0
  have f2:∀ n os,(grow (redrawn w3 n) os).cell? ⟨w2.heap.size,2,none⟩=some (.string y.word):=cell_regrown v2
  have f3:∀ n os,(grow (redrawn w3 n) os).cell? ⟨w.heap.size,3,none⟩=some (.slice (some ⟨b,off,none⟩) 1 cw):=cell_regrown e3
  have f4:∀ n os,(grow (redrawn w3 n) os).cell? ⟨b,off,none⟩=some (.string x):=cell_regrown (uh HC3)
  have r40:=fun (n:Nat) (os:Array Obj)=>hasPrefix_any y.word x (grow (redrawn w3 n) os)
  obtain ⟨pb,hpb⟩:∃ pb,prefB y.word x=pb:=⟨_,rfl⟩
  rw [hpb] at r40
  have HPB:=hide hpb
  clear hpb
  have en40:∀ args w,(callFunc 58 args).run Try.prog w=.ok (.enter 58 args) w:=enters_of Try.func58 (by kernel_rfl) rfl
  clear e0 e1 e2 e3 e4 e5 v0 v1 v2
  refine wp_region_quiet_below (by assumption) (by kernel_rfl) ?_
  repeat (go_big_quiet_step (first | (go_at_fn 58;refine Calls.regrown_of (r40 _ _))))
  refine wpQuiet_nil ?_
  intro _ hw'
  obtain ⟨⟨dq,osq⟩,hw''⟩:=hw'
  subst hw''
  go_wp2
  go_ret
  exact ⟨ret_bool (by rw [uh HPB];simp),below_sub (uh B3) (below_regrown _ _ _)⟩
 | false =>
  go_enter Try.func35,Try.ntmps35
  go_wp2_with (first
   | (go_at_call 52;refine hp.mono ?_;rintro e w1 ⟨rfl,b1⟩;have hh:=(b1.block _ (uh HXL)).trans (uh HX0);obtain ⟨c0,c1,c2,c3,c4,c5⟩:=of6' hh;have HH1:=hide hh;have B1:=hide (below_sub (uh HWX) b1);clear b1 hh)
   | (go_at_call 54;refine (get_any qe ce ev attr _ (by omega) ((uh H3).below (uh B1))).mono ?_;rw [hgt];rintro e w2 ⟨rfl,b2⟩;simp only [getV];have hh:=(b2.block _ (heap_lt (uh HH1))).trans (uh HH1);obtain ⟨d0,d1,d2,d3,d4,d5⟩:=of6' hh;have HH2:=hide hh;have B2:=hide (below_sub (uh B1) b2);clear b2 hh c0 c1 c2 c3 c4 c5)
   | (go_at_call 55;refine name_world ?_;intro Y hY;have yv:Y.heap[w2.heap.size]? = some (.cells #[.int .i64 y.kind,.int .i64 y.int,.string y.word] 46 (0,0)):=(by rw [hY];exact box_nw _ _);have bY:Below w2.heap.size w2 Y:=(by rw [hY];exact (Below.refl _ _).alloc (Nat.le_refl _) _);clear hY;refine (check_any y.kind y.int y.word Y).mono ?_;rw [hck];rintro e w3 ⟨rfl,b3⟩;have hh:=(b3.block _ (heap_lt yv)).trans yv;obtain ⟨v0,v1,v2⟩:=of3' hh;have hp3:=((below_sub bY b3).block _ (heap_lt (uh HH2))).trans (uh HH2);obtain ⟨e0,e1,e2,e3,e4,e5⟩:=of6' hp3;have HV3:=hide hh;have HP3:=hide hp3;have B3:=hide (below_sub (uh B2) (below_sub bY b3));clear b3 hh hp3 yv bY d0 d1 d2 d3 d4 d5))
  have HC3:=hide (((uh B3).cell (p:=⟨b,off,none⟩) (by exact uh HLT)).trans (uh HC))
  have f0:∀ n os,(grow (redrawn w3 n) os).cell? ⟨w2.heap.size,0,none⟩=some (.int .i64 y.kind):=cell_regrown v0
  have f2:∀ n os,(grow (redrawn w3 n) os).cell? ⟨w2.heap.size,2,none⟩=some (.string y.word):=cell_regrown v2
  have f3:∀ n os,(grow (redrawn w3 n) os).cell? ⟨w.heap.size,3,none⟩=some (.slice (some ⟨b,off,none⟩) 1 cw):=cell_regrown e3
  have f4:∀ n os,(grow (redrawn w3 n) os).cell? ⟨b,off,none⟩=some (.string x):=cell_regrown (uh HC3)
  have r40:=fun (n:Nat) (os:Array Obj)=>hasPrefix_any y.word x (grow (redrawn w3 n) os)
  obtain ⟨pb,hpb⟩:∃ pb,prefB y.word x=pb:=⟨_,rfl⟩
  rw [hpb] at r40
  have HPB:=hide hpb
  clear hpb
  have en40:∀ args w,(callFunc 58 args).run Try.prog w=.ok (.enter 58 args) w:=enters_of Try.func58 (by kernel_rfl) rfl
  clear e0 e1 e2 e3 e4 e5 v0 v1 v2
  refine wp_region_quiet_below (by assumption) (by kernel_rfl) ?_
  repeat (go_big_quiet_step (first | (go_at_fn 58;refine Calls.regrown_of (r40 _ _))))
  refine wpQuiet_nil ?_
  intro _ hw'
  obtain ⟨⟨dq,osq⟩,hw''⟩:=hw'
  subst hw''
  go_wp2
  go_ret
  exact ⟨ret_bool (by rw [uh HPB];simp),below_sub (uh B3) (below_regrown _ _ _)⟩
theorem pred_kinds {kind:Int} {attr:ByteArray} {ints:List Int} {words:List ByteArray} {lo hi:Int} (h:predB kind attr ints words lo hi=true):kind=1 ∨ kind=2 ∨ kind=3 ∨ (kind=4∧∃ x,words=[x]):=by
 unfold predB at h
 rw [Bool.and_eq_true] at h
 obtain ⟨_,h⟩:=h
 split at h
 ·exact Or.inl (by assumption)
 split at h
 ·exact Or.inr (Or.inl (by assumption))
 split at h
 ·exact Or.inr (Or.inr (Or.inl (by assumption)))
 split at h
 ·refine Or.inr (Or.inr (Or.inr ⟨by assumption, ?_⟩))
  rw [Bool.and_eq_true] at h
  have hm:=h.1
  unfold memB at hm
  rw [Bool.and_eq_true,Bool.and_eq_true] at hm
  have h1:=of_decide_eq_true hm.2.1
  have h2:=of_decide_eq_true hm.2.2
  exact List.length_eq_one_iff.1 (by omega)
 ·cases h
theorem holds_any (kind:Int) (attr:ByteArray) (qi:Option Addr) (ci:Nat) (ints:List Int) (qw:Option Addr) (cw:Nat) (words:List ByteArray) (lo hi:Int) (qe:Option Addr) (ce:Nat) (ev:List Pr) (w:World) (h1:SlOf encI 1 w qi ci ints) (h2:SlOf encS 1 w qw cw words) (h3:SlOf encP 4 w qe ce ev) (l1:ints.length≤100000000000000) (l2:words.length≤100000000000000) (l3:ev.length≤100000000000000) :
  Calls Try.prog 35 #[.agg #[.int .i64 kind,.string attr,.slice qi ints.length ci,.slice qw words.length cw,.int .i64 lo,.int .i64 hi],.slice qe ev.length ce] w fun e w'=>e=.returned (.bool (holdsB kind attr ints words lo hi ev))∧Below w.heap.size w w':=by
 cases hpB:predB kind attr ints words lo hi with
 | false=>rw [holdsB_no hpB];exact holds_no kind attr qi ci ints qw cw words lo hi qe ce ev w h1 h2 h3 l1 l2 l3 hpB
 | true =>
  cases hgt:getP attr ev with
  | none=>rw [holdsB_none hgt];exact holds_none kind attr qi ci ints qw cw words lo hi qe ce ev w h1 h2 h3 l1 l2 l3 hpB hgt
  | some y =>
   rcases chk_or y.kind y.int y.word with hck | hck
   ·rw [holdsB_told hpB hgt hck]
    rcases pred_kinds hpB with hk | hk | hk | ⟨hk,x,rfl⟩
    ·have:=holds_k1 kind attr qi ci ints qw cw words lo hi qe ce ev w h1 h2 h3 l1 l2 l3 hk y hpB hgt hck
     unfold toldB;rwa [if_pos hk]
    ·have:=holds_k2 kind attr qi ci ints qw cw words lo hi qe ce ev w h1 h2 h3 l1 l2 l3 hk y hpB hgt hck
     unfold toldB;rwa [if_neg (by omega),if_pos hk]
    ·have:=holds_k3 kind attr qi ci ints qw cw words lo hi qe ce ev w h1 h2 h3 l1 l2 l3 hk y hpB hgt hck
     unfold toldB;rwa [if_neg (by omega),if_neg (by omega),if_pos hk]
    ·subst hk
     obtain ⟨b,off,rfl,hlt,hc⟩:=wordsAt h2 (j:=0) rfl
     exact holds_k4 attr qi ci ints b off cw x lo hi qe ce ev w h1 h2 hlt hc h3 l1 l3 y hpB hgt hck
   ·rw [holdsB_bad hgt (by omega)];exact holds_bad kind attr qi ci ints qw cw words lo hi qe ce ev w h1 h2 h3 l1 l2 l3 y hpB hgt hck
end Go.Proofs.Ytikhopiegaoacac

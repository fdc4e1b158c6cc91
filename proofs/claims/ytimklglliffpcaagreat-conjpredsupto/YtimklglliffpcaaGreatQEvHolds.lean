/- What eval.Holds returns, for every predicate and every event. -/
import Derived.Test.YtimklglliffpcaaGreatQZaa
import Derived.Test.YtimklglliffpcaaGreatQZab
import Derived.Test.YtimklglliffpcaaGreatQKept
import Derived.Lib.QuietBelow
import Derived.Shelf.Abstract
namespace Go.Proofs.YtimklglliffpcaaGreat
open Go.RowKit Go.Sort
theorem jc {w:World} {b:Nat} {o:Obj} (h:w.heap[b]? = some o):b < w.heap.size:=(Array.getElem?_eq_some_iff.1 h).1
theorem kj {P:Program} {f:Nat} {args:Array Value} {w:World} {Q:Ending->World->Prop} (h:∀ Y,Y=w->Calls P f args Y Q):Calls P f args w Q:=h w rfl
theorem Fc {w:World} {N:Nat} {a0 a1 a2:Value} {T:TypeId} (h:w.heap[N]? = some (.cells #[a0,a1,a2] T (0,0))):w.cell? ⟨N,0,none⟩=some a0/\w.cell? ⟨N,1,none⟩=some a1/\w.cell? ⟨N,2,none⟩=some a2:=by
 refine ⟨?_, ?_, ?_⟩ <;> rw [Lib.cell_of_heap h] <;> rfl
/-- Does a predicate in form hold of a value? -/
def mc (kind:Int) (ints:List Int) (words:List ByteArray) (lo hi:Int) (y:Pr):Bool :=
 if kind=1 then (y.kind == 1) && Cm y.int ints else if kind=2 then (y.kind == 2) && vx y.word words else if kind=3 then (y.kind == 1) && (decide (lo<=y.int) && decide (y.int<=hi)) else (y.kind == 2) && ll y.word (words.headD ⟨#[]⟩)
def mr (kind:Int) (attr:ByteArray) (ints:List Int) (words:List ByteArray) (lo hi:Int) (ev:List Pr):Bool :=
 kg kind attr ints words lo hi && (match qr attr ev with
  | none=>false
  | some y=>decide (rx y.kind y.int y.word=0) && mc kind ints words lo hi y)
theorem Nq {kind:Int} {attr:ByteArray} {ints:List Int} {words:List ByteArray} {lo hi:Int} {ev:List Pr} (h:kg kind attr ints words lo hi=false):mr kind attr ints words lo hi ev=false:=by simp [mr,h]
theorem Ge {kind:Int} {attr:ByteArray} {ints:List Int} {words:List ByteArray} {lo hi:Int} {ev:List Pr} (h:qr attr ev=none):mr kind attr ints words lo hi ev=false:=by simp [mr,h]
theorem J9 {kind:Int} {attr:ByteArray} {ints:List Int} {words:List ByteArray} {lo hi:Int} {ev:List Pr} {y:Pr} (h:qr attr ev=some y) (hc:rx y.kind y.int y.word ≠ 0):mr kind attr ints words lo hi ev=false:=by simp [mr,h,hc]
theorem Fp {kind:Int} {attr:ByteArray} {ints:List Int} {words:List ByteArray} {lo hi:Int} {ev:List Pr} {y:Pr} (hp:kg kind attr ints words lo hi=true) (h:qr attr ev=some y) (hc:rx y.kind y.int y.word=0):mr kind attr ints words lo hi ev=mc kind ints words lo hi y:=by simp [mr,hp,h,hc]
theorem Vv (k n:Int) (s:ByteArray):rx k n s=0 ∨ rx k n s=1:=by unfold rx;split <;> simp
set_option maxRecDepth 100000 in
set_option maxHeartbeats 4000000 in
theorem Q0 (kind:Int) (attr:ByteArray) (qi:Option Addr) (ci:Nat) (ints:List Int) (qw:Option Addr) (cw:Nat) (words:List ByteArray) (lo hi:Int) (qe:Option Addr) (ce:Nat) (ev:List Pr) (w:World) (h1:SlOf jq 1 w qi ci ints) (h2:SlOf jy 1 w qw cw words) (h3:SlOf yq 4 w qe ce ev) (l1:ints.length<=100000000000000) (l2:words.length<=100000000000000) (_:ev.length<=100000000000000) (hpB:kg kind attr ints words lo hi=false) :
  Calls Tryz.prog 37 #[.agg #[.int .i64 kind,.string attr,.slice qi ints.length ci,.slice qw words.length cw,.int .i64 lo,.int .i64 hi],.slice qe ev.length ce] w fun e w'=>e=.returned (.bool false)/\Below w.heap.size w w':=by
 obtain ⟨X,HX⟩:∃ X,w.alloc (.cells #[.int .i64 kind,.string attr,.slice qi ints.length ci,.slice qw words.length cw,.int .i64 lo,.int .i64 hi] 26)=X:=⟨_,rfl⟩
 have hX0:X.heap[w.heap.size]? = some (.cells #[.int .i64 kind,.string attr,.slice qi ints.length ci,.slice qw words.length cw,.int .i64 lo,.int .i64 hi] 26 (0,0)):=by rw [<- HX];exact jf _ _
 have hwX:Below w.heap.size w X:=by rw [<- HX];exact (Below.refl _ _).alloc (Nat.le_refl _) _
 have hp:=kw kind attr qi ci ints qw cw words lo hi X (h1.below hwX) (h2.below hwX) (by omega) (by omega)
 rw [hpB] at hp
 simp only [py,Bool.false_eq_true,if_false] at hp
 have H1:=d9 h1
 have H2:=d9 h2
 have H3:=d9 h3
 obtain ⟨x0,x1,x2,x3,x4,x5⟩:=kx hX0
 have HX0:=d9 hX0
 have HXL:=d9 (jc hX0)
 have HWX:=d9 hwX
 clear h1 h2 h3 hX0 hwX
 go_enter Tryz.func37,Tryz.ntmps37
 go_wp2_with (first
  | (go_at_call 54;refine hp.mono ?_;rintro e w1 ⟨rfl,b1⟩;have hh:=(b1.block _ (uh HXL)).trans (uh HX0);obtain ⟨c0,c1,c2,c3,c4,c5⟩:=kx hh;have HH1:=d9 hh;have B1:=d9 (d8 (uh HWX) b1);clear b1 hh))
 go_ret
 exact ⟨rfl,uh B1⟩
set_option maxRecDepth 100000 in
set_option maxHeartbeats 4000000 in
theorem Kb (kind:Int) (attr:ByteArray) (qi:Option Addr) (ci:Nat) (ints:List Int) (qw:Option Addr) (cw:Nat) (words:List ByteArray) (lo hi:Int) (qe:Option Addr) (ce:Nat) (ev:List Pr) (w:World) (h1:SlOf jq 1 w qi ci ints) (h2:SlOf jy 1 w qw cw words) (h3:SlOf yq 4 w qe ce ev) (l1:ints.length<=100000000000000) (l2:words.length<=100000000000000) (l3:ev.length<=100000000000000) (hpB:kg kind attr ints words lo hi=true) (hgt:qr attr ev=none) :
  Calls Tryz.prog 37 #[.agg #[.int .i64 kind,.string attr,.slice qi ints.length ci,.slice qw words.length cw,.int .i64 lo,.int .i64 hi],.slice qe ev.length ce] w fun e w'=>e=.returned (.bool false)/\Below w.heap.size w w':=by
 obtain ⟨X,HX⟩:∃ X,w.alloc (.cells #[.int .i64 kind,.string attr,.slice qi ints.length ci,.slice qw words.length cw,.int .i64 lo,.int .i64 hi] 26)=X:=⟨_,rfl⟩
 have hX0:X.heap[w.heap.size]? = some (.cells #[.int .i64 kind,.string attr,.slice qi ints.length ci,.slice qw words.length cw,.int .i64 lo,.int .i64 hi] 26 (0,0)):=by rw [<- HX];exact jf _ _
 have hwX:Below w.heap.size w X:=by rw [<- HX];exact (Below.refl _ _).alloc (Nat.le_refl _) _
 have hp:=kw kind attr qi ci ints qw cw words lo hi X (h1.below hwX) (h2.below hwX) (by omega) (by omega)
 rw [hpB] at hp
 simp only [py,if_true] at hp
 have H1:=d9 h1
 have H2:=d9 h2
 have H3:=d9 h3
 obtain ⟨x0,x1,x2,x3,x4,x5⟩:=kx hX0
 have HX0:=d9 hX0
 have HXL:=d9 (jc hX0)
 have HWX:=d9 hwX
 clear h1 h2 h3 hX0 hwX
 go_enter Tryz.func37,Tryz.ntmps37
 go_wp2_with (first
  | (go_at_call 54;refine hp.mono ?_;rintro e w1 ⟨rfl,b1⟩;have hh:=(b1.block _ (uh HXL)).trans (uh HX0);obtain ⟨c0,c1,c2,c3,c4,c5⟩:=kx hh;have HH1:=d9 hh;have B1:=d9 (d8 (uh HWX) b1);clear b1 hh)
  | (go_at_call 86;refine (pf qe ce ev attr _ (by omega) ((uh H3).below (uh B1))).mono ?_;rw [hgt];rintro e w2 ⟨rfl,b2⟩;simp only [Gj];have hh:=(b2.block _ (jc (uh HH1))).trans (uh HH1);obtain ⟨d0,d1,d2,d3,d4,d5⟩:=kx hh;have HH2:=d9 hh;have B2:=d9 (d8 (uh B1) b2);clear b2 hh c0 c1 c2 c3 c4 c5))
 go_ret
 exact ⟨rfl,(uh B2).alloc (uh B2).size _⟩
set_option maxRecDepth 100000 in
set_option maxHeartbeats 4000000 in
theorem Qe (kind:Int) (attr:ByteArray) (qi:Option Addr) (ci:Nat) (ints:List Int) (qw:Option Addr) (cw:Nat) (words:List ByteArray) (lo hi:Int) (qe:Option Addr) (ce:Nat) (ev:List Pr) (w:World) (h1:SlOf jq 1 w qi ci ints) (h2:SlOf jy 1 w qw cw words) (h3:SlOf yq 4 w qe ce ev) (l1:ints.length<=100000000000000) (l2:words.length<=100000000000000) (l3:ev.length<=100000000000000) (y:Pr) (hpB:kg kind attr ints words lo hi=true) (hgt:qr attr ev=some y) (hck:rx y.kind y.int y.word=1) :
  Calls Tryz.prog 37 #[.agg #[.int .i64 kind,.string attr,.slice qi ints.length ci,.slice qw words.length cw,.int .i64 lo,.int .i64 hi],.slice qe ev.length ce] w fun e w'=>e=.returned (.bool false)/\Below w.heap.size w w':=by
 obtain ⟨X,HX⟩:∃ X,w.alloc (.cells #[.int .i64 kind,.string attr,.slice qi ints.length ci,.slice qw words.length cw,.int .i64 lo,.int .i64 hi] 26)=X:=⟨_,rfl⟩
 have hX0:X.heap[w.heap.size]? = some (.cells #[.int .i64 kind,.string attr,.slice qi ints.length ci,.slice qw words.length cw,.int .i64 lo,.int .i64 hi] 26 (0,0)):=by rw [<- HX];exact jf _ _
 have hwX:Below w.heap.size w X:=by rw [<- HX];exact (Below.refl _ _).alloc (Nat.le_refl _) _
 have hp:=kw kind attr qi ci ints qw cw words lo hi X (h1.below hwX) (h2.below hwX) (by omega) (by omega)
 rw [hpB] at hp
 simp only [py,if_true] at hp
 have H1:=d9 h1
 have H2:=d9 h2
 have H3:=d9 h3
 obtain ⟨x0,x1,x2,x3,x4,x5⟩:=kx hX0
 have HX0:=d9 hX0
 have HXL:=d9 (jc hX0)
 have HWX:=d9 hwX
 clear h1 h2 h3 hX0 hwX
 go_enter Tryz.func37,Tryz.ntmps37
 go_wp2_with (first
  | (go_at_call 54;refine hp.mono ?_;rintro e w1 ⟨rfl,b1⟩;have hh:=(b1.block _ (uh HXL)).trans (uh HX0);obtain ⟨c0,c1,c2,c3,c4,c5⟩:=kx hh;have HH1:=d9 hh;have B1:=d9 (d8 (uh HWX) b1);clear b1 hh)
  | (go_at_call 86;refine (pf qe ce ev attr _ (by omega) ((uh H3).below (uh B1))).mono ?_;rw [hgt];rintro e w2 ⟨rfl,b2⟩;simp only [Gj];have hh:=(b2.block _ (jc (uh HH1))).trans (uh HH1);obtain ⟨d0,d1,d2,d3,d4,d5⟩:=kx hh;have HH2:=d9 hh;have B2:=d9 (d8 (uh B1) b2);clear b2 hh c0 c1 c2 c3 c4 c5)
  | (go_at_call 87;refine kj ?_;intro Y hY;have yv:Y.heap[w2.heap.size]? = some (.cells #[.int .i64 y.kind,.int .i64 y.int,.string y.word] 84 (0,0)):=(by rw [hY];exact jf _ _);have bY:Below w2.heap.size w2 Y:=(by rw [hY];exact (Below.refl _ _).alloc (Nat.le_refl _) _);clear hY;refine (lh y.kind y.int y.word Y).mono ?_;rw [hck];rintro e w3 ⟨rfl,b3⟩;have hh:=(b3.block _ (jc yv)).trans yv;obtain ⟨v0,v1,v2⟩:=Fc hh;have hp3:=((d8 bY b3).block _ (jc (uh HH2))).trans (uh HH2);obtain ⟨e0,e1,e2,e3,e4,e5⟩:=kx hp3;have HV3:=d9 hh;have HP3:=d9 hp3;have B3:=d9 (d8 (uh B2) (d8 bY b3));clear b3 hh hp3 yv bY d0 d1 d2 d3 d4 d5))
 go_ret
 exact ⟨rfl,uh B3⟩
set_option maxRecDepth 100000 in
set_option maxHeartbeats 4000000 in
theorem Qs (kind:Int) (attr:ByteArray) (qi:Option Addr) (ci:Nat) (ints:List Int) (qw:Option Addr) (cw:Nat) (words:List ByteArray) (lo hi:Int) (qe:Option Addr) (ce:Nat) (ev:List Pr) (w:World) (h1:SlOf jq 1 w qi ci ints) (h2:SlOf jy 1 w qw cw words) (h3:SlOf yq 4 w qe ce ev) (l1:ints.length<=100000000000000) (l2:words.length<=100000000000000) (l3:ev.length<=100000000000000) (hkd:kind=1) (y:Pr) (hpB:kg kind attr ints words lo hi=true) (hgt:qr attr ev=some y) (hck:rx y.kind y.int y.word=0) :
  Calls Tryz.prog 37 #[.agg #[.int .i64 kind,.string attr,.slice qi ints.length ci,.slice qw words.length cw,.int .i64 lo,.int .i64 hi],.slice qe ev.length ce] w fun e w'=>e=.returned (.bool ((y.kind == 1) && Cm y.int ints))/\Below w.heap.size w w':=by
 obtain ⟨X,HX⟩:∃ X,w.alloc (.cells #[.int .i64 kind,.string attr,.slice qi ints.length ci,.slice qw words.length cw,.int .i64 lo,.int .i64 hi] 26)=X:=⟨_,rfl⟩
 have hX0:X.heap[w.heap.size]? = some (.cells #[.int .i64 kind,.string attr,.slice qi ints.length ci,.slice qw words.length cw,.int .i64 lo,.int .i64 hi] 26 (0,0)):=by rw [<- HX];exact jf _ _
 have hwX:Below w.heap.size w X:=by rw [<- HX];exact (Below.refl _ _).alloc (Nat.le_refl _) _
 have hp:=kw kind attr qi ci ints qw cw words lo hi X (h1.below hwX) (h2.below hwX) (by omega) (by omega)
 rw [hpB] at hp
 simp only [py,if_true] at hp
 have H1:=d9 h1
 have H2:=d9 h2
 have H3:=d9 h3
 obtain ⟨x0,x1,x2,x3,x4,x5⟩:=kx hX0
 have HX0:=d9 hX0
 have HXL:=d9 (jc hX0)
 have HWX:=d9 hwX
 clear h1 h2 h3 hX0 hwX
 subst hkd
 cases hyk:(y.kind == 1) with
 | true =>
  go_enter Tryz.func37,Tryz.ntmps37
  go_wp2_with (first
   | (go_at_call 54;refine hp.mono ?_;rintro e w1 ⟨rfl,b1⟩;have hh:=(b1.block _ (uh HXL)).trans (uh HX0);obtain ⟨c0,c1,c2,c3,c4,c5⟩:=kx hh;have HH1:=d9 hh;have B1:=d9 (d8 (uh HWX) b1);clear b1 hh)
   | (go_at_call 86;refine (pf qe ce ev attr _ (by omega) ((uh H3).below (uh B1))).mono ?_;rw [hgt];rintro e w2 ⟨rfl,b2⟩;simp only [Gj];have hh:=(b2.block _ (jc (uh HH1))).trans (uh HH1);obtain ⟨d0,d1,d2,d3,d4,d5⟩:=kx hh;have HH2:=d9 hh;have B2:=d9 (d8 (uh B1) b2);clear b2 hh c0 c1 c2 c3 c4 c5)
   | (go_at_call 87;refine kj ?_;intro Y hY;have yv:Y.heap[w2.heap.size]? = some (.cells #[.int .i64 y.kind,.int .i64 y.int,.string y.word] 84 (0,0)):=(by rw [hY];exact jf _ _);have bY:Below w2.heap.size w2 Y:=(by rw [hY];exact (Below.refl _ _).alloc (Nat.le_refl _) _);clear hY;refine (lh y.kind y.int y.word Y).mono ?_;rw [hck];rintro e w3 ⟨rfl,b3⟩;have hh:=(b3.block _ (jc yv)).trans yv;obtain ⟨v0,v1,v2⟩:=Fc hh;have hp3:=((d8 bY b3).block _ (jc (uh HH2))).trans (uh HH2);obtain ⟨e0,e1,e2,e3,e4,e5⟩:=kx hp3;have HV3:=d9 hh;have HP3:=d9 hp3;have B3:=d9 (d8 (uh B2) (d8 bY b3));clear b3 hh hp3 yv bY d0 d1 d2 d3 d4 d5)
   | (go_at_call 88;refine (Nn qi ci ints y.int _ (by omega) ((uh H1).below (uh B3))).mono ?_;rintro e w4 ⟨rfl,b4⟩;have B4:=d9 (d8 (uh B3) b4);clear b4))
  go_ret
  exact ⟨jb (by simp),uh B4⟩
 | false =>
  go_enter Tryz.func37,Tryz.ntmps37
  go_wp2_with (first
   | (go_at_call 54;refine hp.mono ?_;rintro e w1 ⟨rfl,b1⟩;have hh:=(b1.block _ (uh HXL)).trans (uh HX0);obtain ⟨c0,c1,c2,c3,c4,c5⟩:=kx hh;have HH1:=d9 hh;have B1:=d9 (d8 (uh HWX) b1);clear b1 hh)
   | (go_at_call 86;refine (pf qe ce ev attr _ (by omega) ((uh H3).below (uh B1))).mono ?_;rw [hgt];rintro e w2 ⟨rfl,b2⟩;simp only [Gj];have hh:=(b2.block _ (jc (uh HH1))).trans (uh HH1);obtain ⟨d0,d1,d2,d3,d4,d5⟩:=kx hh;have HH2:=d9 hh;have B2:=d9 (d8 (uh B1) b2);clear b2 hh c0 c1 c2 c3 c4 c5)
   | (go_at_call 87;refine kj ?_;intro Y hY;have yv:Y.heap[w2.heap.size]? = some (.cells #[.int .i64 y.kind,.int .i64 y.int,.string y.word] 84 (0,0)):=(by rw [hY];exact jf _ _);have bY:Below w2.heap.size w2 Y:=(by rw [hY];exact (Below.refl _ _).alloc (Nat.le_refl _) _);clear hY;refine (lh y.kind y.int y.word Y).mono ?_;rw [hck];rintro e w3 ⟨rfl,b3⟩;have hh:=(b3.block _ (jc yv)).trans yv;obtain ⟨v0,v1,v2⟩:=Fc hh;have hp3:=((d8 bY b3).block _ (jc (uh HH2))).trans (uh HH2);obtain ⟨e0,e1,e2,e3,e4,e5⟩:=kx hp3;have HV3:=d9 hh;have HP3:=d9 hp3;have B3:=d9 (d8 (uh B2) (d8 bY b3));clear b3 hh hp3 yv bY d0 d1 d2 d3 d4 d5))
  go_ret
  exact ⟨jb (by simp),uh B3⟩
set_option maxRecDepth 100000 in
set_option maxHeartbeats 4000000 in
theorem Ri (kind:Int) (attr:ByteArray) (qi:Option Addr) (ci:Nat) (ints:List Int) (qw:Option Addr) (cw:Nat) (words:List ByteArray) (lo hi:Int) (qe:Option Addr) (ce:Nat) (ev:List Pr) (w:World) (h1:SlOf jq 1 w qi ci ints) (h2:SlOf jy 1 w qw cw words) (h3:SlOf yq 4 w qe ce ev) (l1:ints.length<=100000000000000) (l2:words.length<=100000000000000) (l3:ev.length<=100000000000000) (hkd:kind=2) (y:Pr) (hpB:kg kind attr ints words lo hi=true) (hgt:qr attr ev=some y) (hck:rx y.kind y.int y.word=0) :
  Calls Tryz.prog 37 #[.agg #[.int .i64 kind,.string attr,.slice qi ints.length ci,.slice qw words.length cw,.int .i64 lo,.int .i64 hi],.slice qe ev.length ce] w fun e w'=>e=.returned (.bool ((y.kind == 2) && vx y.word words))/\Below w.heap.size w w':=by
 obtain ⟨X,HX⟩:∃ X,w.alloc (.cells #[.int .i64 kind,.string attr,.slice qi ints.length ci,.slice qw words.length cw,.int .i64 lo,.int .i64 hi] 26)=X:=⟨_,rfl⟩
 have hX0:X.heap[w.heap.size]? = some (.cells #[.int .i64 kind,.string attr,.slice qi ints.length ci,.slice qw words.length cw,.int .i64 lo,.int .i64 hi] 26 (0,0)):=by rw [<- HX];exact jf _ _
 have hwX:Below w.heap.size w X:=by rw [<- HX];exact (Below.refl _ _).alloc (Nat.le_refl _) _
 have hp:=kw kind attr qi ci ints qw cw words lo hi X (h1.below hwX) (h2.below hwX) (by omega) (by omega)
 rw [hpB] at hp
 simp only [py,if_true] at hp
 have H1:=d9 h1
 have H2:=d9 h2
 have H3:=d9 h3
 obtain ⟨x0,x1,x2,x3,x4,x5⟩:=kx hX0
 have HX0:=d9 hX0
 have HXL:=d9 (jc hX0)
 have HWX:=d9 hwX
 clear h1 h2 h3 hX0 hwX
 subst hkd
 cases hyk:(y.kind == 2) with
 | true =>
  go_enter Tryz.func37,Tryz.ntmps37
  go_wp2_with (first
   | (go_at_call 54;refine hp.mono ?_;rintro e w1 ⟨rfl,b1⟩;have hh:=(b1.block _ (uh HXL)).trans (uh HX0);obtain ⟨c0,c1,c2,c3,c4,c5⟩:=kx hh;have HH1:=d9 hh;have B1:=d9 (d8 (uh HWX) b1);clear b1 hh)
   | (go_at_call 86;refine (pf qe ce ev attr _ (by omega) ((uh H3).below (uh B1))).mono ?_;rw [hgt];rintro e w2 ⟨rfl,b2⟩;simp only [Gj];have hh:=(b2.block _ (jc (uh HH1))).trans (uh HH1);obtain ⟨d0,d1,d2,d3,d4,d5⟩:=kx hh;have HH2:=d9 hh;have B2:=d9 (d8 (uh B1) b2);clear b2 hh c0 c1 c2 c3 c4 c5)
   | (go_at_call 87;refine kj ?_;intro Y hY;have yv:Y.heap[w2.heap.size]? = some (.cells #[.int .i64 y.kind,.int .i64 y.int,.string y.word] 84 (0,0)):=(by rw [hY];exact jf _ _);have bY:Below w2.heap.size w2 Y:=(by rw [hY];exact (Below.refl _ _).alloc (Nat.le_refl _) _);clear hY;refine (lh y.kind y.int y.word Y).mono ?_;rw [hck];rintro e w3 ⟨rfl,b3⟩;have hh:=(b3.block _ (jc yv)).trans yv;obtain ⟨v0,v1,v2⟩:=Fc hh;have hp3:=((d8 bY b3).block _ (jc (uh HH2))).trans (uh HH2);obtain ⟨e0,e1,e2,e3,e4,e5⟩:=kx hp3;have HV3:=d9 hh;have HP3:=d9 hp3;have B3:=d9 (d8 (uh B2) (d8 bY b3));clear b3 hh hp3 yv bY d0 d1 d2 d3 d4 d5)
   | (go_at_call 89;refine (Pt qw cw words y.word _ (by omega) ((uh H2).below (uh B3))).mono ?_;rintro e w4 ⟨rfl,b4⟩;have B4:=d9 (d8 (uh B3) b4);clear b4))
  go_ret
  exact ⟨jb (by simp),uh B4⟩
 | false =>
  go_enter Tryz.func37,Tryz.ntmps37
  go_wp2_with (first
   | (go_at_call 54;refine hp.mono ?_;rintro e w1 ⟨rfl,b1⟩;have hh:=(b1.block _ (uh HXL)).trans (uh HX0);obtain ⟨c0,c1,c2,c3,c4,c5⟩:=kx hh;have HH1:=d9 hh;have B1:=d9 (d8 (uh HWX) b1);clear b1 hh)
   | (go_at_call 86;refine (pf qe ce ev attr _ (by omega) ((uh H3).below (uh B1))).mono ?_;rw [hgt];rintro e w2 ⟨rfl,b2⟩;simp only [Gj];have hh:=(b2.block _ (jc (uh HH1))).trans (uh HH1);obtain ⟨d0,d1,d2,d3,d4,d5⟩:=kx hh;have HH2:=d9 hh;have B2:=d9 (d8 (uh B1) b2);clear b2 hh c0 c1 c2 c3 c4 c5)
   | (go_at_call 87;refine kj ?_;intro Y hY;have yv:Y.heap[w2.heap.size]? = some (.cells #[.int .i64 y.kind,.int .i64 y.int,.string y.word] 84 (0,0)):=(by rw [hY];exact jf _ _);have bY:Below w2.heap.size w2 Y:=(by rw [hY];exact (Below.refl _ _).alloc (Nat.le_refl _) _);clear hY;refine (lh y.kind y.int y.word Y).mono ?_;rw [hck];rintro e w3 ⟨rfl,b3⟩;have hh:=(b3.block _ (jc yv)).trans yv;obtain ⟨v0,v1,v2⟩:=Fc hh;have hp3:=((d8 bY b3).block _ (jc (uh HH2))).trans (uh HH2);obtain ⟨e0,e1,e2,e3,e4,e5⟩:=kx hp3;have HV3:=d9 hh;have HP3:=d9 hp3;have B3:=d9 (d8 (uh B2) (d8 bY b3));clear b3 hh hp3 yv bY d0 d1 d2 d3 d4 d5))
  go_ret
  exact ⟨jb (by simp),uh B3⟩
set_option maxRecDepth 100000 in
set_option maxHeartbeats 4000000 in
theorem Ti (kind:Int) (attr:ByteArray) (qi:Option Addr) (ci:Nat) (ints:List Int) (qw:Option Addr) (cw:Nat) (words:List ByteArray) (lo hi:Int) (qe:Option Addr) (ce:Nat) (ev:List Pr) (w:World) (h1:SlOf jq 1 w qi ci ints) (h2:SlOf jy 1 w qw cw words) (h3:SlOf yq 4 w qe ce ev) (l1:ints.length<=100000000000000) (l2:words.length<=100000000000000) (l3:ev.length<=100000000000000) (hkd:kind=3) (y:Pr) (hpB:kg kind attr ints words lo hi=true) (hgt:qr attr ev=some y) (hck:rx y.kind y.int y.word=0) :
  Calls Tryz.prog 37 #[.agg #[.int .i64 kind,.string attr,.slice qi ints.length ci,.slice qw words.length cw,.int .i64 lo,.int .i64 hi],.slice qe ev.length ce] w fun e w'=>e=.returned (.bool ((y.kind == 1) && (decide (lo<=y.int) && decide (y.int<=hi))))/\Below w.heap.size w w':=by
 obtain ⟨X,HX⟩:∃ X,w.alloc (.cells #[.int .i64 kind,.string attr,.slice qi ints.length ci,.slice qw words.length cw,.int .i64 lo,.int .i64 hi] 26)=X:=⟨_,rfl⟩
 have hX0:X.heap[w.heap.size]? = some (.cells #[.int .i64 kind,.string attr,.slice qi ints.length ci,.slice qw words.length cw,.int .i64 lo,.int .i64 hi] 26 (0,0)):=by rw [<- HX];exact jf _ _
 have hwX:Below w.heap.size w X:=by rw [<- HX];exact (Below.refl _ _).alloc (Nat.le_refl _) _
 have hp:=kw kind attr qi ci ints qw cw words lo hi X (h1.below hwX) (h2.below hwX) (by omega) (by omega)
 rw [hpB] at hp
 simp only [py,if_true] at hp
 have H1:=d9 h1
 have H2:=d9 h2
 have H3:=d9 h3
 obtain ⟨x0,x1,x2,x3,x4,x5⟩:=kx hX0
 have HX0:=d9 hX0
 have HXL:=d9 (jc hX0)
 have HWX:=d9 hwX
 clear h1 h2 h3 hX0 hwX
 subst hkd
 cases hyk:(y.kind == 1) with
 | true =>
  cases hlo:decide (lo<=y.int) with
  | true =>
   cases hhi:decide (y.int<=hi) with
   | true =>
    go_enter Tryz.func37,Tryz.ntmps37
    go_wp2_with (first
     | (go_at_call 54;refine hp.mono ?_;rintro e w1 ⟨rfl,b1⟩;have hh:=(b1.block _ (uh HXL)).trans (uh HX0);obtain ⟨c0,c1,c2,c3,c4,c5⟩:=kx hh;have HH1:=d9 hh;have B1:=d9 (d8 (uh HWX) b1);clear b1 hh)
     | (go_at_call 86;refine (pf qe ce ev attr _ (by omega) ((uh H3).below (uh B1))).mono ?_;rw [hgt];rintro e w2 ⟨rfl,b2⟩;simp only [Gj];have hh:=(b2.block _ (jc (uh HH1))).trans (uh HH1);obtain ⟨d0,d1,d2,d3,d4,d5⟩:=kx hh;have HH2:=d9 hh;have B2:=d9 (d8 (uh B1) b2);clear b2 hh c0 c1 c2 c3 c4 c5)
     | (go_at_call 87;refine kj ?_;intro Y hY;have yv:Y.heap[w2.heap.size]? = some (.cells #[.int .i64 y.kind,.int .i64 y.int,.string y.word] 84 (0,0)):=(by rw [hY];exact jf _ _);have bY:Below w2.heap.size w2 Y:=(by rw [hY];exact (Below.refl _ _).alloc (Nat.le_refl _) _);clear hY;refine (lh y.kind y.int y.word Y).mono ?_;rw [hck];rintro e w3 ⟨rfl,b3⟩;have hh:=(b3.block _ (jc yv)).trans yv;obtain ⟨v0,v1,v2⟩:=Fc hh;have hp3:=((d8 bY b3).block _ (jc (uh HH2))).trans (uh HH2);obtain ⟨e0,e1,e2,e3,e4,e5⟩:=kx hp3;have HV3:=d9 hh;have HP3:=d9 hp3;have B3:=d9 (d8 (uh B2) (d8 bY b3));clear b3 hh hp3 yv bY d0 d1 d2 d3 d4 d5))
    go_ret
    exact ⟨jb (by simp),uh B3⟩
   | false =>
    go_enter Tryz.func37,Tryz.ntmps37
    go_wp2_with (first
     | (go_at_call 54;refine hp.mono ?_;rintro e w1 ⟨rfl,b1⟩;have hh:=(b1.block _ (uh HXL)).trans (uh HX0);obtain ⟨c0,c1,c2,c3,c4,c5⟩:=kx hh;have HH1:=d9 hh;have B1:=d9 (d8 (uh HWX) b1);clear b1 hh)
     | (go_at_call 86;refine (pf qe ce ev attr _ (by omega) ((uh H3).below (uh B1))).mono ?_;rw [hgt];rintro e w2 ⟨rfl,b2⟩;simp only [Gj];have hh:=(b2.block _ (jc (uh HH1))).trans (uh HH1);obtain ⟨d0,d1,d2,d3,d4,d5⟩:=kx hh;have HH2:=d9 hh;have B2:=d9 (d8 (uh B1) b2);clear b2 hh c0 c1 c2 c3 c4 c5)
     | (go_at_call 87;refine kj ?_;intro Y hY;have yv:Y.heap[w2.heap.size]? = some (.cells #[.int .i64 y.kind,.int .i64 y.int,.string y.word] 84 (0,0)):=(by rw [hY];exact jf _ _);have bY:Below w2.heap.size w2 Y:=(by rw [hY];exact (Below.refl _ _).alloc (Nat.le_refl _) _);clear hY;refine (lh y.kind y.int y.word Y).mono ?_;rw [hck];rintro e w3 ⟨rfl,b3⟩;have hh:=(b3.block _ (jc yv)).trans yv;obtain ⟨v0,v1,v2⟩:=Fc hh;have hp3:=((d8 bY b3).block _ (jc (uh HH2))).trans (uh HH2);obtain ⟨e0,e1,e2,e3,e4,e5⟩:=kx hp3;have HV3:=d9 hh;have HP3:=d9 hp3;have B3:=d9 (d8 (uh B2) (d8 bY b3));clear b3 hh hp3 yv bY d0 d1 d2 d3 d4 d5))
    go_ret
    exact ⟨jb (by simp),uh B3⟩
  | false =>
   go_enter Tryz.func37,Tryz.ntmps37
   go_wp2_with (first
    | (go_at_call 54;refine hp.mono ?_;rintro e w1 ⟨rfl,b1⟩;have hh:=(b1.block _ (uh HXL)).trans (uh HX0);obtain ⟨c0,c1,c2,c3,c4,c5⟩:=kx hh;have HH1:=d9 hh;have B1:=d9 (d8 (uh HWX) b1);clear b1 hh)
    | (go_at_call 86;refine (pf qe ce ev attr _ (by omega) ((uh H3).below (uh B1))).mono ?_;rw [hgt];rintro e w2 ⟨rfl,b2⟩;simp only [Gj];have hh:=(b2.block _ (jc (uh HH1))).trans (uh HH1);obtain ⟨d0,d1,d2,d3,d4,d5⟩:=kx hh;have HH2:=d9 hh;have B2:=d9 (d8 (uh B1) b2);clear b2 hh c0 c1 c2 c3 c4 c5)
    | (go_at_call 87;refine kj ?_;intro Y hY;have yv:Y.heap[w2.heap.size]? = some (.cells #[.int .i64 y.kind,.int .i64 y.int,.string y.word] 84 (0,0)):=(by rw [hY];exact jf _ _);have bY:Below w2.heap.size w2 Y:=(by rw [hY];exact (Below.refl _ _).alloc (Nat.le_refl _) _);clear hY;refine (lh y.kind y.int y.word Y).mono ?_;rw [hck];rintro e w3 ⟨rfl,b3⟩;have hh:=(b3.block _ (jc yv)).trans yv;obtain ⟨v0,v1,v2⟩:=Fc hh;have hp3:=((d8 bY b3).block _ (jc (uh HH2))).trans (uh HH2);obtain ⟨e0,e1,e2,e3,e4,e5⟩:=kx hp3;have HV3:=d9 hh;have HP3:=d9 hp3;have B3:=d9 (d8 (uh B2) (d8 bY b3));clear b3 hh hp3 yv bY d0 d1 d2 d3 d4 d5))
   go_ret
   exact ⟨jb (by simp),uh B3⟩
 | false =>
  go_enter Tryz.func37,Tryz.ntmps37
  go_wp2_with (first
   | (go_at_call 54;refine hp.mono ?_;rintro e w1 ⟨rfl,b1⟩;have hh:=(b1.block _ (uh HXL)).trans (uh HX0);obtain ⟨c0,c1,c2,c3,c4,c5⟩:=kx hh;have HH1:=d9 hh;have B1:=d9 (d8 (uh HWX) b1);clear b1 hh)
   | (go_at_call 86;refine (pf qe ce ev attr _ (by omega) ((uh H3).below (uh B1))).mono ?_;rw [hgt];rintro e w2 ⟨rfl,b2⟩;simp only [Gj];have hh:=(b2.block _ (jc (uh HH1))).trans (uh HH1);obtain ⟨d0,d1,d2,d3,d4,d5⟩:=kx hh;have HH2:=d9 hh;have B2:=d9 (d8 (uh B1) b2);clear b2 hh c0 c1 c2 c3 c4 c5)
   | (go_at_call 87;refine kj ?_;intro Y hY;have yv:Y.heap[w2.heap.size]? = some (.cells #[.int .i64 y.kind,.int .i64 y.int,.string y.word] 84 (0,0)):=(by rw [hY];exact jf _ _);have bY:Below w2.heap.size w2 Y:=(by rw [hY];exact (Below.refl _ _).alloc (Nat.le_refl _) _);clear hY;refine (lh y.kind y.int y.word Y).mono ?_;rw [hck];rintro e w3 ⟨rfl,b3⟩;have hh:=(b3.block _ (jc yv)).trans yv;obtain ⟨v0,v1,v2⟩:=Fc hh;have hp3:=((d8 bY b3).block _ (jc (uh HH2))).trans (uh HH2);obtain ⟨e0,e1,e2,e3,e4,e5⟩:=kx hp3;have HV3:=d9 hh;have HP3:=d9 hp3;have B3:=d9 (d8 (uh B2) (d8 bY b3));clear b3 hh hp3 yv bY d0 d1 d2 d3 d4 d5))
  go_ret
  exact ⟨jb (by simp),uh B3⟩
set_option maxRecDepth 100000 in
set_option maxHeartbeats 4000000 in
theorem Tf (attr:ByteArray) (qi:Option Addr) (ci:Nat) (ints:List Int) (b off:Nat) (cw:Nat) (x:ByteArray) (lo hi:Int) (qe:Option Addr) (ce:Nat) (ev:List Pr) (w:World) (h1:SlOf jq 1 w qi ci ints) (h2:SlOf jy 1 w (some ⟨b,off,none⟩) cw [x]) (hlt:b < w.heap.size) (hc:w.cell? ⟨b,off,none⟩=some (.string x)) (h3:SlOf yq 4 w qe ce ev) (l1:ints.length<=100000000000000) (l3:ev.length<=100000000000000) (y:Pr) (hpB:kg 4 attr ints [x] lo hi=true) (hgt:qr attr ev=some y) (hck:rx y.kind y.int y.word=0) :
  Calls Tryz.prog 37 #[.agg #[.int .i64 4,.string attr,.slice qi ints.length ci,.slice (some ⟨b,off,none⟩) 1 cw,.int .i64 lo,.int .i64 hi],.slice qe ev.length ce] w fun e w'=>e=.returned (.bool ((y.kind == 2) && ll y.word x))/\Below w.heap.size w w':=by
 have mixed:Tryz.prog.follows .mixedOrders=true:=by kernel_rfl
 have HC:=d9 hc
 have HLT:=d9 hlt
 clear hc hlt
 obtain ⟨X,HX⟩:∃ X,w.alloc (.cells #[.int .i64 4,.string attr,.slice qi ints.length ci,.slice (some ⟨b,off,none⟩) 1 cw,.int .i64 lo,.int .i64 hi] 26)=X:=⟨_,rfl⟩
 have hX0:X.heap[w.heap.size]? = some (.cells #[.int .i64 4,.string attr,.slice qi ints.length ci,.slice (some ⟨b,off,none⟩) 1 cw,.int .i64 lo,.int .i64 hi] 26 (0,0)):=by rw [<- HX];exact jf _ _
 have hwX:Below w.heap.size w X:=by rw [<- HX];exact (Below.refl _ _).alloc (Nat.le_refl _) _
 have hp:Calls Tryz.prog 54 #[.agg #[.int .i64 4,.string attr,.slice qi ints.length ci,.slice (some ⟨b,off,none⟩) 1 cw,.int .i64 lo,.int .i64 hi]] X fun e w'=>e=.returned (.int .i64 (py (kg 4 attr ints [x] lo hi)))/\Below X.heap.size X w':=kw 4 attr qi ci ints (some ⟨b,off,none⟩) cw [x] lo hi X (h1.below hwX) (h2.below hwX) (by omega) (by simp)
 rw [hpB] at hp
 simp only [py,if_true] at hp
 have H1:=d9 h1
 have H2:=d9 h2
 have H3:=d9 h3
 obtain ⟨x0,x1,x2,x3,x4,x5⟩:=kx hX0
 have HX0:=d9 hX0
 have HXL:=d9 (jc hX0)
 have HWX:=d9 hwX
 clear h1 h2 h3 hX0 hwX
 cases hyk:(y.kind == 2) with
 | true =>
  go_enter Tryz.func37,Tryz.ntmps37
  go_wp2_with (first
   | (go_at_call 54;refine hp.mono ?_;rintro e w1 ⟨rfl,b1⟩;have hh:=(b1.block _ (uh HXL)).trans (uh HX0);obtain ⟨c0,c1,c2,c3,c4,c5⟩:=kx hh;have HH1:=d9 hh;have B1:=d9 (d8 (uh HWX) b1);clear b1 hh)
   | (go_at_call 86;refine (pf qe ce ev attr _ (by omega) ((uh H3).below (uh B1))).mono ?_;rw [hgt];rintro e w2 ⟨rfl,b2⟩;simp only [Gj];have hh:=(b2.block _ (jc (uh HH1))).trans (uh HH1);obtain ⟨d0,d1,d2,d3,d4,d5⟩:=kx hh;have HH2:=d9 hh;have B2:=d9 (d8 (uh B1) b2);clear b2 hh c0 c1 c2 c3 c4 c5)
   | (go_at_call 87;refine kj ?_;intro Y hY;have yv:Y.heap[w2.heap.size]? = some (.cells #[.int .i64 y.kind,.int .i64 y.int,.string y.word] 84 (0,0)):=(by rw [hY];exact jf _ _);have bY:Below w2.heap.size w2 Y:=(by rw [hY];exact (Below.refl _ _).alloc (Nat.le_refl _) _);clear hY;refine (lh y.kind y.int y.word Y).mono ?_;rw [hck];rintro e w3 ⟨rfl,b3⟩;have hh:=(b3.block _ (jc yv)).trans yv;obtain ⟨v0,v1,v2⟩:=Fc hh;have hp3:=((d8 bY b3).block _ (jc (uh HH2))).trans (uh HH2);obtain ⟨e0,e1,e2,e3,e4,e5⟩:=kx hp3;have HV3:=d9 hh;have HP3:=d9 hp3;have B3:=d9 (d8 (uh B2) (d8 bY b3));clear b3 hh hp3 yv bY d0 d1 d2 d3 d4 d5))
  have HC3:=d9 (((uh B3).cell (p:=⟨b,off,none⟩) (by exact uh HLT)).trans (uh HC))
  have f0:∀ n os,(grow (redrawn w3 n) os).cell? ⟨w2.heap.size,0,none⟩=some (.int .i64 y.kind):=cell_regrown v0
  have f2:∀ n os,(grow (redrawn w3 n) os).cell? ⟨w2.heap.size,2,none⟩=some (.string y.word):=cell_regrown v2
  have f3:∀ n os,(grow (redrawn w3 n) os).cell? ⟨w.heap.size,3,none⟩=some (.slice (some ⟨b,off,none⟩) 1 cw):=cell_regrown e3
  have f4:∀ n os,(grow (redrawn w3 n) os).cell? ⟨b,off,none⟩=some (.string x):=cell_regrown (uh HC3)
  have r40:=fun (n:Nat) (os:Array Obj)=>lu y.word x (grow (redrawn w3 n) os)
  obtain ⟨pb,hpb⟩:∃ pb,ll y.word x=pb:=⟨_,rfl⟩
  rw [hpb] at r40
  have HPB:=d9 hpb
  clear hpb
  have en40:∀ args w,(callFunc 90 args).run Tryz.prog w=.ok (.enter 90 args) w:=enters_of Tryz.func90 (by kernel_rfl) rfl
  clear e0 e1 e2 e3 e4 e5 v0 v1 v2
  refine wp_region_quiet_below (by assumption) (by kernel_rfl) ?_
  repeat (go_big_quiet_step (first | (go_at_fn 90;refine Calls.regrown_of (r40 _ _))))
  refine wpQuiet_nil ?_
  intro _ hw'
  obtain ⟨⟨dq,osq⟩,hw''⟩:=hw'
  subst hw''
  go_wp2
  go_ret
  exact ⟨jb (by rw [uh HPB];simp),d8 (uh B3) (below_regrown _ _ _)⟩
 | false =>
  go_enter Tryz.func37,Tryz.ntmps37
  go_wp2_with (first
   | (go_at_call 54;refine hp.mono ?_;rintro e w1 ⟨rfl,b1⟩;have hh:=(b1.block _ (uh HXL)).trans (uh HX0);obtain ⟨c0,c1,c2,c3,c4,c5⟩:=kx hh;have HH1:=d9 hh;have B1:=d9 (d8 (uh HWX) b1);clear b1 hh)
   | (go_at_call 86;refine (pf qe ce ev attr _ (by omega) ((uh H3).below (uh B1))).mono ?_;rw [hgt];rintro e w2 ⟨rfl,b2⟩;simp only [Gj];have hh:=(b2.block _ (jc (uh HH1))).trans (uh HH1);obtain ⟨d0,d1,d2,d3,d4,d5⟩:=kx hh;have HH2:=d9 hh;have B2:=d9 (d8 (uh B1) b2);clear b2 hh c0 c1 c2 c3 c4 c5)
   | (go_at_call 87;refine kj ?_;intro Y hY;have yv:Y.heap[w2.heap.size]? = some (.cells #[.int .i64 y.kind,.int .i64 y.int,.string y.word] 84 (0,0)):=(by rw [hY];exact jf _ _);have bY:Below w2.heap.size w2 Y:=(by rw [hY];exact (Below.refl _ _).alloc (Nat.le_refl _) _);clear hY;refine (lh y.kind y.int y.word Y).mono ?_;rw [hck];rintro e w3 ⟨rfl,b3⟩;have hh:=(b3.block _ (jc yv)).trans yv;obtain ⟨v0,v1,v2⟩:=Fc hh;have hp3:=((d8 bY b3).block _ (jc (uh HH2))).trans (uh HH2);obtain ⟨e0,e1,e2,e3,e4,e5⟩:=kx hp3;have HV3:=d9 hh;have HP3:=d9 hp3;have B3:=d9 (d8 (uh B2) (d8 bY b3));clear b3 hh hp3 yv bY d0 d1 d2 d3 d4 d5))
  have HC3:=d9 (((uh B3).cell (p:=⟨b,off,none⟩) (by exact uh HLT)).trans (uh HC))
  have f0:∀ n os,(grow (redrawn w3 n) os).cell? ⟨w2.heap.size,0,none⟩=some (.int .i64 y.kind):=cell_regrown v0
  have f2:∀ n os,(grow (redrawn w3 n) os).cell? ⟨w2.heap.size,2,none⟩=some (.string y.word):=cell_regrown v2
  have f3:∀ n os,(grow (redrawn w3 n) os).cell? ⟨w.heap.size,3,none⟩=some (.slice (some ⟨b,off,none⟩) 1 cw):=cell_regrown e3
  have f4:∀ n os,(grow (redrawn w3 n) os).cell? ⟨b,off,none⟩=some (.string x):=cell_regrown (uh HC3)
  have r40:=fun (n:Nat) (os:Array Obj)=>lu y.word x (grow (redrawn w3 n) os)
  obtain ⟨pb,hpb⟩:∃ pb,ll y.word x=pb:=⟨_,rfl⟩
  rw [hpb] at r40
  have HPB:=d9 hpb
  clear hpb
  have en40:∀ args w,(callFunc 90 args).run Tryz.prog w=.ok (.enter 90 args) w:=enters_of Tryz.func90 (by kernel_rfl) rfl
  clear e0 e1 e2 e3 e4 e5 v0 v1 v2
  refine wp_region_quiet_below (by assumption) (by kernel_rfl) ?_
  repeat (go_big_quiet_step (first | (go_at_fn 90;refine Calls.regrown_of (r40 _ _))))
  refine wpQuiet_nil ?_
  intro _ hw'
  obtain ⟨⟨dq,osq⟩,hw''⟩:=hw'
  subst hw''
  go_wp2
  go_ret
  exact ⟨jb (by rw [uh HPB];simp),d8 (uh B3) (below_regrown _ _ _)⟩
theorem Be {kind:Int} {attr:ByteArray} {ints:List Int} {words:List ByteArray} {lo hi:Int} (h:kg kind attr ints words lo hi=true):kind=1 ∨ kind=2 ∨ kind=3 ∨ (kind=4/\∃ x,words=[x]):=by
 unfold kg at h
 rw [Bool.and_eq_true] at h
 obtain ⟨_,h⟩:=h
 split at h
 ·exact Or.inl (by assumption)
 split at h
 ·exact Or.inr (Or.inl (by assumption))
 split at h
 ·exact Or.inr (Or.inr (Or.inl (by assumption)))
 split at h
 ·refine Or.inr (Or.inr (Or.inr ⟨by assumption, ?_⟩))
  rw [Bool.and_eq_true] at h
  have hm:=h.1
  unfold p9 at hm
  rw [Bool.and_eq_true,Bool.and_eq_true] at hm
  have h1:=of_decide_eq_true hm.2.1
  have h2:=of_decide_eq_true hm.2.2
  exact List.length_eq_one_iff.1 (by omega)
 ·cases h
theorem L8 (kind:Int) (attr:ByteArray) (qi:Option Addr) (ci:Nat) (ints:List Int) (qw:Option Addr) (cw:Nat) (words:List ByteArray) (lo hi:Int) (qe:Option Addr) (ce:Nat) (ev:List Pr) (w:World) (h1:SlOf jq 1 w qi ci ints) (h2:SlOf jy 1 w qw cw words) (h3:SlOf yq 4 w qe ce ev) (l1:ints.length<=100000000000000) (l2:words.length<=100000000000000) (l3:ev.length<=100000000000000) :
  Calls Tryz.prog 37 #[.agg #[.int .i64 kind,.string attr,.slice qi ints.length ci,.slice qw words.length cw,.int .i64 lo,.int .i64 hi],.slice qe ev.length ce] w fun e w'=>e=.returned (.bool (mr kind attr ints words lo hi ev))/\Below w.heap.size w w':=by
 cases hpB:kg kind attr ints words lo hi with
 | false=>rw [Nq hpB];exact Q0 kind attr qi ci ints qw cw words lo hi qe ce ev w h1 h2 h3 l1 l2 l3 hpB
 | true =>
  cases hgt:qr attr ev with
  | none=>rw [Ge hgt];exact Kb kind attr qi ci ints qw cw words lo hi qe ce ev w h1 h2 h3 l1 l2 l3 hpB hgt
  | some y =>
   rcases Vv y.kind y.int y.word with hck | hck
   ·rw [Fp hpB hgt hck]
    rcases Be hpB with hk | hk | hk | ⟨hk,x,rfl⟩
    ·have:=Qs kind attr qi ci ints qw cw words lo hi qe ce ev w h1 h2 h3 l1 l2 l3 hk y hpB hgt hck
     unfold mc;rwa [if_pos hk]
    ·have:=Ri kind attr qi ci ints qw cw words lo hi qe ce ev w h1 h2 h3 l1 l2 l3 hk y hpB hgt hck
     unfold mc;rwa [if_neg (by omega),if_pos hk]
    ·have:=Ti kind attr qi ci ints qw cw words lo hi qe ce ev w h1 h2 h3 l1 l2 l3 hk y hpB hgt hck
     unfold mc;rwa [if_neg (by omega),if_neg (by omega),if_pos hk]
    ·subst hk
     obtain ⟨b,off,rfl,hlt,hc⟩:=j6 h2 (j:=0) rfl
     exact Tf attr qi ci ints b off cw x lo hi qe ce ev w h1 h2 hlt hc h3 l1 l3 y hpB hgt hck
   ·rw [J9 hgt (by omega)];exact Qe kind attr qi ci ints qw cw words lo hi qe ce ev w h1 h2 h3 l1 l2 l3 y hpB hgt hck
end Go.Proofs.YtimklglliffpcaaGreat

/- What value.Text returns, for every value. -/
import Derived.Test.YtikhopiegaoacaaDoorTQuote
import Derived.Test.YtikhopiegaoacaaDoorTShelf
import Derived.Lib.SmallJoins
import Derived.Lib.AppendIntMem
namespace Go.Proofs.YtikhopiegaoacaaDoor
open Go.RowKit

/-- What the listed variables of the library hold. -/
def G (w:World):Prop:=Lib.TabIs Tryd.prog w "internal/strconv.uint64pow10" .u64 Lib.pow10Tab
theorem var_stays {w w':World} {n:String} {cs:Array Value} (hb:Below w.heap.size w w') (h:w.var? Tryd.prog n=some cs):w'.var? Tryd.prog n=some cs:=by
 unfold World.var? at h
 cases hg:Tryd.prog.globalNamed n with
 | none=>rw [hg] at h;simp at h
 | some g =>
  refine var?_below hb hg ?_ (by unfold World.var?;exact h)
  rw [hg] at h
  simp only [Option.bind_some] at h
  cases hx:w.heap[g]? with
  | none=>rw [hx] at h;simp at h
  | some o=>exact (Array.getElem?_eq_some_iff.1 hx).1
theorem G_below {w w':World} (h:G w) (hb:Below w.heap.size w w'):G w':=var_stays hb h
theorem G_alloc {w:World} (h:G w) (o:Obj):G (w.alloc o):=G_below h ((Below.refl _ _).alloc (Nat.le_refl _) _)
theorem below_sub {a b c:World} (h:Below a.heap.size a b) (h2:Below b.heap.size b c):Below a.heap.size a c:=h.trans (h2.mono h.size)

def quoteB (s:ByteArray):ByteArray:=⟨(quoteL s.data.toList).toArray⟩
def itoaB (n:Int):ByteArray:=⟨(Lib.itoa n).toArray⟩
theorem quote_at (s:ByteArray) (w:World) (hs:s.size≤1000000000000) :
  Calls Tryd.prog 68 #[.string s] w fun e w'=>e=.returned (.string (quoteB s))∧Below w.heap.size w w':=quote_any s w hs
theorem itoa_at (n:Int) (h0:-9223372036854775808≤n) (h1:n≤9223372036854775807) (w:World) (hG:G w) :
  Calls Tryd.prog 69 #[.int .i64 n] w fun e w'=>e=.returned (.string (itoaB n))∧Below w.heap.size w w' :=
 (Tryd.strconv_Itoa n h0 h1 w hG).mono fun e w' ⟨he,k,os,hw⟩=>⟨he,by rw [hw];exact Lib.below_grow _ _ (Nat.le_refl _) _ _⟩

theorem chk_range {k n:Int} {s:ByteArray} (h:chkV k n s=0):(k=1∧-2147483648≤n∧n≤2147483647∧s.size=0) ∨ (k=2∧n=0∧s.size≤64):=by
 unfold chkV at h
 by_cases hc:(k=1∧-2147483648≤n∧n≤2147483647∧s.size=0) ∨ (k=2∧n=0∧s.size≤64)
 ·exact hc
 ·rw [if_neg hc] at h;omega
theorem chk_01 (k n:Int) (s:ByteArray):chkV k n s=0 ∨ chkV k n s=1:=by unfold chkV;split <;> simp

/-- How a value is written; nothing, if it is not in form. -/
def textB (k n:Int) (s:ByteArray):ByteArray:=if chkV k n s=0 then (if k=2 then quoteB s else itoaB n) else ⟨#[]⟩

set_option maxHeartbeats 400000 in
theorem text_bad (k n:Int) (s:ByteArray) (w:World) (h:chkV k n s=1) :
  Calls Tryd.prog 66 #[.agg #[.int .i64 k,.int .i64 n,.string s]] w fun e w'=>e=.returned (.tuple #[.string (textB k n s),.int .i64 (chkV k n s)])∧Below w.heap.size w w':=by
 have ht:textB k n s=⟨#[]⟩:=by unfold textB;rw [if_neg (by omega)]
 have hc:=check_any k n s
 rw [ht,h]
 rw [h] at hc
 clear ht h
 go_enter Tryd.func66,Tryd.ntmps66
 go_wp2_with (go_at_call 57;refine (hc _).mono ?_;rintro e w' ⟨rfl,hb⟩)
 go_ret2
 exact ⟨rfl,below_sub ((Below.refl _ _).alloc (Nat.le_refl _) _) hb⟩

theorem bcell {W w1:World} (hb:Below W.heap.size W w1):(∀ b o,b < W.heap.size→w1.cell? ⟨b,o,none⟩=W.cell? ⟨b,o,none⟩)∧(∀ b o,b < W.heap.size→w1.frozen? ⟨b,o,none⟩=W.frozen? ⟨b,o,none⟩) :=
 ⟨fun b o h=>hb.cell (p:=⟨b,o,none⟩) h,fun b o h=>hb.frozen (p:=⟨b,o,none⟩) h⟩

set_option maxHeartbeats 400000 in
theorem text_word (s:ByteArray) (w:World) (h:s.size≤64) :
  Calls Tryd.prog 66 #[.agg #[.int .i64 2,.int .i64 0,.string s]] w fun e w'=>e=.returned (.tuple #[.string (textB 2 0 s),.int .i64 (chkV 2 0 s)])∧Below w.heap.size w w':=by
 have h0:chkV 2 0 s=0:=chk_yes2 rfl rfl (by omega)
 have ht:textB 2 0 s=quoteB s:=by unfold textB;rw [if_pos h0,if_pos rfl]
 have hc:=check_any 2 0 s
 rw [ht,h0]
 rw [h0] at hc
 clear ht h0
 go_enter Tryd.func66,Tryd.ntmps66
 go_wp2_with (first
  | (go_at_call 57;refine (hc _).mono ?_;rintro e w1 ⟨rfl,hb⟩;obtain ⟨hcell,hfr⟩:=bcell hb;simp at hcell)
  | (go_at_call 68;refine (quote_at s _ (by omega)).mono ?_;rintro e w2 ⟨rfl,hb2⟩))
 go_ret2
 exact ⟨rfl,below_sub (below_sub ((Below.refl _ _).alloc (Nat.le_refl _) _) hb) hb2⟩

set_option maxHeartbeats 400000 in
theorem text_int (n:Int) (s:ByteArray) (w:World) (hG:G w) (h1:-2147483648≤n) (h2:n≤2147483647) (hs:s.size=0) :
  Calls Tryd.prog 66 #[.agg #[.int .i64 1,.int .i64 n,.string s]] w fun e w'=>e=.returned (.tuple #[.string (textB 1 n s),.int .i64 (chkV 1 n s)])∧Below w.heap.size w w':=by
 have h0:chkV 1 n s=0:=chk_yes1 rfl h1 h2 ((empty_iff s).2 hs)
 have ht:textB 1 n s=itoaB n:=by unfold textB;rw [if_pos h0,if_neg (by decide)]
 have hc:=check_any 1 n s
 rw [ht,h0]
 rw [h0] at hc
 clear ht h0 hs
 go_enter Tryd.func66,Tryd.ntmps66
 go_wp2_with (first
  | (go_at_call 57;refine (hc _).mono ?_;rintro e w1 ⟨rfl,hb⟩;obtain ⟨hcell,hfr⟩:=bcell hb;simp at hcell)
  | (go_at_call 69;refine (itoa_at n (by omega) (by omega) _ (by exact G_below (G_alloc hG _) hb)).mono ?_;rintro e w2 ⟨rfl,hb2⟩))
 go_ret2
 exact ⟨rfl,below_sub (below_sub ((Below.refl _ _).alloc (Nat.le_refl _) _) hb) hb2⟩

theorem text_any (k n:Int) (s:ByteArray) (w:World) (hG:G w) :
  Calls Tryd.prog 66 #[.agg #[.int .i64 k,.int .i64 n,.string s]] w fun e w'=>e=.returned (.tuple #[.string (textB k n s),.int .i64 (chkV k n s)])∧Below w.heap.size w w':=by
 rcases chk_01 k n s with h | h
 ·rcases chk_range h with ⟨rfl,h1,h2,h3⟩ | ⟨rfl,rfl,h3⟩
  ·exact text_int n s w hG h1 h2 h3
  ·exact text_word s w h3
 ·exact text_bad k n s w h

theorem toList_ne {a b:ByteArray} (h:a ≠ b):(a.toList == b.toList)=false:=by
 rw [beq_eq_false_iff_ne]
 intro h2
 rw [ByteArray.toList_eq,ByteArray.toList_eq] at h2
 exact h (WideShapes.bytes_inj h2)

end Go.Proofs.YtikhopiegaoacaaDoor

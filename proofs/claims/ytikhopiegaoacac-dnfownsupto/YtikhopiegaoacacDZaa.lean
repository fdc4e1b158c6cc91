/- What the leaf functions of package value and of its reference return, for every input. -/
import Derived.Test.YtikhopiegaoacacRows
import Derived.WalkKit
import Derived.WalkSpells
import Derived.WalkLawsBesides
import Derived.Deep.RegionHeld3
import Derived.Deep.QuietTactic
import Derived.BigQuiet
import Derived.Deep.AppendLies
namespace Go.Proofs.Ytikhopiegaoacac
open Go.RowKit

theorem ret_int {k:IntKind} {a b:Int} (h:a=b):Ending.returned (.int k a)=.returned (.int k b):=by rw [h]
theorem ret_bool {a b:Bool} (h:a=b):Ending.returned (.bool a)=.returned (.bool b):=by rw [h]
theorem hide {p:Prop} (h:p):Hid p:=h
theorem uh {p:Prop} (h:Hid p):p:=h.out
/-- In form? 0: yes, 1: no. -/
def chkV (k n:Int) (s:ByteArray):Int :=
 if (k=1∧-2147483648≤n∧n≤2147483647∧s.size=0) ∨ (k=2∧n=0∧s.size≤64) then 0 else 1
theorem size_toList (s:ByteArray):s.toList.length=s.size:=by rw [ByteArray.toList_eq];simp
theorem empty_iff (s:ByteArray):s.toList.isEmpty=true ↔ s.size=0:=by
 rw [List.isEmpty_iff,← List.length_eq_zero_iff,size_toList]
theorem chk_yes1 {k n:Int} {s:ByteArray} (h0:(k == 1)=true) (h1:-2147483648≤n) (h2:n≤2147483647) (h3:s.toList.isEmpty=true):chkV k n s=0:=by
 unfold chkV;rw [if_pos (Or.inl ⟨by simpa using h0,h1,h2,(empty_iff s).1 h3⟩)]
theorem chk_yes2 {k n:Int} {s:ByteArray} (h0:(k == 2)=true) (h1:n=0) (h2:(s.size:Int)≤64):chkV k n s=0:=by
 unfold chkV;rw [if_pos (Or.inr ⟨by simpa using h0,h1,by omega⟩)]
theorem chk_no1 {k n:Int} {s:ByteArray} (h0:(k == 1)=true) (h:¬ (-2147483648≤n∧n≤2147483647∧s.size=0)):chkV k n s=1:=by
 have:k=1:=by simpa using h0
 unfold chkV;rw [if_neg];rintro (⟨_,h'⟩ | ⟨h',_⟩);exact h h';omega
theorem chk_no2 {k n:Int} {s:ByteArray} (h0:(k == 1)=false) (h:¬ (k=2∧n=0∧s.size≤64)):chkV k n s=1:=by
 have:k ≠ 1:=by simpa using h0
 unfold chkV;rw [if_neg];rintro (⟨h',_⟩ | h');omega;exact h h'

set_option maxHeartbeats 400000 in
theorem check_any (k n:Int) (s:ByteArray) (w:World) :
  Calls Try.prog 55 #[.agg #[.int .i64 k,.int .i64 n,.string s]] w fun e w'=>e=.returned (.int .i64 (chkV k n s))∧Below w.heap.size w w':=by
 go_enter Try.func55,Try.ntmps55
 go_wp2
 all_goals (go_ret;refine ⟨ret_int ?_,(Below.refl _ _).alloc (Nat.le_refl _) _⟩)
 ·exact (chk_yes1 (by assumption) (by assumption) (by assumption) (by assumption)).symm
 ·exact (chk_no1 (by assumption) (by rw [← empty_iff];simp [*])).symm
 ·exact (chk_no1 (by assumption) (by omega)).symm
 ·exact (chk_no1 (by assumption) (by omega)).symm
 ·exact (chk_yes2 (by assumption) (by assumption) (by assumption)).symm
 ·exact (chk_no2 (by assumption) (by omega)).symm
 ·exact (chk_no2 (by assumption) (by omega)).symm
 ·rename_i h
  have:k ≠ 2:=by simpa using h
  exact (chk_no2 (by assumption) (by omega)).symm

theorem cells3 {w:World} {b:Nat} {x y z:Int} (h0:w.cell? ⟨b,0,none⟩=some (.int .i64 x)) (h1:w.cell? ⟨b,1,none⟩=some (.int .i64 y)) (h2:w.cell? ⟨b,2,none⟩=some (.int .i64 z)) :
  ∀ j,j < 3→w.cell? ⟨b,j,none⟩=some (.int .i64 ((fun j=>if j=0 then x else if j=1 then y else z) j)):=by
 intro j hj
 obtain rfl | rfl | rfl:j=0 ∨ j=1 ∨ j=2:=by omega
 ·simpa using h0
 ·simpa using h1
 ·simpa using h2

end Go.Proofs.Ytikhopiegaoacac
namespace Go.Proofs.Ytikhopiegaoacac
open Go.RowKit

/-- A byte as a cell. -/
def bv (b:UInt8):Value:=.int .u8 (b.toNat:Int)
end Go.Proofs.Ytikhopiegaoacac

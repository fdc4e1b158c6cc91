/- The law SchemaNames returns true at every text and every list of pairs. -/
import Derived.Test.YtojeihchkdkkgabFixed
namespace Go.Proofs.Ytojeihchkdkkgab
open Go.RowKit Go.Sort Go.Shelf

theorem eqlV_same (k n : Int) (s : ByteArray) (w : World) : (binOp .eql 45 (.agg #[.int .i64 k, .int .i64 n, .string s]) (.agg #[.int .i64 k, .int .i64 n, .string s])).run Try.prog w = .ok (.bool true) w := by
  have u3 := Try.underlying3
  have a3 := Try.isAgg3
  have z3 := Try.sizeOf3
  have u9 := Try.underlying9
  have a9 := Try.isAgg9
  have z9 := Try.sizeOf9
  have hS : Try.prog.underlying 45 = some (.struct (Try.prog.fieldsOf 45)) := by kernel_rfl
  have hp : Try.prog.stoodInHeld 45 = false := by kernel_rfl
  rw [run_eql_struct, show (10000 : Nat) = 9999 + 1 from rfl, run_equalIn_agg w 9999 45 _ _ hS hp]
  simp only [Program.fieldsOf, Try.underlying45]
  go_simp

set_option maxHeartbeats 1000000 in
theorem schemaNames_any (s : ByteArray) (p : Option Addr) (cap : Nat) (l : List (ByteArray × Int × Int × ByteArray)) (w : World) (hm : l.length ≤ 140737488355328) (hA : PrsOf w p l) :
    Calls Try.prog 4 #[.string s, .slice p l.length cap] w fun e w' => e = .returned (.bool true) ∧ Below w.heap.size w w' := by
  have hfx := fixed_any w
  have hg := fun (W : World) (hb : Below w.heap.size w W) => get_any p cap l s W hm (hA.below hb)
  have hr := fun (W : World) (hb : Below w.heap.size w W) => refGet_any p cap l s W hm (hA.below hb)
  have hn := fun (W : World) => name_any s W
  have hrn := fun (W : World) => refName_any s W
  have heq := fun (k n : Int) (t : ByteArray) (W : World) => eqlV_same k n t W
  generalize nameOk s = nk at hn hrn
  have hbb : (nk == nk) = true := by cases nk <;> rfl
  obtain ⟨k, n, t, r, hgv⟩ : ∃ k n t r, getV (getOf l s) = .tuple #[.agg #[.int .i64 k, .int .i64 n, .string t], .bool r] := by
    cases getOf l s with
    | none => exact ⟨_, _, _, _, rfl⟩
    | some y => exact ⟨_, _, _, _, rfl⟩
  rw [hgv] at hg hr
  have hrr : (r == r) = true := by cases r <;> rfl
  clear hgv hA
  go_enter Try.func4, Try.ntmps4
  go_wp2_with (first
    | (go_at_call 8; refine hfx.mono ?_; rintro e w1 ⟨rfl, b1⟩; have B1 := hide b1; clear b1)
    | (go_at_call 21; refine (hg _ (unhide B1)).mono ?_; rintro e w2 ⟨rfl, b2⟩; have B2 := hide (below_sub (unhide B1) b2); clear b2; have B2' := hide ((unhide B2).alloc (unhide B2).size (.cells #[.int .i64 k, .int .i64 n, .string t] 45)); have K2 := hide (Box.new w2 (k, n, t) 45))
    | (go_at_call 22; refine (hr _ (unhide B2')).mono ?_; rintro e w3 ⟨rfl, b3⟩; have B3 := hide (below_sub (unhide B2') b3); have K3 := hide ((unhide K2).below b3); clear b3; obtain ⟨c0, c1, c2, _, z3⟩ := unhide K3; simp only at c0 c1 c2)
    | (go_at_call 23; refine (hn _).mono ?_; rintro e w4 ⟨rfl, rfl⟩)
    | (go_at_call 24; refine (hrn _).mono ?_; rintro e w5 ⟨rfl, rfl⟩))
  go_ret
  exact ⟨rfl, (unhide B3).alloc (unhide B3).size _⟩
end Go.Proofs.Ytojeihchkdkkgab

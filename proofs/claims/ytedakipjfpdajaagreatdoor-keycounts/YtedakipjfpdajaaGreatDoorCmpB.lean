/- key.Compare, and what two lists share, as plain lists. -/
import Derived.Test.YtedakipjfpdajaaGreatDoorShared
import Derived.Lib.QuietBelow
import Derived.BigQuiet
namespace Go.Proofs.YtedakipjfpdajaaGreatDoor
open Go.RowKit Go.Sort Go.Shelf

theorem compareB (x y : Ky) (w : World) : Calls Tryz.prog 19 #[.agg #[.string x.attr, .int .i64 x.kind, .int .i64 x.level, .int .i64 x.num, .string x.word], .agg #[.string y.attr, .int .i64 y.kind, .int .i64 y.level, .int .i64 y.num, .string y.word]] w fun e w' => e = .returned (.int .i64 (cmpK x y)) ∧ Below w.heap.size w w' :=
  (compareK x y w).mono fun _ _ ⟨he, q, os, hw⟩ => ⟨he, by rw [hw]; exact below_grown_any (Below.refl _ _) (Nat.le_refl _) q os⟩
theorem mem_shared {a b : List Ky} {x : Ky} : x ∈ shared a b ↔ x ∈ a ∧ x ∈ b := by
  unfold shared inK
  rw [List.mem_filter, mem_ris]
  simp [mem_ris]
theorem str_shared (a b : List Ky) : Str (shared a b) := (str_ris a).sub List.filter_sublist
theorem shared_comm (a b : List Ky) : shared a b = shared b a := str_ext (str_shared a b) (str_shared b a) fun x => by rw [mem_shared, mem_shared, And.comm]
theorem shared_left (a b : List Ky) : shared (shared a b) a = shared a b := str_ext (str_shared _ _) (str_shared a b) fun x => by rw [mem_shared, mem_shared]; constructor <;> (rintro ⟨h1, h2⟩; simp_all)
theorem shared_right (a b : List Ky) : shared b (shared a b) = shared a b := str_ext (str_shared _ _) (str_shared a b) fun x => by rw [mem_shared, mem_shared]; constructor <;> (rintro ⟨h1, h2⟩; simp_all)
theorem shared_len (a b : List Ky) : (shared a b).length ≤ a.length := Nat.le_trans (List.length_filter_le _ _) (ris_len a)
end Go.Proofs.YtedakipjfpdajaaGreatDoor

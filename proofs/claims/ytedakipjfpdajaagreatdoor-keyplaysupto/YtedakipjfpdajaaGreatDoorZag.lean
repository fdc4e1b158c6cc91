/-
  DERIVED: THE SHELF's CONTRACTS AT THIS DUMP, IN PLAIN WORDS (tools/lay-plain.mjs out of 'TrydShelf.lean', which tools/lay-shelf.mjs wrote): THE SAME DECLARATIONS UNDER THE SAME NAMES: 'import', 'namespace', 'open', 'def', 'theorem' AND NOTHING ELSE: no command of the shelf's: FOR A HAND-IN. Each laying: the table of numbers ('.._ren') and one theorem, a field a fact of the dump's own or the kernel's comparison; each contract: ONE APPLICATION.
-/
import Derived.Shelf.Small.Bits
import Derived.Shelf.Strconv.Itoa0
import Derived.Test.YtedakipjfpdajaaGreatDoorProg
import Derived.Shelf.Spec.TrailingZeros
import Derived.Test.YtedakipjfpdajaaGreatDoorZaf
import Derived.Lib.BitFns
import Derived.Lib.TrailingZeros
namespace Go.Proofs
open Go.Shelf
def Tryz.lays128_ren : Go.Shelf.Ren := ⟨fun | 128 => 112 | n => n, fun | 51 => 129 | 3 => 3 | 4 => 4 | 46 => 89 | 5 => 5 | 9 => 9 | n => n, fun | n => n⟩
theorem Tryz.lays128 : Go.Proofs.Lays.n128 Tryz.prog Tryz.lays128_ren := {
  mixed := by kernel_rfl
  f128 := Tryz.func112.trans (congrArg some (by kernel_rfl))
  t3 := Tryz.underlying3
  a3 := Tryz.isAgg3
  z3 := Tryz.sizeOf3
  v3 := Tryz.zeroValue3
  t4 := Tryz.underlying4
  a4 := Tryz.isAgg4
  z4 := Tryz.sizeOf4
  v4 := Tryz.zeroValue4
  t5 := Tryz.underlying5
  a5 := Tryz.isAgg5
  z5 := Tryz.sizeOf5
  v5 := Tryz.zeroValue5
  t9 := Tryz.underlying9
  a9 := Tryz.isAgg9
  z9 := Tryz.sizeOf9
  v9 := Tryz.zeroValue9
  t46 := Tryz.underlying89
  a46 := Tryz.isAgg89
  z46 := Tryz.sizeOf89
  v46 := Tryz.zeroValue89
  t51 := Tryz.underlying129
  a51 := Tryz.isAgg129
  z51 := Tryz.sizeOf129
  v51 := Tryz.zeroValue129 }
/-- bits.Len32: "Len32 returns the minimum number of bits required to represent x; the result is 0 for x == 0.": IT RETURNS 'Lib.bitLen x'; the world is as it was. ('h0', 'h1': x is a uint32.) (LAID: no walk: one application.) -/
theorem Tryz.bits_Len32 (x : Int) (w : World) (h0 : 0 ≤ x) (h1 : x ≤ 4294967295) :
    Calls Tryz.prog 112 #[.int .u32 x] w fun e w' => e = .returned (.int .i64 (Lib.bitLen x.toNat)) ∧ w' = w := Any.bits_Len32 Tryz.lays128 x w h0 h1
def Tryz.lays125_ren : Go.Shelf.Ren := ⟨fun | 125 => 65 | 128 => 112 | 129 => 113 | n => n, fun | 46 => 89 | 3 => 3 | 51 => 129 | 53 => 131 | 4 => 4 | 5 => 5 | 9 => 9 | n => n, fun | n => n⟩
theorem Tryz.lays125 : Go.Proofs.Lays.n125 Tryz.prog Tryz.lays125_ren := {
  mixed := by kernel_rfl
  f125 := Tryz.func65.trans (congrArg some (by kernel_rfl))
  f128 := Tryz.func112.trans (congrArg some (by kernel_rfl))
  f129 := Tryz.func113.trans (congrArg some (by kernel_rfl))
  t3 := Tryz.underlying3
  a3 := Tryz.isAgg3
  z3 := Tryz.sizeOf3
  v3 := Tryz.zeroValue3
  t4 := Tryz.underlying4
  a4 := Tryz.isAgg4
  z4 := Tryz.sizeOf4
  v4 := Tryz.zeroValue4
  t5 := Tryz.underlying5
  a5 := Tryz.isAgg5
  z5 := Tryz.sizeOf5
  v5 := Tryz.zeroValue5
  t9 := Tryz.underlying9
  a9 := Tryz.isAgg9
  z9 := Tryz.sizeOf9
  v9 := Tryz.zeroValue9
  t46 := Tryz.underlying89
  a46 := Tryz.isAgg89
  z46 := Tryz.sizeOf89
  v46 := Tryz.zeroValue89
  t51 := Tryz.underlying129
  a51 := Tryz.isAgg129
  z51 := Tryz.sizeOf129
  v51 := Tryz.zeroValue129
  t53 := Tryz.underlying131
  a53 := Tryz.isAgg131
  z53 := Tryz.sizeOf131
  v53 := Tryz.zeroValue131 }
/-- bits.Len: "Len returns the minimum number of bits required to represent x; the result is 0 for x == 0.": IT RETURNS 'Lib.bitLen x'; the world is as it was. (A uint has 64 bits in the model.) ITS CALLEE bits.Len64 IS MET BY ITS OWN CONTRACT OFF THE SHELF (lay that first). (LAID: no walk: one application.) -/
theorem Tryz.bits_Len (x : Int) (w : World) (h0 : 0 ≤ x) (h1 : x ≤ 18446744073709551615) :
    Calls Tryz.prog 65 #[.int .u64 x] w fun e w' => e = .returned (.int .i64 (Lib.bitLen x.toNat)) ∧ w' = w := Any.bits_Len Tryz.lays125 x w h0 h1
def Tryz.lays129_ren : Go.Shelf.Ren := ⟨fun | 129 => 113 | n => n, fun | 53 => 131 | 3 => 3 | 4 => 4 | 46 => 89 | 5 => 5 | 9 => 9 | n => n, fun | n => n⟩
theorem Tryz.lays129 : Go.Proofs.Lays.n129 Tryz.prog Tryz.lays129_ren := {
  mixed := by kernel_rfl
  f129 := Tryz.func113.trans (congrArg some (by kernel_rfl))
  t3 := Tryz.underlying3
  a3 := Tryz.isAgg3
  z3 := Tryz.sizeOf3
  v3 := Tryz.zeroValue3
  t4 := Tryz.underlying4
  a4 := Tryz.isAgg4
  z4 := Tryz.sizeOf4
  v4 := Tryz.zeroValue4
  t5 := Tryz.underlying5
  a5 := Tryz.isAgg5
  z5 := Tryz.sizeOf5
  v5 := Tryz.zeroValue5
  t9 := Tryz.underlying9
  a9 := Tryz.isAgg9
  z9 := Tryz.sizeOf9
  v9 := Tryz.zeroValue9
  t46 := Tryz.underlying89
  a46 := Tryz.isAgg89
  z46 := Tryz.sizeOf89
  v46 := Tryz.zeroValue89
  t53 := Tryz.underlying131
  a53 := Tryz.isAgg131
  z53 := Tryz.sizeOf131
  v53 := Tryz.zeroValue131 }
/-- bits.Len64: "Len64 returns the minimum number of bits required to represent x; the result is 0 for x == 0.": IT RETURNS 'Lib.bitLen x'; the world is as it was. ('h0', 'h1': x is a uint64.) (LAID: no walk: one application.) -/
theorem Tryz.bits_Len64 (x : Int) (w : World) (h0 : 0 ≤ x) (h1 : x ≤ 18446744073709551615) :
    Calls Tryz.prog 113 #[.int .u64 x] w fun e w' => e = .returned (.int .i64 (Lib.bitLen x.toNat)) ∧ w' = w := Any.bits_Len64 Tryz.lays129 x w h0 h1
end Go.Proofs
namespace Go.Proofs
open Go.Shelf
def Tryz.lays7_ren : Go.Shelf.Ren := ⟨fun | 27 => 102 | 28 => 137 | 29 => 138 | n => n, fun | 22 => 131 | 25 => 89 | 27 => 129 | 53 => 157 | 54 => 158 | n => n, fun | 0 => 1 | 1 => 2 | n => n⟩
theorem Tryz.lays7 : Go.Proofs.Lays7.n27 Tryz.prog Tryz.lays7_ren := {
  mixed := by kernel_rfl
  f27 := Tryz.func102.trans (congrArg some (by kernel_rfl))
  f28 := Tryz.func137.trans (congrArg some (by kernel_rfl))
  f29 := Tryz.func138.trans (congrArg some (by kernel_rfl))
  t0 := Tryz.underlying0
  a0 := Tryz.isAgg0
  z0 := Tryz.sizeOf0
  v0 := Tryz.zeroValue0
  i0 := by kernel_rfl
  t3 := Tryz.underlying3
  a3 := Tryz.isAgg3
  z3 := Tryz.sizeOf3
  v3 := Tryz.zeroValue3
  i3 := by kernel_rfl
  t4 := Tryz.underlying4
  a4 := Tryz.isAgg4
  z4 := Tryz.sizeOf4
  v4 := Tryz.zeroValue4
  i4 := by kernel_rfl
  t5 := Tryz.underlying5
  a5 := Tryz.isAgg5
  z5 := Tryz.sizeOf5
  v5 := Tryz.zeroValue5
  i5 := by kernel_rfl
  t22 := Tryz.underlying131
  a22 := Tryz.isAgg131
  z22 := Tryz.sizeOf131
  v22 := Tryz.zeroValue131
  i22 := by kernel_rfl
  t25 := Tryz.underlying89
  a25 := Tryz.isAgg89
  z25 := Tryz.sizeOf89
  v25 := Tryz.zeroValue89
  i25 := by kernel_rfl
  t27 := Tryz.underlying129
  a27 := Tryz.isAgg129
  z27 := Tryz.sizeOf129
  v27 := Tryz.zeroValue129
  i27 := by kernel_rfl
  t53 := Tryz.underlying157
  a53 := Tryz.isAgg157
  z53 := Tryz.sizeOf157
  v53 := Tryz.zeroValue157
  i53 := by kernel_rfl
  t54 := Tryz.underlying158
  a54 := Tryz.isAgg158
  z54 := Tryz.sizeOf158
  g0 := by kernel_rfl
  g1 := by kernel_rfl }
theorem Tryz.bits_TrailingZeros (x : Nat) (hx : x < 18446744073709551616) (w : World) (hT : TabAt 2 Lib.deBruijn64tab w) :
    Calls Tryz.prog 102 #[.int .u64 x] w fun e w' => e = .returned (.int .i64 (Lib.ctz 64 x)) ∧ w' = w := Any7.bits_TrailingZeros Tryz.lays7 x hx w (fun _ => hT)
end Go.Proofs
namespace Go.Proofs.YtedakipjfpdajaaGreatDoor
open Go.RowKit Go.Sort Go.Shelf

/-- The table of math/bits in its variable. -/
def G (w : World) : Prop := TabAt 2 Lib.deBruijn64tab w ∧ 2 < w.heap.size
theorem G.below {w w' : World} {B : Nat} (h : G w) (hb : Below B w w') (hB : 2 < B) : G w' :=
  ⟨fun j hj => (hb.cell (p := ⟨2, j, none⟩) hB).trans (h.1 j hj), Nat.lt_of_lt_of_le h.2 hb.size⟩
theorem G.below' {w w' : World} (h : G w) (hb : Below w.heap.size w w') : G w' := h.below hb h.2
theorem letterA (w : World) : Calls Tryz.prog 126 #[.int .u8 97] w fun e w' => e = .returned (.bool true) ∧ w' = w := by
  go_enter Tryz.func126, Tryz.ntmps126
  go_wp2
  go_ret
  exact ⟨rfl, rfl⟩
set_option maxRecDepth 100000 in
theorem nameA (w : World) : Calls Tryz.prog 85 #[.string ⟨#[97]⟩] w fun e w' => e = .returned (.bool true) ∧ w' = w := by
  go_enter Tryz.func85, Tryz.ntmps85
  go_wp2_with (go_at_call 126; refine (letterA _).mono ?_; rintro e w1 ⟨rfl, hw⟩; obtain rfl := hw.symm)
  go_loopw [20] (fun i wr => (i = .int .i64 0 ∨ i = .int .i64 1) ∧ wr = w) (fun i _ => 1 - (intOf i).toNat)
  case atStart => exact ⟨Or.inl rfl, rfl⟩
  case round =>
    obtain ⟨h | h, rfl⟩ := hrel
    · subst h
      go_wp2_with (go_at_call 126; refine (letterA _).mono ?_; rintro e w1 ⟨rfl, rfl⟩)
      go_roundw
      case rel => exact ⟨Or.inr (by go_num), by first | rfl | trivial⟩
      case measure => simp [intOf]
    · subst h
      go_wp2
      go_ret
      exact ⟨rfl, rfl⟩
theorem numberN (x : Int) (w : World) : Calls Tryz.prog 128 #[.int .i64 x] w fun e w' => e = .returned (.agg #[.int .i64 1, .int .i64 x, .string ⟨#[]⟩]) ∧ Below w.heap.size w w' := by
  go_enter Tryz.func128, Tryz.ntmps128
  go_wp2
  refine bodyPost_ret (v := .agg #[.int .i64 1, .int .i64 x, .string ⟨#[]⟩]) (by simp [results, Tryz.results128, go_sem]) rfl ⟨rfl, (Below.refl _ _).alloc (Nat.le_refl _) _⟩
theorem checkN (x : Int) (h1 : -2147483648 ≤ x) (h2 : x ≤ 2147483647) (w : World) : Calls Tryz.prog 31 #[.agg #[.int .i64 1, .int .i64 x, .string ⟨#[]⟩]] w fun e w' => e = .returned (.int .i64 0) ∧ Below w.heap.size w w' := by
  go_enter Tryz.func31, Tryz.ntmps31
  go_wp2
  go_ret
  exact ⟨rfl, (Below.refl _ _).alloc (Nat.le_refl _) _⟩
theorem checkW (w : World) : Calls Tryz.prog 31 #[.agg #[.int .i64 2, .int .i64 0, .string ⟨#[97, 98]⟩]] w fun e w' => e = .returned (.int .i64 0) ∧ Below w.heap.size w w' := by
  go_enter Tryz.func31, Tryz.ntmps31
  go_wp2
  go_ret
  exact ⟨rfl, (Below.refl _ _).alloc (Nat.le_refl _) _⟩
theorem isNumN (x : Int) (h1 : -2147483648 ≤ x) (h2 : x ≤ 2147483647) (w : World) : Calls Tryz.prog 87 #[.int .i64 x] w fun e w' => e = .returned (.bool true) ∧ Below w.heap.size w w' := by
  go_enter Tryz.func87, Tryz.ntmps87
  go_wp2_with (first
    | (go_at_call 128; refine (numberN _ _).mono ?_; rintro e w1 ⟨rfl, b1⟩; have B1 := hide b1; clear b1)
    | (go_at_call 31; refine (checkN x h1 h2 _).mono ?_; rintro e w2 ⟨rfl, b2⟩; have B2 := hide (below_sub (unhide B1) b2); clear b2))
  go_ret
  exact ⟨rfl, unhide B2⟩
theorem betweenA (w : World) : Calls Tryz.prog 60 #[.string ⟨#[97]⟩, .int .i64 0, .int .i64 7] w fun e w' => e = .returned (.tuple #[.agg #[.int .i64 3, .string ⟨#[97]⟩, .slice none 0 0, .slice none 0 0, .int .i64 0, .int .i64 7], .bool true]) ∧ Below w.heap.size w w' := by
  go_enter Tryz.func60, Tryz.ntmps60
  go_wp2
  refine bodyPost_ret (v := .tuple #[.agg #[.int .i64 3, .string ⟨#[97]⟩, .slice none 0 0, .slice none 0 0, .int .i64 0, .int .i64 7], .bool true]) (by simp [results, Tryz.results60, go_sem]) rfl ⟨rfl, (Below.refl _ _).alloc (Nat.le_refl _) _⟩
theorem placeN (x : Int) (p : Nat) (h : x + 2147483648 = p) (hp : p ≤ 8589934592) (w : World) :
    Calls Tryz.prog 103 #[.int .i64 x] w fun e w' => e = .returned (.int .i64 p) ∧ w' = w := by
  have e1 : x - -2147483648 = (p : Int) := by omega
  have e2 : IntKind.i64.wrap (p : Int) = p := by rw [IntKind.wrap_i64]; omega
  go_enter Tryz.func103, Tryz.ntmps103
  go_wp2
  go_ret
  exact ⟨by simp_all <;> omega, rfl⟩
set_option maxRecDepth 100000 in
theorem highestA (w : World) (hG : G w) : Calls Tryz.prog 62 #[.int .i64 0, .int .i64 7] w fun e w' => e = .returned (.int .i64 3) ∧ w' = w := by
  have hpl := placeN 0 2147483648 (by decide) (by decide)
  have htz : ∀ w, TabAt 2 Lib.deBruijn64tab w → Calls Tryz.prog 102 #[.int .u64 2147483648] w fun e w' => e = .returned (.int .i64 31) ∧ w' = w := fun w hT => by
    have := Tryz.bits_TrailingZeros 2147483648 (by decide) w hT
    rwa [show Lib.ctz 64 2147483648 = 31 by decide +kernel] at this
  have hle : ∀ w, Calls Tryz.prog 65 #[.int .u64 8] w fun e w' => e = .returned (.int .i64 4) ∧ w' = w := fun w => by
    have := Tryz.bits_Len 8 w (by decide) (by decide)
    rwa [show Lib.bitLen (8 : Int).toNat = 4 by decide +kernel] at this
  have HG := hide hG
  clear hG
  go_enter Tryz.func62, Tryz.ntmps62
  go_wp2_with (first
    | (go_at_call 103; refine (hpl _).mono ?_; rintro e w1 ⟨rfl, rfl⟩)
    | (go_at_call 102; refine (htz _ (unhide HG).1).mono ?_; rintro e w1 ⟨rfl, rfl⟩)
    | (go_at_call 65; refine (hle _).mono ?_; rintro e w1 ⟨rfl, rfl⟩))
  go_ret
  exact ⟨rfl, rfl⟩
end Go.Proofs.YtedakipjfpdajaaGreatDoor
namespace Go.Proofs.YtedakipjfpdajaaGreatDoor

theorem pow_dvd_of (k l p : Nat) (h : k ≤ l) (hd : 2 ^ l ∣ p) : 2 ^ k ∣ p := Nat.dvd_trans (Nat.pow_dvd_pow 2 h) hd

theorem ctzFrom_dvd : ∀ (f p : Nat), 2 ^ Lib.ctzFrom f p ∣ p
  | 0, p => by simp [Lib.ctzFrom]
  | f + 1, p => by
    unfold Lib.ctzFrom
    split
    · simp
    · obtain ⟨m, hm⟩ := ctzFrom_dvd f (p / 2)
      refine ⟨m, ?_⟩
      rw [Nat.add_comm 1, Nat.pow_succ, Nat.mul_assoc, Nat.mul_comm 2, ← Nat.mul_assoc, ← hm]
      omega

theorem ctz_dvd (p : Nat) : 2 ^ Lib.ctz 64 p ∣ p := by
  unfold Lib.ctz
  split
  · rename_i h; subst h; exact Nat.dvd_zero _
  · exact ctzFrom_dvd 64 p

theorem ctz_not (p : Nat) (h0 : p ≠ 0) (h : p < 2 ^ 64) : ¬ 2 ^ (Lib.ctz 64 p + 1) ∣ p := by
  obtain ⟨m, hm, _⟩ := Lib.ctzFrom_spec 64 p (by omega) h
  have e : Lib.ctz 64 p = Lib.ctzFrom 64 p := by simp [Lib.ctz, h0]
  rw [e]
  rintro ⟨q, hq⟩
  have hp : 0 < 2 ^ Lib.ctzFrom 64 p := Nat.two_pow_pos _
  generalize hc : Lib.ctzFrom 64 p = c at *
  rw [Nat.pow_succ, Nat.mul_assoc] at hq
  have := Nat.eq_of_mul_eq_mul_left hp (hm.symm.trans hq)
  omega

theorem bitLenAux_up : ∀ (f x : Nat), x < 2 ^ f → x < 2 ^ Lib.bitLenAux f x
  | 0, x, h => by simpa [Lib.bitLenAux] using h
  | f + 1, x, h => by
    unfold Lib.bitLenAux
    split
    · rename_i e; subst e; simp
    · have := bitLenAux_up f (x / 2) (by rw [Nat.pow_succ] at h; omega)
      rw [Nat.add_comm 1, Nat.pow_succ]
      omega

theorem bitLen_up (x : Nat) (h : x < 2 ^ 64) : x < 2 ^ Lib.bitLen x := bitLenAux_up 64 x h

theorem bitLenAux_lo : ∀ (f x : Nat), 0 < x → x < 2 ^ f → 0 < Lib.bitLenAux f x ∧ 2 ^ (Lib.bitLenAux f x - 1) ≤ x
  | 0, x, h0, h => by simp at h; omega
  | f + 1, x, h0, h => by
    unfold Lib.bitLenAux
    rw [if_neg (by omega : ¬ x = 0)]
    by_cases h1 : x / 2 = 0
    · have : x = 1 := by omega
      subst this
      cases f <;> simp [Lib.bitLenAux]
    · obtain ⟨i, j⟩ := bitLenAux_lo f (x / 2) (by omega) (by rw [Nat.pow_succ] at h; omega)
      refine ⟨by omega, ?_⟩
      obtain ⟨n, hn⟩ : ∃ n, Lib.bitLenAux f (x / 2) = n + 1 := ⟨Lib.bitLenAux f (x / 2) - 1, by omega⟩
      rw [hn] at j ⊢
      have e : 1 + (n + 1) - 1 = n + 1 := by omega
      have e2 : n + 1 - 1 = n := by omega
      rw [e2] at j
      rw [e, Nat.pow_succ]
      omega

theorem bitLen_lo (x : Nat) (h0 : 0 < x) (h : x < 2 ^ 64) : 0 < Lib.bitLen x ∧ 2 ^ (Lib.bitLen x - 1) ≤ x := bitLenAux_lo 64 x h0 h

/-- The level of the span that a cover takes at the place p with room r. -/
def lv (p r : Nat) : Nat := min (Lib.ctz 64 p) (Lib.bitLen r - 1)

theorem lv_dvd (p r : Nat) : 2 ^ lv p r ∣ p := pow_dvd_of _ _ _ (Nat.min_le_left _ _) (ctz_dvd p)

theorem lv_le (p r : Nat) (h0 : 0 < r) (h : r < 2 ^ 64) : 2 ^ lv p r ≤ r :=
  Nat.le_trans (Nat.pow_le_pow_right (by decide) (Nat.min_le_right _ _)) (bitLen_lo r h0 h).2

theorem lv_max (p r : Nat) (hp : p < 2 ^ 64) (h0 : 0 < r) (h : r < 2 ^ 64) : ¬ (2 ^ (lv p r + 1) ∣ p ∧ 2 ^ (lv p r + 1) ≤ r) := by
  rintro ⟨hd, hr⟩
  have hb := bitLen_up r h
  have hl := (bitLen_lo r h0 h).1
  unfold lv at hd hr
  by_cases hc : Lib.ctz 64 p ≤ Lib.bitLen r - 1
  · rw [Nat.min_eq_left hc] at hd hr
    by_cases hz : p = 0
    · have e : Lib.ctz 64 p = 64 := by simp [Lib.ctz, hz]
      rw [e] at hr
      have : (2 : Nat) ^ 64 ≤ 2 ^ (64 + 1) := Nat.pow_le_pow_right (by decide) (by decide)
      omega
    · exact ctz_not p hz hp hd
  · rw [Nat.min_eq_right (by omega)] at hr
    have e : Lib.bitLen r - 1 + 1 = Lib.bitLen r := by omega
    rw [e] at hr
    omega

theorem pow_le_of (k l r : Nat) (h : k ≤ l) (hr : 2 ^ l ≤ r) : 2 ^ k ≤ r := Nat.le_trans (Nat.pow_le_pow_right (by decide) h) hr

theorem lv_eq (p r l : Nat) (hp : p < 2 ^ 64) (h0 : 0 < r) (h : r < 2 ^ 64) (hd : 2 ^ l ∣ p) (hr : 2 ^ l ≤ r) (hn : ¬ (2 ^ (l + 1) ∣ p ∧ 2 ^ (l + 1) ≤ r)) : lv p r = l := by
  have a := lv_dvd p r
  have b := lv_le p r h0 h
  have c := lv_max p r hp h0 h
  rcases Nat.lt_trichotomy (lv p r) l with g | g | g
  · exact absurd ⟨pow_dvd_of (lv p r + 1) l p (by omega) hd, pow_le_of (lv p r + 1) l r (by omega) hr⟩ c
  · exact g
  · exact absurd ⟨pow_dvd_of (l + 1) (lv p r) p (by omega) a, pow_le_of (l + 1) (lv p r) r (by omega) b⟩ hn

/-- The spans (level, index) of the r places from p on. -/
def cov : Nat → Nat → Nat → List (Nat × Nat)
  | 0, _, _ => []
  | f + 1, p, r => if r = 0 then [] else (lv p r, p / 2 ^ lv p r) :: cov f (p + 2 ^ lv p r) (r - 2 ^ lv p r)

theorem cov_fuel : ∀ (f g p r : Nat), r ≤ f → r ≤ g → cov f p r = cov g p r
  | 0, g, p, r, h, _ => by
    have : r = 0 := by omega
    subst this
    cases g <;> simp [cov]
  | f + 1, 0, p, r, _, h => by
    have : r = 0 := by omega
    subst this
    simp [cov]
  | f + 1, g + 1, p, r, h, h' => by
    simp only [cov]
    split
    · rfl
    · have := Nat.two_pow_pos (lv p r)
      rw [cov_fuel f g _ _ (by omega) (by omega)]

def cover (p r : Nat) : List (Nat × Nat) := cov r p r

theorem cover_zero (p : Nat) : cover p 0 = [] := rfl

theorem cover_step (p r : Nat) (h : 0 < r) : cover p r = (lv p r, p / 2 ^ lv p r) :: cover (p + 2 ^ lv p r) (r - 2 ^ lv p r) := by
  obtain ⟨n, rfl⟩ : ∃ n, r = n + 1 := ⟨r - 1, by omega⟩
  show cov (n + 1) p (n + 1) = _
  have := Nat.two_pow_pos (lv p (n + 1))
  rw [cov, if_neg (by omega)]
  congr 1
  exact cov_fuel _ _ _ _ (by omega) (by omega)

/-- A span parted in the middle: a cover that passes it is the two halves' covers. -/
theorem cover_split (L a m : Nat) (ha : 2 ^ (L + 1) ∣ a) (hm : m = a + 2 ^ L) (hb : m + 2 ^ L ≤ 2 ^ 32) (r2 : Nat) (h2 : 0 < r2) (h2' : r2 ≤ 2 ^ L) :
    ∀ (r1 p : Nat), a ≤ p → p + r1 = m → 0 < r1 → ¬ (p = a ∧ r2 = 2 ^ L) → cover p (r1 + r2) = cover p r1 ++ cover m r2 := by
  intro r1
  induction r1 using Nat.strongRecOn with
  | _ r1 ih =>
    intro p hp hr h1 hf
    have hL := Nat.two_pow_pos L
    have hb' : m + 2 ^ L ≤ 4294967296 := hb
    have e64 : (2 : Nat) ^ 64 = 18446744073709551616 := by decide
    have el : lv p (r1 + r2) = lv p r1 := by
      refine lv_eq p (r1 + r2) (lv p r1) (by omega) (by omega) (by omega) (lv_dvd p r1) (Nat.le_trans (lv_le p r1 h1 (by omega)) (by omega)) ?_
      rintro ⟨hd, hr'⟩
      by_cases hl : lv p r1 + 1 ≤ L
      · have hdm : 2 ^ (lv p r1 + 1) ∣ m := by
          rw [hm]
          exact Nat.dvd_add (pow_dvd_of _ _ _ (by omega) ha) (Nat.pow_dvd_pow 2 hl)
        have hdr : 2 ^ (lv p r1 + 1) ∣ r1 := by
          have e : m - p = r1 := by omega
          have g := Nat.dvd_sub hdm hd
          rwa [e] at g
        exact lv_max p r1 (by omega) h1 (by omega) ⟨hd, Nat.le_of_dvd h1 hdr⟩
      · have hdp : 2 ^ (L + 1) ∣ p := pow_dvd_of _ _ _ (by omega) hd
        have hle : 2 ^ (L + 1) ≤ r1 + r2 := pow_le_of _ _ _ (by omega) hr'
        rw [Nat.pow_succ] at hle
        exact hf ⟨by omega, by omega⟩
    rw [cover_step p (r1 + r2) (by omega), cover_step p r1 h1, el]
    have hl := lv_le p r1 h1 (by omega)
    have hq := Nat.two_pow_pos (lv p r1)
    simp only [List.cons_append]
    congr 1
    by_cases hz : r1 - 2 ^ lv p r1 = 0
    · have e1 : r1 + r2 - 2 ^ lv p r1 = r2 := by omega
      have e2 : p + 2 ^ lv p r1 = m := by omega
      rw [hz, e1, e2, cover_zero, List.nil_append]
    · have e1 : r1 + r2 - 2 ^ lv p r1 = (r1 - 2 ^ lv p r1) + r2 := by omega
      rw [e1]
      exact ih _ (by omega) _ (by omega) (by omega) (by omega) (by omega)

theorem cover_whole (L a : Nat) (ha : 2 ^ L ∣ a) (hb : a + 2 ^ L ≤ 2 ^ 32) : cover a (2 ^ L) = [(L, a / 2 ^ L)] := by
  have hL := Nat.two_pow_pos L
  have e64 : (2 : Nat) ^ 64 = 18446744073709551616 := by decide
  have hb' : a + 2 ^ L ≤ 4294967296 := hb
  have e : lv a (2 ^ L) = L := by
    refine lv_eq a (2 ^ L) L (by omega) hL (by omega) ha (Nat.le_refl _) ?_
    rintro ⟨_, h⟩
    rw [Nat.pow_succ] at h
    omega
  rw [cover_step _ _ hL, e]
  simp [cover_zero]

/-- The greatest spans within a span that lie from lo to hi (as places). -/
def wi : Nat → Nat → Nat → Nat → List (Nat × Nat)
  | 0, I, lo, hi => if I < lo ∨ hi < I then [] else [(0, I)]
  | L + 1, I, lo, hi =>
    if I * 2 ^ (L + 1) + 2 ^ (L + 1) ≤ lo ∨ hi < I * 2 ^ (L + 1) then []
    else if lo ≤ I * 2 ^ (L + 1) ∧ I * 2 ^ (L + 1) + 2 ^ (L + 1) ≤ hi + 1 then [(L + 1, I)]
    else wi L (2 * I) lo hi ++ wi L (2 * I + 1) lo hi

theorem cover_nat (p : Nat) (hp : p < 2 ^ 32) : cover p 1 = [(0, p)] := by
  have e32 : (2 : Nat) ^ 32 = 4294967296 := by decide
  have := cover_whole 0 p (Nat.one_dvd p) (by rw [e32]; rw [e32] at hp; simp; omega)
  simpa using this

theorem wi_cover (lo hi : Nat) (hlh : lo ≤ hi) : ∀ (L I : Nat), I * 2 ^ L + 2 ^ L ≤ 2 ^ 32 →
    wi L I lo hi = cover (max (I * 2 ^ L) lo) (min (I * 2 ^ L + 2 ^ L) (hi + 1) - max (I * 2 ^ L) lo)
  | 0, I, h => by
    have e32 : (2 : Nat) ^ 32 = 4294967296 := by decide
    simp only [wi, Nat.pow_zero, Nat.mul_one] at *
    split
    · have e : min (I + 1) (hi + 1) - max I lo = 0 := by omega
      rw [e, cover_zero]
    · have e : min (I + 1) (hi + 1) - max I lo = 1 := by omega
      have e2 : max I lo = I := by omega
      rw [e, e2, cover_nat I (by omega)]
  | L + 1, I, h => by
    have hL := Nat.two_pow_pos L
    have e1 : 2 ^ (L + 1) = 2 ^ L + 2 ^ L := by rw [Nat.pow_succ]; omega
    have i1 : I * 2 ^ (L + 1) = 2 * I * 2 ^ L := by rw [Nat.pow_succ, Nat.mul_comm (2 ^ L) 2, ← Nat.mul_assoc, Nat.mul_comm I 2]
    have i2 : (2 * I + 1) * 2 ^ L = I * 2 ^ (L + 1) + 2 ^ L := by rw [Nat.add_mul, Nat.one_mul, i1]
    have hd : 2 ^ (L + 1) ∣ I * 2 ^ (L + 1) := Nat.dvd_mul_left _ _
    simp only [wi]
    generalize hA : I * 2 ^ (L + 1) = A at *
    have w1 := wi_cover lo hi hlh L (2 * I) (by omega)
    have w2 := wi_cover lo hi hlh L (2 * I + 1) (by omega)
    rw [← i1] at w1
    rw [i2] at w2
    split
    · rename_i g
      have e : min (A + 2 ^ (L + 1)) (hi + 1) - max A lo = 0 := by omega
      rw [e, cover_zero]
    · rename_i g
      split
      · rename_i g2
        have e : min (A + 2 ^ (L + 1)) (hi + 1) - max A lo = 2 ^ (L + 1) := by omega
        have e2 : max A lo = A := by omega
        rw [e, e2, cover_whole (L + 1) A hd h, ← hA, Nat.mul_div_cancel _ (Nat.two_pow_pos _)]
      · rename_i g2
        rw [w1, w2]
        by_cases c1 : hi + 1 ≤ A + 2 ^ L
        · have e : min (A + 2 ^ L + 2 ^ L) (hi + 1) - max (A + 2 ^ L) lo = 0 := by omega
          have e2 : min (A + 2 ^ L) (hi + 1) = min (A + 2 ^ (L + 1)) (hi + 1) := by omega
          rw [e, cover_zero, List.append_nil, e2]
        · by_cases c2 : A + 2 ^ L ≤ lo
          · have e : min (A + 2 ^ L) (hi + 1) - max A lo = 0 := by omega
            have e2 : max (A + 2 ^ L) lo = max A lo := by omega
            have e3 : A + 2 ^ L + 2 ^ L = A + 2 ^ (L + 1) := by omega
            rw [e, cover_zero, List.nil_append, e2, e3]
          · have e2 : max (A + 2 ^ L) lo = A + 2 ^ L := by omega
            have e3 : A + 2 ^ L + 2 ^ L = A + 2 ^ (L + 1) := by omega
            have e4 : min (A + 2 ^ L) (hi + 1) = A + 2 ^ L := by omega
            have e5 : min (A + 2 ^ (L + 1)) (hi + 1) - max A lo = (A + 2 ^ L - max A lo) + (min (A + 2 ^ (L + 1)) (hi + 1) - (A + 2 ^ L)) := by omega
            rw [e2, e3, e4, e5]
            exact (cover_split L A (A + 2 ^ L) hd rfl (by omega) _ (by omega) (by omega) _ _ (by omega) (by omega) (by omega) (by omega)).symm

/-- At most k spans where the place is a multiple of 2^k and the room is less. -/
theorem cover_down : ∀ (k p r : Nat), 2 ^ k ∣ p → r < 2 ^ k → p + r ≤ 2 ^ 32 → (cover p r).length ≤ k := by
  intro k
  induction k using Nat.strongRecOn with
  | _ k ih =>
    intro p r hd hr hb
    have e32 : (2 : Nat) ^ 32 = 4294967296 := by decide
    have e64 : (2 : Nat) ^ 64 = 18446744073709551616 := by decide
    by_cases h0 : r = 0
    · subst h0; simp [cover_zero]
    · have hle := lv_le p r (by omega) (by omega)
      have hmx := lv_max p r (by omega) (by omega) (by omega)
      have hdv := lv_dvd p r
      rw [cover_step p r (by omega)]
      generalize hl : lv p r = l at *
      have hlk : l < k := by
        apply Nat.lt_of_not_le
        intro hkl
        have : 2 ^ k ≤ 2 ^ l := Nat.pow_le_pow_right (by decide) hkl
        omega
      have hr2 : r < 2 ^ (l + 1) := by
        apply Nat.lt_of_not_le
        intro g
        exact hmx ⟨pow_dvd_of _ _ _ (by omega) hd, g⟩
      rw [Nat.pow_succ] at hr2
      have := ih l hlk (p + 2 ^ l) (r - 2 ^ l) (Nat.dvd_add hdv (Nat.dvd_refl _)) (by omega) (by omega)
      simp only [List.length_cons]
      omega

theorem cover_up : ∀ (j k p r : Nat), j + k = 31 → 0 < p → 2 ^ k ∣ p → p + r ≤ 2 ^ 32 → (cover p r).length ≤ j + 31
  | 0, k, p, r, hj, h0, hd, hb => by
    have e32 : (2 : Nat) ^ 32 = 4294967296 := by decide
    have ek : k = 31 := by omega
    subst ek
    have e31 : (2 : Nat) ^ 31 = 2147483648 := by decide
    obtain ⟨q, hq⟩ := hd
    rw [e31] at hq
    by_cases hr : r < 2 ^ 31
    · have := cover_down 31 p r ⟨q, by rw [e31]; exact hq⟩ hr hb
      omega
    · rw [e31] at hr
      have ep : p = 2147483648 := by omega
      have er : r = 2 ^ 31 := by rw [e31]; omega
      rw [er, cover_whole 31 p (by rw [e31]; exact ⟨q, hq⟩) (by omega)]
      simp
  | j + 1, k, p, r, hj, h0, hd, hb => by
    have e32 : (2 : Nat) ^ 32 = 4294967296 := by decide
    have e64 : (2 : Nat) ^ 64 = 18446744073709551616 := by decide
    by_cases h1 : 2 ^ (k + 1) ∣ p
    · have := cover_up j (k + 1) p r (by omega) h0 h1 hb
      omega
    · by_cases hr : r < 2 ^ k
      · have := cover_down k p r hd hr hb
        omega
      · have hk := Nat.two_pow_pos k
        have el := lv_eq p r k (by omega) (by omega) (by omega) hd (by omega) (fun g => h1 g.1)
        rw [cover_step p r (by omega), el]
        have h2 : 2 ^ (k + 1) ∣ p + 2 ^ k := by
          obtain ⟨q, hq⟩ := hd
          have hodd : q % 2 = 1 := by
            apply Classical.byContradiction
            intro hn
            exact h1 ⟨q / 2, by rw [Nat.pow_succ, Nat.mul_assoc, hq]; congr 1; omega⟩
          exact ⟨q / 2 + 1, by
            have e : q = 2 * (q / 2) + 1 := by omega
            rw [hq, Nat.pow_succ, Nat.mul_assoc]
            have : 2 ^ k * q + 2 ^ k = 2 ^ k * (q + 1) := by rw [Nat.mul_add, Nat.mul_one]
            rw [this]
            congr 1
            omega⟩
        have := cover_up j (k + 1) (p + 2 ^ k) (r - 2 ^ k) (by omega) (by omega) h2 (by omega)
        simp only [List.length_cons]
        omega

theorem cover_len (p r : Nat) (hb : p + r ≤ 2 ^ 32) : (cover p r).length ≤ 62 := by
  have e32 : (2 : Nat) ^ 32 = 4294967296 := by decide
  by_cases h0 : p = 0
  · have := cover_down 33 p r (by rw [h0]; exact Nat.dvd_zero _) (by have : (2:Nat)^33 = 8589934592 := by decide
                                                                     omega) hb
    omega
  · exact cover_up 31 0 p r (by omega) (by omega) (Nat.one_dvd p) hb

end Go.Proofs.YtedakipjfpdajaaGreatDoor

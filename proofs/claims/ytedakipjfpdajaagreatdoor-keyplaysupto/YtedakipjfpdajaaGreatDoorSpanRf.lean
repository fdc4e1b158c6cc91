/- The document's Cover and Path. -/
import Derived.Test.YtedakipjfpdajaaGreatDoorSpanA
import Derived.Lib.QuietBelow
import Derived.BigQuiet
namespace Go.Proofs.YtedakipjfpdajaaGreatDoor
open Go.RowKit Go.Sort Go.Shelf

/-- A span: level l, index i. -/
def okN (l i : Nat) : Prop := ∃ k, l + k = 32 ∧ i < 2 ^ k
def okS (L I : Int) : Prop := ∃ l i : Nat, L = (l : Int) ∧ I = (i : Int) ∧ okN l i
def loS (l i : Nat) : Int := -2147483648 + ((i * 2 ^ l : Nat) : Int)
def hiS (l i : Nat) : Int := -2147483648 + ((i * 2 ^ l : Nat) : Int) + ((2 ^ l : Nat) : Int) - 1

theorem okN_bound {l i : Nat} (h : okN l i) : i * 2 ^ l + 2 ^ l ≤ 4294967296 ∧ 0 < 2 ^ l ∧ l ≤ 32 := by
  obtain ⟨k, hk, hi⟩ := h
  have h2 : (i + 1) * 2 ^ l ≤ 2 ^ k * 2 ^ l := Nat.mul_le_mul_right _ hi
  rw [← Nat.pow_add, show k + l = 32 by omega, Nat.add_mul, Nat.one_mul] at h2
  exact ⟨h2, Nat.two_pow_pos _, by omega⟩

theorem not_okS {L I : Int} (hL : 0 ≤ L) (hL2 : L ≤ 32) (hI : 0 ≤ I) (h : ¬ okS L I) : ∃ l k : Nat, L = (l : Int) ∧ l + k = 32 ∧ (2 : Int) ^ k ≤ I := by
  refine ⟨L.toNat, 32 - L.toNat, by omega, by omega, ?_⟩
  apply Classical.byContradiction
  intro g
  refine h ⟨L.toNat, I.toNat, by omega, by omega, 32 - L.toNat, by omega, ?_⟩
  have : (I.toNat : Int) < ((2 ^ (32 - L.toNat) : Nat) : Int) := by
    rw [Int.toNat_of_nonneg hI]
    rw [Int.natCast_pow]
    exact Int.not_le.1 g
  exact Int.ofNat_lt.1 this

theorem shl_q (l i : Nat) (h : okN l i) : IntKind.i64.wrap ((i : Int) * 2 ^ l) = ((i * 2 ^ l : Nat) : Int) := by
  have := okN_bound h
  rw [show (i : Int) * 2 ^ l = ((i * 2 ^ l : Nat) : Int) by rw [Int.natCast_mul, Int.natCast_pow]; rfl, IntKind.wrap_i64]
  omega
theorem box_cells {w w1 : World} {a b : Value} (hb : Below (w.alloc (.cells #[a, b] 58)).heap.size (w.alloc (.cells #[a, b] 58)) w1) :
    w1.cell? ⟨w.heap.size, 0, none⟩ = some a ∧ w1.cell? ⟨w.heap.size, 1, none⟩ = some b ∧ Below w.heap.size w w1 ∧ w.heap.size < w1.heap.size :=
  ⟨(hb.cell (by simp)).trans (by simp), (hb.cell (by simp)).trans (by simp), ((Below.refl _ _).alloc (Nat.le_refl _) _).trans (hb.mono (by simp)), Nat.lt_of_lt_of_le (by simp) hb.size⟩
/-- A box of two cells of the call's own that may be written. -/
theorem box_two {w w1 : World} {a b c d : Value} (hb : Below ((w.alloc (.cells #[a, b] 58)).alloc (.cells #[c, d] 58)).heap.size ((w.alloc (.cells #[a, b] 58)).alloc (.cells #[c, d] 58)) w1) :
    w1.cell? ⟨w.heap.size, 0, none⟩ = some a ∧ w1.cell? ⟨w.heap.size, 1, none⟩ = some b ∧ w1.cell? ⟨w.heap.size + 1, 0, none⟩ = some c ∧ w1.cell? ⟨w.heap.size + 1, 1, none⟩ = some d ∧ (∀ o, w1.frozen? ⟨w.heap.size + 1, o, none⟩ = false) ∧ Below w.heap.size w w1 ∧ w.heap.size + 1 < w1.heap.size :=
  ⟨(hb.cell (by simp <;> omega)).trans (by simp), (hb.cell (by simp <;> omega)).trans (by simp), (hb.cell (by simp)).trans (by simp), (hb.cell (by simp)).trans (by simp), fun o => (hb.frozen (by simp)).trans (by simp), (((Below.refl _ _).alloc (Nat.le_refl _) _).alloc (by simp) _).trans (hb.mono (by simp <;> omega)), Nat.lt_of_lt_of_le (by simp) hb.size⟩

theorem rcheck_good (l i : Nat) (h : okN l i) (w : World) :
    Calls Tryz.prog 123 #[.agg #[.int .i64 l, .int .i64 i]] w fun e w' => e = .returned (.bool true) ∧ Below w.heap.size w w' := by
  obtain ⟨k, hk, hi⟩ := h
  have e1 : IntKind.i64.wrap (32 - (l : Int)) = (k : Int) := by have : (32 : Int) - (l : Int) = k := (by omega); rw [this, IntKind.wrap_i64]; omega
  have e2 := shl_t k (by omega)
  have e3 : (i : Int) < ((2 ^ k : Nat) : Int) := by exact_mod_cast hi
  obtain ⟨T, hT⟩ : ∃ T, 2 ^ k = T := ⟨_, rfl⟩
  rw [hT] at e2 e3
  clear hT hi
  have hl : (l : Int) ≤ 32 := by omega
  go_enter Tryz.func123, Tryz.ntmps123
  go_wp2
  go_region
  go_wp2
  go_ret
  exact ⟨by simp_all <;> omega, ((Below.refl _ _).alloc (Nat.le_refl _) _).drew⟩
theorem rbounds_good (l i : Nat) (h : okN l i) (w : World) :
    Calls Tryz.prog 121 #[.agg #[.int .i64 l, .int .i64 i]] w fun e w' => e = .returned (.tuple #[.int .i64 (loS l i), .int .i64 (hiS l i)]) ∧ Below w.heap.size w w' := by
  obtain ⟨hb1, hb2, hb3⟩ := okN_bound h
  have e4 := shl_t l hb3
  unfold loS hiS
  have e3 : IntKind.i64.wrap ((i : Int) * ((2 ^ l : Nat) : Int)) = ((i * 2 ^ l : Nat) : Int) := by rw [Int.natCast_mul, IntKind.wrap_i64, ← Int.natCast_mul]; omega
  obtain ⟨Q, hQ⟩ : ∃ Q, i * 2 ^ l = Q := ⟨_, rfl⟩
  obtain ⟨T, hT⟩ : ∃ T, 2 ^ l = T := ⟨_, rfl⟩
  rw [hQ] at e3 hb1
  rw [hT] at e4 e3 hb1 hb2
  have e5 : (l : Int) ≤ 32 := by omega
  rw [hQ, hT]
  clear hQ hT
  have H := hide h
  clear h
  go_enter Tryz.func121, Tryz.ntmps121
  go_wp2_with (go_at_call 123; refine (rcheck_good l i (unhide H) _).mono ?_; rintro e w1 ⟨rfl, hb⟩; obtain ⟨c0, c1, bel, sz⟩ := box_cells hb)
  go_region
  go_wp2
  go_region
  go_wp2
  refine bodyPost_ret (v := .tuple #[.int .i64 (-2147483648 + (Q : Int)), .int .i64 (-2147483648 + (Q : Int) + (T : Int) - 1)]) (by simp [results, Tryz.results121, go_sem]) rfl ⟨rfl, bel.drew.drew⟩

theorem rparent_good (l i : Nat) (h : okN l i) (hl : l < 32) (w : World) :
    Calls Tryz.prog 78 #[.agg #[.int .i64 l, .int .i64 i]] w fun e w' => e = .returned (.tuple #[.agg #[.int .i64 ((l + 1 : Nat) : Int), .int .i64 ((i / 2 : Nat) : Int)], .bool true]) ∧ Below w.heap.size w w' := by
  have H := hide h
  obtain ⟨hb1, hb2, hb3⟩ := okN_bound h
  have hi : i ≤ 4294967296 := by
    have : i * 1 ≤ i * 2 ^ l := Nat.mul_le_mul_left _ hb2
    omega
  clear h hb1 hb2
  have e1 : ((l : Int) == 32) = false := by simp; omega
  have e2 : ¬ (l : Int) = 32 := by omega
  have e3 : (i : Int).tdiv 2 = ((i / 2 : Nat) : Int) := by rw [Int.tdiv_eq_ediv_of_nonneg (by omega)]; omega
  have e4 : IntKind.i64.wrap ((i / 2 : Nat) : Int) = ((i / 2 : Nat) : Int) := by rw [IntKind.wrap_i64]; omega
  go_enter Tryz.func78, Tryz.ntmps78
  go_wp2_with (go_at_call 123; refine (rcheck_good l i (unhide H) _).mono ?_; rintro e w1 ⟨rfl, hb⟩; obtain ⟨c0, c1, c2, c3, c4, bel, sz⟩ := box_two hb)
  refine bodyPost_ret (v := .tuple #[.agg #[.int .i64 ((l + 1 : Nat) : Int), .int .i64 ((i / 2 : Nat) : Int)], .bool true]) (by simp [results, Tryz.results78, go_sem, c2, c3]) rfl ⟨rfl, ?_⟩
  exact ((bel.setCell (by simp) _).setCell (by simp) _)

theorem rparent_top (i : Nat) (h : okN 32 i) (w : World) :
    Calls Tryz.prog 78 #[.agg #[.int .i64 32, .int .i64 i]] w fun e w' => e = .returned (.tuple #[.agg #[.int .i64 0, .int .i64 0], .bool false]) ∧ Below w.heap.size w w' := by
  have H := rcheck_good 32 i h
  clear h
  go_enter Tryz.func78, Tryz.ntmps78
  go_wp2_with (go_at_call 123; refine (H _).mono ?_; rintro e w1 ⟨rfl, hb⟩; obtain ⟨c0, c1, c2, c3, c4, bel, sz⟩ := box_two hb)
  refine bodyPost_ret (v := .tuple #[.agg #[.int .i64 0, .int .i64 0], .bool false]) (by simp [results, Tryz.results78, go_sem, c2, c3]) rfl ⟨rfl, ?_⟩
  exact ((bel.setCell (by simp) _).setCell (by simp) _)

theorem covZ_none {lo hi : Int} (h : ¬ max lo (-2147483648) ≤ min hi 2147483647) : coverZ lo hi = [] := by
  unfold coverZ
  rw [show (min hi 2147483647 - max lo (-2147483648) + 1).toNat = 0 by omega, cover_zero]

theorem up_div (i j : Nat) : i / 2 ^ j / 2 = i / 2 ^ (j + 1) := by rw [Nat.div_div_eq_div_mul, Nat.pow_succ]
theorem okN_up {l i : Nat} (h : okN l i) (hl : l < 32) : okN (l + 1) (i / 2) := by
  obtain ⟨k, hk, hi⟩ := h
  obtain ⟨m, rfl⟩ : ∃ m, k = m + 1 := ⟨k - 1, by omega⟩
  exact ⟨m, by omega, by rw [Nat.pow_succ] at hi; omega⟩
theorem okN_ups {l i : Nat} (h : okN l i) : ∀ j, l + j ≤ 32 → okN (l + j) (i / 2 ^ j)
  | 0, _ => by simpa using h
  | j + 1, hj => by
    have := okN_up (okN_ups h j (by omega)) (by omega)
    rw [up_div] at this
    exact this
/-- The span on the way up, in a box of the call's own. -/
def One (w : World) (b : Nat) (a0 a1 : Int) : Prop := w.cell? ⟨b, 0, none⟩ = some (.int .i64 a0) ∧ w.cell? ⟨b, 1, none⟩ = some (.int .i64 a1) ∧ (∀ o, w.frozen? ⟨b, o, none⟩ = false) ∧ b < w.heap.size
theorem One.new (w : World) (a0 a1 : Int) : One (w.alloc (.cells #[.int .i64 a0, .int .i64 a1] 58)) w.heap.size a0 a1 := by
  refine ⟨?_, ?_, fun o => ?_, ?_⟩ <;> simp
theorem One.below {w w' : World} {b : Nat} {a0 a1 : Int} (h : One w b a0 a1) (hb : Below w.heap.size w w') : One w' b a0 a1 :=
  ⟨(hb.cell (p := ⟨b, 0, none⟩) h.2.2.2).trans h.1, (hb.cell (p := ⟨b, 1, none⟩) h.2.2.2).trans h.2.1, fun o => (hb.frozen (p := ⟨b, o, none⟩) h.2.2.2).trans (h.2.2.1 o), Nat.lt_of_lt_of_le h.2.2.2 hb.size⟩
theorem One.put {w : World} {b : Nat} {a0 a1 : Int} (h : One w b a0 a1) (c0 c1 : Int) : One ((w.setCell ⟨b, 0, none⟩ (.int .i64 c0)).setCell ⟨b, 1, none⟩ (.int .i64 c1)) b c0 c1 := by
  obtain ⟨h1, h2, h3, h4⟩ := h
  refine ⟨?_, ?_, fun o => by simpa using h3 o, by simpa [World.setCell] using h4⟩
  · rw [far _ _ _ _ _ (by omega)]; exact near _ h1
  · exact near _ ((far _ _ _ _ _ (by omega)).trans h2)
theorem ownN_lit (B : Nat) (w : World) (l i : Nat) (hB : B ≤ w.heap.size) : OwnK encN 58 2 B (w.alloc (.cells #[.int .i64 l, .int .i64 i] 58)) (some ⟨w.heap.size, 0, none⟩) 1 [(l, i)] := by
  have e : (Sort.flatK encN 2 [(l, i)].toArray).toList = [.int .i64 (l : Int), .int .i64 (i : Int)] := by
    have h0 := flat_at (enc := encN) (k := 2) (l := [(l, i)]) (j := 0) (x := (l, i)) rfl 0 (by omega)
    have h1 := flat_at (enc := encN) (k := 2) (l := [(l, i)]) (j := 0) (x := (l, i)) rfl 1 (by omega)
    have hl : (Sort.flatK encN 2 [(l, i)].toArray).toList.length = 2 := by simp
    apply List.ext_getElem?
    intro j
    match j with
    | 0 => exact h0
    | 1 => exact h1
    | j + 2 => rw [List.getElem?_eq_none (by omega), List.getElem?_eq_none (by simp)]
  unfold OwnK
  rw [e]
  exact World.ownsRow_lit w #[.int .i64 (l : Int), .int .i64 (i : Int)] 1 hB (by unfold maxLen; omega) rfl

theorem wi_len (L I lo hi : Nat) (h : okN L I) (hl : lo ≤ hi) (hh : hi < 4294967296) : (wi L I lo hi).length ≤ 62 := by
  obtain ⟨hb, _, _⟩ := okN_bound h
  rw [wi_cover lo hi hl L I hb]
  apply cover_len
  have e32 : (2 : Nat) ^ 32 = 4294967296 := by decide
  omega

def WiP (L : Nat) : Prop := ∀ (I lo hi : Nat) (x y : Int) (w : World), okN L I → lo ≤ hi → hi < 4294967296 → (lo : Int) = x + 2147483648 → (hi : Int) = y + 2147483648 →
  Calls Tryz.prog 75 #[.agg #[.int .i64 L, .int .i64 I], .int .i64 x, .int .i64 y] w fun e w' => ∃ q cap, e = .returned (.slice q (wi L I lo hi).length cap) ∧ OwnK encN 58 2 w.heap.size w' q cap (wi L I lo hi) ∧ Below w.heap.size w w'

set_option maxHeartbeats 1000000 in
theorem within_leaf (L I lo hi : Nat) (x y : Int) (w : World) (hok : okN L I) (_hl : lo ≤ hi) (_hh : hi < 4294967296) (ex : (lo : Int) = x + 2147483648) (ey : (hi : Int) = y + 2147483648)
    (hc : (I * 2 ^ L + 2 ^ L ≤ lo ∨ hi < I * 2 ^ L) ∨ (lo ≤ I * 2 ^ L ∧ I * 2 ^ L + 2 ^ L ≤ hi + 1)) :
    Calls Tryz.prog 75 #[.agg #[.int .i64 L, .int .i64 I], .int .i64 x, .int .i64 y] w fun e w' => ∃ q cap, e = .returned (.slice q (wi L I lo hi).length cap) ∧ OwnK encN 58 2 w.heap.size w' q cap (wi L I lo hi) ∧ Below w.heap.size w w' := by
  have h11 := rbounds_good L I hok
  obtain ⟨hb1, hb2, hb3⟩ := okN_bound hok
  have dA : loS L I = -2147483648 + ((I * 2 ^ L : Nat) : Int) := rfl
  have dB : hiS L I = -2147483648 + ((I * 2 ^ L : Nat) : Int) + ((2 ^ L : Nat) : Int) - 1 := rfl
  obtain ⟨A, hA⟩ : ∃ A, loS L I = A := ⟨_, rfl⟩
  obtain ⟨B, hB⟩ : ∃ B, hiS L I = B := ⟨_, rfl⟩
  rw [hA, hB] at h11
  rw [hA] at dA
  rw [hB] at dB
  by_cases hd : I * 2 ^ L + 2 ^ L ≤ lo ∨ hi < I * 2 ^ L
  · have e : wi L I lo hi = [] := by
      cases L with
      | zero => simp only [Nat.pow_zero, Nat.mul_one] at hd; simp only [wi]; rw [if_pos (by omega)]
      | succ L => simp only [wi]; rw [if_pos hd]
    rw [e]
    by_cases c1 : B < x
    · clear e hA hB dA dB hc hd
      go_enter Tryz.func75, Tryz.ntmps75
      go_wp2_with (go_at_call 121; refine (h11 _).mono ?_; rintro e w1 ⟨rfl, b1⟩; obtain ⟨c0, c1', bel, sz⟩ := box_cells b1)
      go_ret
      exact ⟨none, 0, rfl, OwnK.nil _ _, bel⟩
    · have c2 : y < A := by
        generalize I * 2 ^ L = Q at *
        generalize 2 ^ L = T at *
        omega
      clear e hA hB dA dB hc hd
      go_enter Tryz.func75, Tryz.ntmps75
      go_wp2_with (go_at_call 121; refine (h11 _).mono ?_; rintro e w1 ⟨rfl, b1⟩; obtain ⟨c0, c1', bel, sz⟩ := box_cells b1)
      go_ret
      exact ⟨none, 0, rfl, OwnK.nil _ _, bel⟩
  · have hc2 := hc.resolve_left hd
    have e : wi L I lo hi = [(L, I)] := by
      cases L with
      | zero => simp only [Nat.pow_zero, Nat.mul_one] at hd; simp only [wi]; rw [if_neg (by omega)]
      | succ L => simp only [wi]; rw [if_neg hd, if_pos hc2]
    rw [e]
    have c1 : ¬ B < x := by
      generalize I * 2 ^ L = Q at *
      generalize 2 ^ L = T at *
      omega
    have c2 : ¬ y < A := by
      generalize I * 2 ^ L = Q at *
      generalize 2 ^ L = T at *
      omega
    have c3 : x ≤ A := by
      generalize I * 2 ^ L = Q at *
      generalize 2 ^ L = T at *
      omega
    have c4 : B ≤ y := by
      generalize I * 2 ^ L = Q at *
      generalize 2 ^ L = T at *
      omega
    clear e hA hB dA dB hc hc2 hd
    go_enter Tryz.func75, Tryz.ntmps75
    go_wp2_with (go_at_call 121; refine (h11 _).mono ?_; rintro e w1 ⟨rfl, b1⟩; obtain ⟨c0, c1', bel, sz⟩ := box_cells b1)
    go_ret
    exact ⟨_, _, rfl, ownN_lit _ _ _ _ bel.size, bel.alloc bel.size _⟩

set_option maxHeartbeats 1000000 in
theorem within_step (L : Nat) (ih : WiP L) : WiP (L + 1) := fun I lo hi x y w hok hl hh ex ey => by
    by_cases hc : (I * 2 ^ (L + 1) + 2 ^ (L + 1) ≤ lo ∨ hi < I * 2 ^ (L + 1)) ∨ (lo ≤ I * 2 ^ (L + 1) ∧ I * 2 ^ (L + 1) + 2 ^ (L + 1) ≤ hi + 1)
    · exact within_leaf (L + 1) I lo hi x y w hok hl hh ex ey hc
    · have hd : ¬ (I * 2 ^ (L + 1) + 2 ^ (L + 1) ≤ lo ∨ hi < I * 2 ^ (L + 1)) := fun h => hc (Or.inl h)
      have hcn : ¬ (lo ≤ I * 2 ^ (L + 1) ∧ I * 2 ^ (L + 1) + 2 ^ (L + 1) ≤ hi + 1) := fun h => hc (Or.inr h)
      have e : wi (L + 1) I lo hi = wi L (2 * I) lo hi ++ wi L (2 * I + 1) lo hi := by simp only [wi]; rw [if_neg hd, if_neg hcn]
      have hlen := wi_len (L + 1) I lo hi hok hl hh
      rw [e, List.length_append] at hlen
      rw [e, List.length_append]
      obtain ⟨k, hk, hIk⟩ := hok
      have ok1 : okN L (2 * I) := ⟨k + 1, by omega, by rw [Nat.pow_succ]; omega⟩
      have ok2 : okN L (2 * I + 1) := ⟨k + 1, by omega, by rw [Nat.pow_succ]; omega⟩
      have i1 := fun w => ih (2 * I) lo hi x y w ok1 hl hh ex ey
      have i2 := fun w => ih (2 * I + 1) lo hi x y w ok2 hl hh ex ey
      have h11 := rbounds_good (L + 1) I ⟨k, hk, hIk⟩
      obtain ⟨hb1, hb2, hb3⟩ := okN_bound (l := L + 1) (i := I) ⟨k, hk, hIk⟩
      have hI4 : I ≤ 4294967296 := by
        have : I * 1 ≤ I * 2 ^ (L + 1) := Nat.mul_le_mul_left _ hb2
        rw [Nat.mul_one] at this
        exact Nat.le_trans this (Nat.le_trans (Nat.le_add_right _ _) hb1)
      have dA : loS (L + 1) I = -2147483648 + ((I * 2 ^ (L + 1) : Nat) : Int) := rfl
      have dB : hiS (L + 1) I = -2147483648 + ((I * 2 ^ (L + 1) : Nat) : Int) + ((2 ^ (L + 1) : Nat) : Int) - 1 := rfl
      obtain ⟨A, hA⟩ : ∃ A, loS (L + 1) I = A := ⟨_, rfl⟩
      obtain ⟨B, hB⟩ : ∃ B, hiS (L + 1) I = B := ⟨_, rfl⟩
      rw [hA, hB] at h11
      rw [hA] at dA
      rw [hB] at dB
      generalize I * 2 ^ (L + 1) = Q at *
      generalize 2 ^ (L + 1) = T at *
      have c1 : ¬ B < x := by omega
      have c2 : ¬ y < A := by omega
      obtain ⟨m1, hm1⟩ : ∃ m1, wi L (2 * I) lo hi = m1 := ⟨_, rfl⟩
      obtain ⟨m2, hm2⟩ : ∃ m2, wi L (2 * I + 1) lo hi = m2 := ⟨_, rfl⟩
      rw [hm1] at i1 hlen ⊢
      rw [hm2] at i2 hlen ⊢
      obtain ⟨n1, hn1⟩ : ∃ n1, m1.length = n1 := ⟨_, rfl⟩
      obtain ⟨n2, hn2⟩ : ∃ n2, m2.length = n2 := ⟨_, rfl⟩
      rw [hn1] at i1 hlen ⊢
      rw [hn2] at i2 hlen ⊢
      obtain ⟨L1, hL1⟩ : ∃ L1 : Nat, L + 1 = L1 := ⟨_, rfl⟩
      obtain ⟨I2, hI2⟩ : ∃ I2 : Nat, 2 * I = I2 := ⟨_, rfl⟩
      obtain ⟨I3, hI3⟩ : ∃ I3 : Nat, I2 + 1 = I3 := ⟨_, rfl⟩
      rw [hL1] at h11 ⊢
      rw [hI2] at i1 i2
      rw [hI3] at i2
      have eL : IntKind.i64.wrap ((L1 : Int) - 1) = (L : Int) := by rw [IntKind.wrap_i64]; omega
      have eI : IntKind.i64.wrap (2 * (I : Int)) = (I2 : Int) := by rw [IntKind.wrap_i64]; omega
      have eJ : IntKind.i64.wrap ((I2 : Int) + 1) = (I3 : Int) := by rw [IntKind.wrap_i64]; omega
      have c34 : x ≤ A → ¬ B ≤ y := by omega
      have HN := hide (And.intro hn1 hn2)
      clear hc hd hcn e ok1 ok2 hA hB dA dB hm1 hm2 hn1 hn2 hL1 hI2 hI3 hIk hk hb1 hb2
      by_cases c3 : x ≤ A
      · have c4 := c34 c3
        clear c34
        go_enter Tryz.func75, Tryz.ntmps75
        go_wp2_with (first
          | (go_at_call 121; refine (h11 _).mono ?_; rintro e w1 ⟨rfl, b1⟩; obtain ⟨x0, x1, bel, sz⟩ := box_cells b1; have R1 := hide bel; clear b1 bel)
          | (go_at_call 75; (with_reducible refine (i1 _).mono ?_); rintro e w2 ⟨q2, cap2, rfl, o2, b2⟩; have y0 := (b2.cell (p := ⟨w.heap.size, 0, none⟩) (by exact sz)).trans x0; have y1 := (b2.cell (p := ⟨w.heap.size, 1, none⟩) (by exact sz)).trans x1; have O2 := hide (o2.mono (unhide R1).size); have R2 := hide (below_sub (unhide R1) b2); clear b2 o2 x0 x1)
          | (go_at_call 75; (with_reducible refine (i2 _).mono ?_); rintro e w3 ⟨q3, cap3, rfl, o3, b3⟩; have O3 := hide o3; have O2' := hide ((unhide O2).below b3); have R3 := hide (below_sub (unhide R2) b3); clear b3 o3)
          | (at_builtin; refine wpList_app rowN rfl _ _ rfl w.heap.size q2 cap2 m1 q3 cap3 m2 n1 n2 (n1 + n2) (unhide HN).1 (unhide HN).2 rfl rfl rfl (unhide O2') (unhide O3).ls.src (by unfold maxLen; omega) (by omega) (unhide R3).size ?_; intro q4 cap4 w4 o4 b4 _ _))
        go_ret
        exact ⟨q4, cap4, rfl, o4, (unhide R3).trans b4⟩
      · clear c34
        go_enter Tryz.func75, Tryz.ntmps75
        go_wp2_with (first
          | (go_at_call 121; refine (h11 _).mono ?_; rintro e w1 ⟨rfl, b1⟩; obtain ⟨x0, x1, bel, sz⟩ := box_cells b1; have R1 := hide bel; clear b1 bel)
          | (go_at_call 75; (with_reducible refine (i1 _).mono ?_); rintro e w2 ⟨q2, cap2, rfl, o2, b2⟩; have y0 := (b2.cell (p := ⟨w.heap.size, 0, none⟩) (by exact sz)).trans x0; have y1 := (b2.cell (p := ⟨w.heap.size, 1, none⟩) (by exact sz)).trans x1; have O2 := hide (o2.mono (unhide R1).size); have R2 := hide (below_sub (unhide R1) b2); clear b2 o2 x0 x1)
          | (go_at_call 75; (with_reducible refine (i2 _).mono ?_); rintro e w3 ⟨q3, cap3, rfl, o3, b3⟩; have O3 := hide o3; have O2' := hide ((unhide O2).below b3); have R3 := hide (below_sub (unhide R2) b3); clear b3 o3)
          | (at_builtin; refine wpList_app rowN rfl _ _ rfl w.heap.size q2 cap2 m1 q3 cap3 m2 n1 n2 (n1 + n2) (unhide HN).1 (unhide HN).2 rfl rfl rfl (unhide O2') (unhide O3).ls.src (by unfold maxLen; omega) (by omega) (unhide R3).size ?_; intro q4 cap4 w4 o4 b4 _ _))
        go_ret
        exact ⟨q4, cap4, rfl, o4, (unhide R3).trans b4⟩
theorem within_any : ∀ L, WiP L
  | 0 => fun I lo hi x y w hok hl hh ex ey => within_leaf 0 I lo hi x y w hok hl hh ex ey (by simp only [Nat.pow_zero, Nat.mul_one]; omega)
  | L + 1 => within_step L (within_any L)

theorem wi_top (P R : Nat) (h0 : 0 < R) (hb : P + R ≤ 4294967296) : wi 32 0 P (P + R - 1) = cover P R := by
  have e32 : (2 : Nat) ^ 32 = 4294967296 := by decide
  rw [wi_cover P (P + R - 1) (by omega) 32 0 (by rw [Nat.zero_mul, Nat.zero_add]; exact Nat.le_refl _), e32]
  have e1 : max (0 * 4294967296) P = P := by omega
  have e2 : min (0 * 4294967296 + 4294967296) (P + R - 1 + 1) - P = R := by omega
  rw [e1, e2]

theorem rcover_any (lo hi : Int) (w : World) :
    Calls Tryz.prog 35 #[.int .i64 lo, .int .i64 hi] w fun e w' => ∃ q cap, e = .returned (.slice q (coverZ lo hi).length cap) ∧ OwnK encN 58 2 w.heap.size w' q cap (coverZ lo hi) ∧ Below w.heap.size w w' := by
  by_cases hxy : max lo (-2147483648) ≤ min hi 2147483647
  · have ecov : coverZ lo hi = cover (max lo (-2147483648) + 2147483648).toNat (min hi 2147483647 - max lo (-2147483648) + 1).toNat := rfl
    obtain ⟨x0, hx⟩ : ∃ x0, max lo (-2147483648) = x0 := ⟨_, rfl⟩
    obtain ⟨y0, hy⟩ : ∃ y0, min hi 2147483647 = y0 := ⟨_, rfl⟩
    rw [hx, hy] at ecov hxy
    have hx1 : -2147483648 ≤ x0 := by omega
    have hy1 : y0 ≤ 2147483647 := by omega
    obtain ⟨P0, hP⟩ : ∃ P0, (x0 + 2147483648).toNat = P0 := ⟨_, rfl⟩
    obtain ⟨R, hR⟩ : ∃ R, (y0 - x0 + 1).toNat = R := ⟨_, rfl⟩
    rw [hP, hR] at ecov
    have h33 : ∀ w, Calls Tryz.prog 75 #[.agg #[.int .i64 32, .int .i64 0], .int .i64 x0, .int .i64 y0] w fun e w' => ∃ q cap, e = .returned (.slice q (coverZ lo hi).length cap) ∧ OwnK encN 58 2 w.heap.size w' q cap (coverZ lo hi) ∧ Below w.heap.size w w' := fun w => by
      have h := within_any 32 0 P0 (P0 + R - 1) x0 y0 w ⟨0, rfl, by decide⟩ (by omega) (by omega) (by omega) (by omega)
      rw [wi_top P0 R (by omega) (by omega), ← ecov] at h
      exact h
    obtain ⟨cv, hcv⟩ : ∃ cv, coverZ lo hi = cv := ⟨_, rfl⟩
    rw [hcv] at h33 ⊢
    obtain ⟨n, hn⟩ : ∃ n, cv.length = n := ⟨_, rfl⟩
    rw [hn] at h33 ⊢
    clear ecov hcv hn hP hR
    go_enter Tryz.func35, Tryz.ntmps35
    go_wp2_with (go_at_call 75; refine (h33 _).mono ?_; rintro e w1 ⟨q, cap, rfl, o1, b1⟩)
    go_ret
    exact ⟨q, cap, rfl, o1, b1⟩
  · rw [covZ_none hxy]
    obtain ⟨x0, hx⟩ : ∃ x0, max lo (-2147483648) = x0 := ⟨_, rfl⟩
    obtain ⟨y0, hy⟩ : ∃ y0, min hi 2147483647 = y0 := ⟨_, rfl⟩
    rw [hx, hy] at hxy
    go_enter Tryz.func35, Tryz.ntmps35
    go_wp2
    go_ret
    exact ⟨none, 0, rfl, OwnK.nil _ _, Below.refl _ _⟩
theorem OwnK.set {B : Nat} {w : World} {q : Option Addr} {cap : Nat} {l : List (Nat × Nat)} (h : OwnK encN 58 2 B w q cap l) {b o : Nat} (hb : b < B) (v : Value) : OwnK encN 58 2 B (w.setCell ⟨b, o, none⟩ v) q cap l := by
  refine ⟨h.1, ?_⟩
  rcases h.2 with h0 | ⟨g, cp, cur, hv, hB, hblk, hr⟩
  · exact Or.inl h0
  · exact Or.inr ⟨g, cp, cur, hv, hB, (Below.heap_setCell w ⟨b, o, none⟩ v g (by show g ≠ b; omega)).trans hblk, hr⟩
theorem OwnK.belowAt {B C : Nat} {w w' : World} {q : Option Addr} {cap : Nat} {l : List (Nat × Nat)} (h : OwnK encN 58 2 B w q cap l) (hb : Below C w w') (hC : w.heap.size ≤ C) : OwnK encN 58 2 B w' q cap l := h.below (hb.mono hC)

theorem rpath_none (x : Int) (h : ¬ (-2147483648 ≤ x ∧ x ≤ 2147483647)) (w : World) :
    Calls Tryz.prog 39 #[.int .i64 x] w fun e w' => e = .returned (.slice none 0 0) ∧ w' = w := by
  by_cases c1 : x < -2147483648
  · clear h
    go_enter Tryz.func39, Tryz.ntmps39
    go_wp2
    go_ret
    exact ⟨rfl, rfl⟩
  · have c2 : 2147483647 < x := by omega
    clear h
    go_enter Tryz.func39, Tryz.ntmps39
    go_wp2
    go_ret
    exact ⟨rfl, rfl⟩

set_option maxHeartbeats 1000000 in
theorem rpath_any (x : Int) (p : Nat) (h : x + 2147483648 = p) (hp : p < 4294967296) (w : World) :
    Calls Tryz.prog 39 #[.int .i64 x] w fun e w' => ∃ q cap, e = .returned (.slice q 33 cap) ∧ OwnK encN 58 2 w.heap.size w' q cap (pathL p 33) ∧ Below w.heap.size w w' := by
  have c1 : ¬ x < -2147483648 := by omega
  have c2 : ¬ 2147483647 < x := by omega
  have e1 : IntKind.i64.wrap (x - -2147483648) = (p : Int) := by rw [IntKind.wrap_i64]; omega
  have ok0 : okN 0 p := ⟨32, rfl, hp⟩
  have hups := hide (okN_ups ok0)
  go_enter Tryz.func39, Tryz.ntmps39
  go_wp2
  go_loopw [3] (fun v wr => ∃ (j : Nat) (q : Option Addr) (cap : Nat), j ≤ 32 ∧ v = .slice q j cap ∧ One wr w.heap.size (j : Int) ((p / 2 ^ j : Nat) : Int) ∧ OwnK encN 58 2 (w.heap.size + 1) wr q cap (pathL p j) ∧ Below w.heap.size w wr) (fun v _ => 33 - (match v with | .slice _ n _ => n | _ => 0))
  case atStart =>
    refine ⟨0, none, 0, by omega, rfl, ?_, OwnK.nil _ _, (Below.refl _ _).alloc (Nat.le_refl _) _⟩
    simpa using One.new w 0 p
  case round =>
    obtain ⟨j, q, cap, hj, rfl, hone, hown, hbel⟩ := hrel
    have HON := hide hone
    have HOW := hide hown
    have HBL := hide hbel
    obtain ⟨o0, o1, fo, so⟩ := hone
    have hokj := unhide hups j (by omega)
    rw [Nat.zero_add] at hokj
    have hlen := pathL_len p j
    obtain ⟨I, hI⟩ : ∃ I, p / 2 ^ j = I := ⟨_, rfl⟩
    have hst := pathL_step p j
    rw [hI] at o1 hokj hst
    have HI := hide (And.intro hI (And.intro hst hlen))
    have hsz : w.heap.size + 1 ≤ wr.heap.size := so
    by_cases hj32 : j < 32
    · have h13 := rparent_good j I hokj hj32
      obtain ⟨J1, hJ1⟩ : ∃ J1, I / 2 = J1 := ⟨_, rfl⟩
      obtain ⟨j1, hj1⟩ : ∃ j1, j + 1 = j1 := ⟨_, rfl⟩
      rw [hJ1, hj1] at h13
      have HJ := hide (And.intro hJ1 hj1)
      clear hI hst hlen hJ1 hj1 hokj hown hbel
      go_wp2_with (first
        | (at_builtin; refine wpList_app rowN rfl _ _ rfl (w.heap.size + 1) q cap (pathL p j) (some ⟨wr.heap.size, 0, none⟩) 1 [(j, I)] j 1 (j + 1) (unhide HI).2.2 rfl rfl rfl rfl ((unhide HOW).below ((Below.refl _ _).alloc (Nat.le_refl _) _)) (srcN_one j I _ (by simp) (by simp) (by simp)) (by unfold maxLen; omega) (by omega) (by simp; omega) ?_; intro q3 cap3 w3 o3 b3 _ _; have r3 : Below (w.heap.size + 1) wr w3 := (((Below.refl _ _).alloc (by exact hsz) _).trans b3); have x0 := (r3.cell (p := ⟨w.heap.size, 0, none⟩) (by simp)).trans o0; have x1 := (r3.cell (p := ⟨w.heap.size, 1, none⟩) (by simp)).trans o1; have xf : ∀ o, w3.frozen? ⟨w.heap.size, o, none⟩ = false := (fun o => (r3.frozen (p := ⟨w.heap.size, o, none⟩) (by simp)).trans (fo o)); have xs : w.heap.size < w3.heap.size := Nat.lt_of_lt_of_le so r3.size; have O3 := hide o3; have R3 := hide r3; clear o3 b3 r3)
        | (go_at_call 78; refine (h13 _).mono ?_; rintro e w4 ⟨rfl, b4⟩; have y0 := (b4.cell (p := ⟨w.heap.size, 0, none⟩) (by exact xs)).trans x0; have y1 := (b4.cell (p := ⟨w.heap.size, 1, none⟩) (by exact xs)).trans x1; have yf : ∀ o, w4.frozen? ⟨w.heap.size, o, none⟩ = false := (fun o => (b4.frozen (p := ⟨w.heap.size, o, none⟩) (by exact xs)).trans (xf o)); have ys : w.heap.size < w4.heap.size := Nat.lt_of_lt_of_le xs b4.size; have yne : ¬ w.heap.size = w4.heap.size := (by omega); have O4 := hide ((unhide O3).below b4); have B4 := hide b4; clear b4))
      obtain ⟨hI, hst, hlen⟩ := unhide HI
      obtain ⟨hJ1, hj1⟩ := unhide HJ
      have hO := (One.put (⟨y0, y1, yf, ys⟩ : One w4 w.heap.size (j : Int) (I : Int)) (j1 : Int) (J1 : Int)).below ((Below.refl _ _).alloc (Nat.le_refl _) (.cells #[.int .i64 (j1 : Int), .int .i64 (J1 : Int)] 58))
      have hb34 : Below w.heap.size w w4 := ((unhide HBL).trans ((unhide R3).mono (by omega))).trans ((unhide B4).mono (by omega))
      refine ⟨⟨j + 1, q3, cap3, by omega, rfl, ?_, ?_, ?_⟩, by simp; omega⟩
      · have e1 : p / 2 ^ (j + 1) = J1 := by rw [← up_div, hI, hJ1]
        rw [e1, hj1]
        exact hO
      · rw [← hst]
        exact (((unhide O4).set (by omega) _).set (by omega) _).below ((Below.refl _ _).alloc (Nat.le_refl _) _)
      · exact ((hb34.setCell (Nat.le_refl _) _).setCell (Nat.le_refl _) _).alloc (by simp [World.setCell]; omega) _
    · obtain rfl : j = 32 := by omega
      have h13 := rparent_top I hokj
      clear hI hst hlen hokj hown hbel
      go_wp2_with (first
        | (at_builtin; refine wpList_app rowN rfl _ _ rfl (w.heap.size + 1) q cap (pathL p 32) (some ⟨wr.heap.size, 0, none⟩) 1 [(32, I)] 32 1 33 (unhide HI).2.2 rfl rfl rfl rfl ((unhide HOW).below ((Below.refl _ _).alloc (Nat.le_refl _) _)) (srcN_one 32 I _ (by simp) (by simp) (by simp)) (by unfold maxLen; omega) (by omega) (by simp; omega) ?_; intro q3 cap3 w3 o3 b3 _ _; have r3 : Below (w.heap.size + 1) wr w3 := (((Below.refl _ _).alloc (by exact hsz) _).trans b3); have x0 := (r3.cell (p := ⟨w.heap.size, 0, none⟩) (by simp)).trans o0; have x1 := (r3.cell (p := ⟨w.heap.size, 1, none⟩) (by simp)).trans o1; have xf : ∀ o, w3.frozen? ⟨w.heap.size, o, none⟩ = false := (fun o => (r3.frozen (p := ⟨w.heap.size, o, none⟩) (by simp)).trans (fo o)); have xs : w.heap.size < w3.heap.size := Nat.lt_of_lt_of_le so r3.size; have O3 := hide o3; have R3 := hide r3; clear o3 b3 r3)
        | (go_at_call 78; refine (h13 _).mono ?_; rintro e w4 ⟨rfl, b4⟩; have O4 := hide ((unhide O3).below b4); have B4 := hide b4; clear b4))
      go_ret
      obtain ⟨hI, hst, hlen⟩ := unhide HI
      have hb34 : Below w.heap.size w w4 := ((unhide HBL).trans ((unhide R3).mono (by omega))).trans ((unhide B4).mono (by omega))
      refine ⟨q3, cap3, rfl, ?_, hb34.alloc hb34.size _⟩
      rw [← hst]
      exact ((unhide O4).mono (by omega)).below ((Below.refl _ _).alloc (Nat.le_refl _) _)

end Go.Proofs.YtedakipjfpdajaaGreatDoor

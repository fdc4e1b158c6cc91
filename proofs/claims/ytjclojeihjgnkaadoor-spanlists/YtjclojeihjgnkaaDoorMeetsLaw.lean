/- The law SpanMeets: spans that meet lie one within the other, on the way up. -/
import Derived.Test.YtjclojeihjgnkaaDoorCoversLaw
namespace Go.Proofs.YtjclojeihjgnkaaDoor
open Go.RowKit

theorem meet_iff {l1 i1 l2 i2 k : Nat} (hk : l1 + k = l2) :
    ((i1 * 2 ^ l1 < i2 * 2 ^ l2 + 2 ^ l2 ∧ i2 * 2 ^ l2 < i1 * 2 ^ l1 + 2 ^ l1) ↔ i1 / 2 ^ k = i2) ∧ (i1 / 2 ^ k = i2 → i2 * 2 ^ l2 ≤ i1 * 2 ^ l1 ∧ i1 * 2 ^ l1 + 2 ^ l1 ≤ i2 * 2 ^ l2 + 2 ^ l2) := by
  subst hk
  have hK := Nat.two_pow_pos k
  have hT := Nat.two_pow_pos l1
  have e1 := Nat.div_add_mod i1 (2 ^ k)
  have e2 := Nat.mod_lt i1 hK
  rw [Nat.pow_add]
  generalize 2 ^ k = K at *
  generalize 2 ^ l1 = T at *
  generalize i1 / K = j at *
  generalize i1 % K = m at *
  subst e1
  have f1 : (K * j + m) * T = j * (T * K) + m * T := by rw [Nat.add_mul]; congr 1; rw [Nat.mul_comm K j, Nat.mul_assoc, Nat.mul_comm K T]
  have f2 : m * T + T ≤ T * K := by
    have : (m + 1) * T ≤ K * T := Nat.mul_le_mul_right T e2
    rw [Nat.add_mul, Nat.one_mul, Nat.mul_comm K T] at this
    exact this
  rw [f1]
  generalize T * K = S at *
  generalize m * T = Y at *
  have key : ∀ a b : Nat, a < b → a * S + S ≤ b * S := fun a b h => by
    have : (a + 1) * S ≤ b * S := Nat.mul_le_mul_right S h
    rwa [Nat.add_mul, Nat.one_mul] at this
  refine ⟨⟨?_, ?_⟩, ?_⟩
  · rintro ⟨a1, a2⟩
    rcases Nat.lt_trichotomy j i2 with g | g | g
    · have := key _ _ g; omega
    · exact g
    · have := key _ _ g; omega
  · rintro rfl; omega
  · rintro rfl; omega

/-- Two spans in boxes of the call's own, side by side. -/
def Two (w : World) (b : Nat) (a0 a1 c0 c1 : Int) : Prop :=
  w.cell? ⟨b, 0, none⟩ = some (.int .i64 a0) ∧ w.cell? ⟨b, 1, none⟩ = some (.int .i64 a1) ∧ w.cell? ⟨b + 1, 0, none⟩ = some (.int .i64 c0) ∧ w.cell? ⟨b + 1, 1, none⟩ = some (.int .i64 c1) ∧ (∀ o, w.frozen? ⟨b, o, none⟩ = false) ∧ (∀ o, w.frozen? ⟨b + 1, o, none⟩ = false) ∧ b + 1 < w.heap.size
theorem Two.below {w w' : World} {b : Nat} {a0 a1 c0 c1 : Int} (h : Two w b a0 a1 c0 c1) (hb : Below w.heap.size w w') : Two w' b a0 a1 c0 c1 := by
  obtain ⟨h1, h2, h3, h4, h5, h6, h7⟩ := h
  have h8 : b < w.heap.size := by omega
  exact ⟨(hb.cell (p := ⟨b, 0, none⟩) h8).trans h1, (hb.cell (p := ⟨b, 1, none⟩) h8).trans h2, (hb.cell (p := ⟨b + 1, 0, none⟩) h7).trans h3, (hb.cell (p := ⟨b + 1, 1, none⟩) h7).trans h4, fun o => (hb.frozen (p := ⟨b, o, none⟩) h8).trans (h5 o), fun o => (hb.frozen (p := ⟨b + 1, o, none⟩) h7).trans (h6 o), Nat.lt_of_lt_of_le h7 hb.size⟩
theorem Two.new (w : World) (a0 a1 c0 c1 : Int) : Two ((w.alloc (.cells #[.int .i64 a0, .int .i64 a1] 23)).alloc (.cells #[.int .i64 c0, .int .i64 c1] 23)) w.heap.size a0 a1 c0 c1 := by
  refine ⟨?_, ?_, ?_, ?_, fun o => ?_, fun o => ?_, ?_⟩ <;> simp
/-- Both are exchanged. -/
def swapW (w : World) (b : Nat) (a0 a1 c0 c1 : Int) : World := (((w.setCell ⟨b, 0, none⟩ (.int .i64 c0)).setCell ⟨b, 1, none⟩ (.int .i64 c1)).setCell ⟨b + 1, 0, none⟩ (.int .i64 a0)).setCell ⟨b + 1, 1, none⟩ (.int .i64 a1)
theorem Two.swap {w : World} {b : Nat} {a0 a1 c0 c1 : Int} (h : Two w b a0 a1 c0 c1) : Two (swapW w b a0 a1 c0 c1) b c0 c1 a0 a1 := by
  obtain ⟨h1, h2, h3, h4, h5, h6, h7⟩ := h
  have hne : b + 1 ≠ b := by omega
  have hne2 : b ≠ b + 1 := by omega
  unfold swapW
  have k1 := near (.int .i64 c0) h1
  have k2 := near (.int .i64 c1) ((far w b 0 1 (.int .i64 c0) (by omega)).trans h2)
  have k1' := (far (w.setCell ⟨b, 0, none⟩ (.int .i64 c0)) b 1 0 (.int .i64 c1) (by omega)).trans k1
  refine ⟨?_, ?_, ?_, ?_, fun o => by simpa using h5 o, fun o => by simpa using h6 o, by simpa [World.setCell] using h7⟩
  · rw [World.cell?_setCell_far _ _ _ _ hne, World.cell?_setCell_far _ _ _ _ hne]; exact k1'
  · rw [World.cell?_setCell_far _ _ _ _ hne, World.cell?_setCell_far _ _ _ _ hne]; exact k2
  · rw [far _ _ _ _ _ (by omega)]
    exact near _ (((World.cell?_setCell_far _ _ _ _ hne2).trans (World.cell?_setCell_far _ _ _ _ hne2)).trans h3)
  · exact near _ ((far _ (b + 1) 0 1 _ (by omega)).trans (((World.cell?_setCell_far _ _ _ _ hne2).trans (World.cell?_setCell_far _ _ _ _ hne2)).trans h4))
theorem below_swap {B : Nat} (w : World) (b : Nat) (a0 a1 c0 c1 : Int) (h : B ≤ b) : Below B w (swapW w b a0 a1 c0 c1) :=
  ((((Below.refl _ _).setCell h _).setCell h _).setCell (Nat.le_succ_of_le h) _).setCell (Nat.le_succ_of_le h) _
/-- The span on the way up, in a box of the call's own. -/
def One (w : World) (b : Nat) (a0 a1 : Int) : Prop := w.cell? ⟨b, 0, none⟩ = some (.int .i64 a0) ∧ w.cell? ⟨b, 1, none⟩ = some (.int .i64 a1) ∧ (∀ o, w.frozen? ⟨b, o, none⟩ = false) ∧ b < w.heap.size
theorem One.below {w w' : World} {b : Nat} {a0 a1 : Int} (h : One w b a0 a1) (hb : Below w.heap.size w w') : One w' b a0 a1 :=
  ⟨(hb.cell (p := ⟨b, 0, none⟩) h.2.2.2).trans h.1, (hb.cell (p := ⟨b, 1, none⟩) h.2.2.2).trans h.2.1, fun o => (hb.frozen (p := ⟨b, o, none⟩) h.2.2.2).trans (h.2.2.1 o), Nat.lt_of_lt_of_le h.2.2.2 hb.size⟩
theorem One.new (w : World) (a0 a1 : Int) : One (w.alloc (.cells #[.int .i64 a0, .int .i64 a1] 23)) w.heap.size a0 a1 := by
  refine ⟨?_, ?_, fun o => ?_, ?_⟩ <;> simp
theorem One.put {w : World} {b : Nat} {a0 a1 : Int} (h : One w b a0 a1) (c0 c1 : Int) : One ((w.setCell ⟨b, 0, none⟩ (.int .i64 c0)).setCell ⟨b, 1, none⟩ (.int .i64 c1)) b c0 c1 := by
  obtain ⟨h1, h2, h3, h4⟩ := h
  refine ⟨?_, ?_, fun o => by simpa using h3 o, by simpa [World.setCell] using h4⟩
  · rw [far _ _ _ _ _ (by omega)]; exact near _ h1
  · exact near _ ((far _ _ _ _ _ (by omega)).trans h2)
theorem up_div (i j : Nat) : i / 2 ^ j / 2 = i / 2 ^ (j + 1) := by rw [Nat.div_div_eq_div_mul, Nat.pow_succ]
theorem okN_ups {l i : Nat} (h : okN l i) : ∀ j, l + j ≤ 32 → okN (l + j) (i / 2 ^ j)
  | 0, _ => by simpa using h
  | j + 1, hj => by
    have := okN_up (okN_ups h j (by omega)) (by omega)
    rw [up_div] at this
    exact this
theorem below_sub2 {a b c : World} (h : Below a.heap.size a b) (h2 : Below b.heap.size b c) : Below a.heap.size a c := below_sub h h2

set_option maxHeartbeats 4000000 in
theorem meets_plain (l1 i1 l2 i2 : Nat) (ok1 : okN l1 i1) (ok2 : okN l2 i2) (hlt : l1 ≤ l2) (w : World) (hG : G w) : Calls Tryd.prog 7 #[.agg #[.int .i64 l1, .int .i64 i1], .agg #[.int .i64 l2, .int .i64 i2]] w fun e w' => e = .returned (.bool true) ∧ Below w.heap.size w w' := by
  have hfix := fixed_any
  obtain ⟨a1, a2, a3⟩ := okN_bound ok1
  obtain ⟨a4, a5, a6⟩ := okN_bound ok2
  obtain ⟨kk, hkk⟩ : ∃ kk, l1 + kk = l2 := ⟨l2 - l1, by omega⟩
  have hmt := meet_iff (i1 := i1) (i2 := i2) hkk
  have hups := okN_ups ok1
  have h141 := check_good l1 i1 ok1
  have h142 := check_good l2 i2 ok2
  have h101 := bounds_good l1 i1 ok1
  have h102 := bounds_good l2 i2 ok2
  have hhas := has_good l1 i1 ok1
  have eT1 := shl_t l1 a3
  have eT2 := shl_t l2 a6
  have dA : loS l1 i1 = -2147483648 + ((i1 * 2 ^ l1 : Nat) : Int) := rfl
  have dB : hiS l1 i1 = -2147483648 + ((i1 * 2 ^ l1 : Nat) : Int) + ((2 ^ l1 : Nat) : Int) - 1 := rfl
  have dC : loS l2 i2 = -2147483648 + ((i2 * 2 ^ l2 : Nat) : Int) := rfl
  have dD : hiS l2 i2 = -2147483648 + ((i2 * 2 ^ l2 : Nat) : Int) + ((2 ^ l2 : Nat) : Int) - 1 := rfl
  obtain ⟨A, hA⟩ : ∃ A, loS l1 i1 = A := ⟨_, rfl⟩
  obtain ⟨B, hB⟩ : ∃ B, hiS l1 i1 = B := ⟨_, rfl⟩
  obtain ⟨C, hC⟩ : ∃ C, loS l2 i2 = C := ⟨_, rfl⟩
  obtain ⟨D, hD⟩ : ∃ D, hiS l2 i2 = D := ⟨_, rfl⟩
  rw [hA, hB] at h101 hhas
  rw [hA] at dA
  rw [hB] at dB
  rw [hC, hD] at h102
  rw [hC] at dC
  rw [hD] at dD
  obtain ⟨Q1, hQ1⟩ : ∃ Q1, i1 * 2 ^ l1 = Q1 := ⟨_, rfl⟩
  obtain ⟨Q2, hQ2⟩ : ∃ Q2, i2 * 2 ^ l2 = Q2 := ⟨_, rfl⟩
  obtain ⟨T1, hT1⟩ : ∃ T1, 2 ^ l1 = T1 := ⟨_, rfl⟩
  obtain ⟨T2, hT2⟩ : ∃ T2, 2 ^ l2 = T2 := ⟨_, rfl⟩
  rw [hQ1, hQ2, hT1, hT2] at hmt
  rw [hQ1, hT1] at a1 dB
  rw [hQ1] at dA
  rw [hT1] at eT1 a2
  rw [hQ2, hT2] at a4 dD
  rw [hQ2] at dC
  rw [hT2] at eT2 a5
  clear hA hB hC hD hQ1 hQ2 hT1 hT2 ok1
  have hasA := hhas A
  rw [show (decide (A ≤ A) && decide (A ≤ B)) = true by simp; omega] at hasA
  have hasB := hhas B
  rw [show (decide (A ≤ B) && decide (B ≤ B)) = true by simp; omega] at hasB
  have hasC := hhas (A - 1)
  rw [show (decide (A ≤ A - 1) && decide (A - 1 ≤ B)) = false by simp; omega] at hasC
  have hasD := hhas (B + 1)
  rw [show (decide (A ≤ B + 1) && decide (B + 1 ≤ B)) = false by simp; omega] at hasD
  have g1 : B - A = (T1 : Int) - 1 := by omega
  have g2 : D - C = (T2 : Int) - 1 := by omega
  have g3 : IntKind.i64.wrap (B - A) = (T1 : Int) - 1 := by rw [IntKind.wrap_i64]; omega
  have g4 : IntKind.i64.wrap (D - C) = (T2 : Int) - 1 := by rw [IntKind.wrap_i64]; omega
  have l1a : (l1 : Int) ≤ 32 := by omega
  have l2a : (l2 : Int) ≤ 32 := by omega
  have bA : -2147483648 ≤ A ∧ A ≤ 2147483648 := by omega
  have bB : -2147483649 ≤ B ∧ B ≤ 2147483648 := by omega
  have bT : T1 ≤ 4294967296 ∧ T2 ≤ 4294967296 := by omega
  have HM := hide (And.intro hmt (And.intro dA (And.intro dB (And.intro dC (And.intro dD (And.intro a2 a5))))))
  have HU := hide hups
  have HG := hide (hG.below' (((Below.refl w.heap.size w).alloc (Nat.le_refl _) (.cells #[.int .i64 l1, .int .i64 i1] 23)).alloc (by simp) (.cells #[.int .i64 l2, .int .i64 i2] 23)))
  have H := hide (Two.new w l1 i1 l2 i2)
  have R0 := hide (((Below.refl w.heap.size w).alloc (Nat.le_refl _) (.cells #[.int .i64 l1, .int .i64 i1] 23)).alloc (by simp) (.cells #[.int .i64 l2, .int .i64 i2] 23))
  clear hmt hups hhas hG a1 a4 dA dB dC dD g1 g2 a2 a5
  go_enter Tryd.func7, Tryd.ntmps7
  go_wp2_with (first
    | (go_at_call 9; refine (hfix _ (unhide HG)).mono ?_; rintro e w1 ⟨rfl, b1⟩; have Z := (unhide H).below b1; have H := hide Z; obtain ⟨x0, x1, y0, y1, f0, f1, sz⟩ := Z; have R1 := hide (below_sub2 (unhide R0) b1); clear b1)
    | (go_at_call 14; (with_reducible refine (h141 _).mono ?_); rintro e w2 ⟨rfl, b2⟩; clear x0 x1 y0 y1 f0 f1 sz; have Z := (unhide H).below b2; have H := hide Z; obtain ⟨x0, x1, y0, y1, f0, f1, sz⟩ := Z; have R2 := hide (below_sub (unhide R1) b2); clear b2)
    | (go_at_call 14; (with_reducible refine (h142 _).mono ?_); rintro e w3 ⟨rfl, b3⟩; clear x0 x1 y0 y1 f0 f1 sz; have Z := (unhide H).below b3; have H := hide Z; obtain ⟨x0, x1, y0, y1, f0, f1, sz⟩ := Z; have R3 := hide (below_sub (unhide R2) b3); clear b3)
    | (go_at_call 10; (with_reducible refine (h101 _).mono ?_); rintro e w4 ⟨rfl, b4⟩; clear x0 x1 y0 y1 f0 f1 sz; have Z := (unhide H).below b4; have H := hide Z; obtain ⟨x0, x1, y0, y1, f0, f1, sz⟩ := Z; have R4 := hide (below_sub (unhide R3) b4); clear b4)
    | (go_at_call 10; (with_reducible refine (h102 _).mono ?_); rintro e w5 ⟨rfl, b5⟩; clear x0 x1 y0 y1 f0 f1 sz; have Z := (unhide H).below b5; have H := hide Z; obtain ⟨x0, x1, y0, y1, f0, f1, sz⟩ := Z; have R5 := hide (below_sub (unhide R4) b5); clear b5)
    | (go_at_call 16; (with_reducible refine (hasA _).mono ?_); rintro e w6 ⟨rfl, b6⟩; clear x0 x1 y0 y1 f0 f1 sz; have Z := (unhide H).below b6; have H := hide Z; obtain ⟨x0, x1, y0, y1, f0, f1, sz⟩ := Z; have R6 := hide (below_sub (unhide R5) b6); clear b6)
    | (go_at_call 16; (with_reducible refine (hasB _).mono ?_); rintro e w7 ⟨rfl, b7⟩; clear x0 x1 y0 y1 f0 f1 sz; have Z := (unhide H).below b7; have H := hide Z; obtain ⟨x0, x1, y0, y1, f0, f1, sz⟩ := Z; have R7 := hide (below_sub (unhide R6) b7); clear b7)
    | (go_at_call 16; (with_reducible refine (hasC _).mono ?_); rintro e w8 ⟨rfl, b8⟩; clear x0 x1 y0 y1 f0 f1 sz; have Z := (unhide H).below b8; have H := hide Z; obtain ⟨x0, x1, y0, y1, f0, f1, sz⟩ := Z; have R8 := hide (below_sub (unhide R7) b8); clear b8)
    | (go_at_call 16; (with_reducible refine (hasD _).mono ?_); rintro e w9 ⟨rfl, b9⟩; clear x0 x1 y0 y1 f0 f1 sz; have Z := (unhide H).below b9; have H := hide Z; obtain ⟨x0, x1, y0, y1, f0, f1, sz⟩ := Z; have R9 := hide (below_sub (unhide R8) b9); clear b9))
  obtain ⟨b9, hb9⟩ : ∃ b9, w9.heap.size = b9 := ⟨_, rfl⟩
  have HON := One.new w9 l1 i1
  have sz9 : w.heap.size + 1 < b9 := by omega
  have HB9 := hide hb9
  rw [hb9] at HON
  rw [hb9]
  have HON' := hide HON
  clear HON x0 x1 f0 f1
  go_loopw [11] (fun _ wr => ∃ j : Nat, l1 + j ≤ l2 ∧ One wr b9 ((l1 + j : Nat) : Int) ((i1 / 2 ^ j : Nat) : Int) ∧ Below w9.heap.size w9 wr) (fun _ wr => l2 - (match wr.cell? ⟨b9, 0, none⟩ with | some v => (intOf v).toNat | none => 0))
  case atStart =>
    refine ⟨0, by omega, by simpa using unhide HON', ?_⟩
    exact (Below.refl _ _).alloc (Nat.le_refl _) _
  case round =>
    obtain ⟨j, hj, hone, hbel⟩ := hrel
    have HON := hide hone
    have HBL := hide hbel
    have z0 := (hbel.cell (p := ⟨w.heap.size + 1, 0, none⟩) (by exact sz)).trans y0
    have z1 := (hbel.cell (p := ⟨w.heap.size + 1, 1, none⟩) (by exact sz)).trans y1
    obtain ⟨o0, o1, fo, so⟩ := hone
    by_cases hjl : l1 + j < l2
    · have hoku := unhide HU j (by omega)
      have h12 := parent_good (l1 + j) (i1 / 2 ^ j) hoku (by omega)
      rw [up_div] at h12
      have hJ1 : l1 + j + 1 = l1 + (j + 1) := by omega
      rw [hJ1] at h12
      obtain ⟨L, hL⟩ : ∃ L, l1 + j = L := ⟨_, rfl⟩
      obtain ⟨I, hI⟩ : ∃ I, i1 / 2 ^ j = I := ⟨_, rfl⟩
      obtain ⟨L', hL'⟩ : ∃ L', l1 + (j + 1) = L' := ⟨_, rfl⟩
      obtain ⟨I', hI'⟩ : ∃ I', i1 / 2 ^ (j + 1) = I' := ⟨_, rfl⟩
      rw [hL, hI, hL', hI'] at h12
      rw [hL] at o0
      rw [hI] at o1
      have eL : (L' : Int) = (L : Int) + 1 := by omega
      have eL2 : IntKind.i64.wrap ((L : Int) + 1) = (L' : Int) := by rw [IntKind.wrap_i64]; omega
      have eL3 : ((L' : Int) != (L' : Int)) = false := by simp
      have cL : (L : Int) < (l2 : Int) := by omega
      have HX := hide (And.intro hL (And.intro hL' (And.intro hI' eL)))
      have HI := hide hI
      clear hL hI hL' hI' hJ1 hoku eL hbel
      go_wp2_with (go_at_call 12; refine (h12 _).mono ?_; rintro e w10 ⟨rfl, b10⟩; have u0 := (b10.cell (p := ⟨b9, 0, none⟩) (by exact so)).trans o0; have u1 := (b10.cell (p := ⟨b9, 1, none⟩) (by exact so)).trans o1; have uf : ∀ o, w10.frozen? ⟨b9, o, none⟩ = false := (fun o => (b10.frozen (p := ⟨b9, o, none⟩) (by exact so)).trans (fo o)); have us : b9 < w10.heap.size := Nat.lt_of_lt_of_le so b10.size; have une : ¬ b9 = w10.heap.size := (by omega); have B10 := hide b10; clear b10)
      obtain ⟨hL, hL', hI', eL⟩ := unhide HX
      have hO := (((unhide HON).below (unhide B10)).put (L' : Int) (I' : Int)).below ((Below.refl _ _).alloc (Nat.le_refl _) (.cells #[.int .i64 (L' : Int), .int .i64 (I' : Int)] 23))
      refine ⟨⟨j + 1, by omega, ?_, ?_⟩, ?_⟩
      · rw [hL', hI']
        exact hO
      · have hle : w9.heap.size ≤ b9 := by omega
        have hb := below_sub (unhide HBL) (unhide B10)
        exact ((hb.setCell hle _).setCell hle _).alloc (by simpa [World.setCell] using hb.size) _
      · rw [hO.1, o0]
        simp [intOf]
        omega
    · have hj2 : j = kk := by omega
      subst hj2
      obtain ⟨⟨hm1, hm2⟩, dA, dB, dC, dD, a2, a5⟩ := unhide HM
      have cL : ¬ ((l1 + j : Nat) : Int) < (l2 : Int) := by omega
      rw [hkk] at o0 cL
      have qe := eqlS l2 ((i1 / 2 ^ j : Nat) : Int) l2 i2
      by_cases hmm : i1 / 2 ^ j = i2
      · have e1 : decide ((l2 : Int) = (l2 : Int) ∧ ((i1 / 2 ^ j : Nat) : Int) = (i2 : Int)) = true := by
          rw [decide_eq_true_eq]; exact ⟨rfl, congrArg _ hmm⟩
        rw [e1] at qe
        have k1 := hm1.2 hmm
        have k2 := hm2 hmm
        have m1 : A ≤ D := by omega
        have m2 : C ≤ B := by omega
        have m3 : C ≤ A := by omega
        have m4 : B ≤ D := by omega
        obtain ⟨I, hI⟩ : ∃ I, i1 / 2 ^ j = I := ⟨_, rfl⟩
        rw [hI] at qe o1
        clear e1 hm1 hm2 dA dB dC dD k1 k2 hmm hI
        go_wp2
        go_ret
        exact ⟨rfl, below_sub (unhide R9) (unhide HBL)⟩
      · have e1 : decide ((l2 : Int) = (l2 : Int) ∧ ((i1 / 2 ^ j : Nat) : Int) = (i2 : Int)) = false := by
          rw [decide_eq_false_iff_not]
          rintro ⟨_, h⟩
          exact hmm (Int.natCast_inj.1 h)
        rw [e1] at qe
        have k1 : ¬ (Q1 < Q2 + T2 ∧ Q2 < Q1 + T1) := fun h => hmm (hm1.1 h)
        obtain ⟨I, hI⟩ : ∃ I, i1 / 2 ^ j = I := ⟨_, rfl⟩
        rw [hI] at qe o1
        by_cases m1 : A ≤ D
        · have m2 : ¬ C ≤ B := by omega
          clear e1 hm1 hm2 dA dB dC dD k1 hmm hI
          go_wp2
          go_ret
          exact ⟨rfl, below_sub (unhide R9) (unhide HBL)⟩
        · clear e1 hm1 hm2 dA dB dC dD k1 hmm hI
          go_wp2
          go_ret
          exact ⟨rfl, below_sub (unhide R9) (unhide HBL)⟩

set_option maxHeartbeats 4000000 in
theorem meets_swap (l1 i1 l2 i2 : Nat) (ok1 : okN l1 i1) (ok2 : okN l2 i2) (hlt : l1 < l2) (w : World) (hG : G w) : Calls Tryd.prog 7 #[.agg #[.int .i64 l2, .int .i64 i2], .agg #[.int .i64 l1, .int .i64 i1]] w fun e w' => e = .returned (.bool true) ∧ Below w.heap.size w w' := by
  have hfix := fixed_any
  obtain ⟨a1, a2, a3⟩ := okN_bound ok1
  obtain ⟨a4, a5, a6⟩ := okN_bound ok2
  obtain ⟨kk, hkk⟩ : ∃ kk, l1 + kk = l2 := ⟨l2 - l1, by omega⟩
  have hmt := meet_iff (i1 := i1) (i2 := i2) hkk
  have hups := okN_ups ok1
  have h141 := check_good l1 i1 ok1
  have h142 := check_good l2 i2 ok2
  have h101 := bounds_good l1 i1 ok1
  have h102 := bounds_good l2 i2 ok2
  have hhas := has_good l1 i1 ok1
  have eT1 := shl_t l1 a3
  have eT2 := shl_t l2 a6
  have dA : loS l1 i1 = -2147483648 + ((i1 * 2 ^ l1 : Nat) : Int) := rfl
  have dB : hiS l1 i1 = -2147483648 + ((i1 * 2 ^ l1 : Nat) : Int) + ((2 ^ l1 : Nat) : Int) - 1 := rfl
  have dC : loS l2 i2 = -2147483648 + ((i2 * 2 ^ l2 : Nat) : Int) := rfl
  have dD : hiS l2 i2 = -2147483648 + ((i2 * 2 ^ l2 : Nat) : Int) + ((2 ^ l2 : Nat) : Int) - 1 := rfl
  obtain ⟨A, hA⟩ : ∃ A, loS l1 i1 = A := ⟨_, rfl⟩
  obtain ⟨B, hB⟩ : ∃ B, hiS l1 i1 = B := ⟨_, rfl⟩
  obtain ⟨C, hC⟩ : ∃ C, loS l2 i2 = C := ⟨_, rfl⟩
  obtain ⟨D, hD⟩ : ∃ D, hiS l2 i2 = D := ⟨_, rfl⟩
  rw [hA, hB] at h101 hhas
  rw [hA] at dA
  rw [hB] at dB
  rw [hC, hD] at h102
  rw [hC] at dC
  rw [hD] at dD
  obtain ⟨Q1, hQ1⟩ : ∃ Q1, i1 * 2 ^ l1 = Q1 := ⟨_, rfl⟩
  obtain ⟨Q2, hQ2⟩ : ∃ Q2, i2 * 2 ^ l2 = Q2 := ⟨_, rfl⟩
  obtain ⟨T1, hT1⟩ : ∃ T1, 2 ^ l1 = T1 := ⟨_, rfl⟩
  obtain ⟨T2, hT2⟩ : ∃ T2, 2 ^ l2 = T2 := ⟨_, rfl⟩
  rw [hQ1, hQ2, hT1, hT2] at hmt
  rw [hQ1, hT1] at a1 dB
  rw [hQ1] at dA
  rw [hT1] at eT1 a2
  rw [hQ2, hT2] at a4 dD
  rw [hQ2] at dC
  rw [hT2] at eT2 a5
  clear hA hB hC hD hQ1 hQ2 hT1 hT2 ok1
  have hasA := hhas A
  rw [show (decide (A ≤ A) && decide (A ≤ B)) = true by simp; omega] at hasA
  have hasB := hhas B
  rw [show (decide (A ≤ B) && decide (B ≤ B)) = true by simp; omega] at hasB
  have hasC := hhas (A - 1)
  rw [show (decide (A ≤ A - 1) && decide (A - 1 ≤ B)) = false by simp; omega] at hasC
  have hasD := hhas (B + 1)
  rw [show (decide (A ≤ B + 1) && decide (B + 1 ≤ B)) = false by simp; omega] at hasD
  have g1 : B - A = (T1 : Int) - 1 := by omega
  have g2 : D - C = (T2 : Int) - 1 := by omega
  have g3 : IntKind.i64.wrap (B - A) = (T1 : Int) - 1 := by rw [IntKind.wrap_i64]; omega
  have g4 : IntKind.i64.wrap (D - C) = (T2 : Int) - 1 := by rw [IntKind.wrap_i64]; omega
  have l1a : (l1 : Int) ≤ 32 := by omega
  have l2a : (l2 : Int) ≤ 32 := by omega
  have bA : -2147483648 ≤ A ∧ A ≤ 2147483648 := by omega
  have bB : -2147483649 ≤ B ∧ B ≤ 2147483648 := by omega
  have bT : T1 ≤ 4294967296 ∧ T2 ≤ 4294967296 := by omega
  have HM := hide (And.intro hmt (And.intro dA (And.intro dB (And.intro dC (And.intro dD (And.intro a2 a5))))))
  have HU := hide hups
  have HG := hide (hG.below' (((Below.refl w.heap.size w).alloc (Nat.le_refl _) (.cells #[.int .i64 l2, .int .i64 i2] 23)).alloc (by simp) (.cells #[.int .i64 l1, .int .i64 i1] 23)))
  have H := hide (Two.new w l2 i2 l1 i1)
  have R0 := hide (((Below.refl w.heap.size w).alloc (Nat.le_refl _) (.cells #[.int .i64 l2, .int .i64 i2] 23)).alloc (by simp) (.cells #[.int .i64 l1, .int .i64 i1] 23))
  clear hmt hups hhas hG a1 a4 dA dB dC dD g1 g2 a2 a5
  go_enter Tryd.func7, Tryd.ntmps7
  go_wp2_with (first
    | (go_at_call 9; refine (hfix _ (unhide HG)).mono ?_; rintro e w1 ⟨rfl, b1⟩; have Z := (unhide H).below b1; have H := hide Z; obtain ⟨x0, x1, y0, y1, f0, f1, sz⟩ := Z; have R1 := hide (below_sub2 (unhide R0) b1); clear b1)
    | (go_at_call 14; (with_reducible refine (h142 _).mono ?_); rintro e w2 ⟨rfl, b2⟩; clear x0 x1 y0 y1 f0 f1 sz; have Z := (unhide H).below b2; have H := hide Z; obtain ⟨x0, x1, y0, y1, f0, f1, sz⟩ := Z; have R2 := hide (below_sub (unhide R1) b2); clear b2)
    | (go_at_call 14; (with_reducible refine (h141 _).mono ?_); rintro e w3 ⟨rfl, b3⟩; clear x0 x1 y0 y1 f0 f1 sz; have Z := (unhide H).below b3; have H := hide Z; obtain ⟨x0, x1, y0, y1, f0, f1, sz⟩ := Z; have R3 := hide (below_sub (unhide R2) b3); clear b3)
    | (go_at_call 10; (with_reducible refine (h101 _).mono ?_); rintro e w4 ⟨rfl, b4⟩; have b4' : Below w3.heap.size (swapW w3 w.heap.size l2 i2 l1 i1) w4 := (by simpa [World.setCell, swapW] using b4); have BR := below_swap w3 w.heap.size l2 i2 l1 i1 (Nat.le_refl w.heap.size); have Z := (unhide H).swap.below (by simpa [World.setCell, swapW] using b4); have H := hide Z; have R4 := hide (((unhide R3).trans BR).trans ((b4').mono (by have := sz; omega))); clear x0 x1 y0 y1 f0 f1 sz b4 b4' BR; obtain ⟨x0, x1, y0, y1, f0, f1, sz⟩ := Z)
    | (go_at_call 10; (with_reducible refine (h102 _).mono ?_); rintro e w5 ⟨rfl, b5⟩; clear x0 x1 y0 y1 f0 f1 sz; have Z := (unhide H).below b5; have H := hide Z; obtain ⟨x0, x1, y0, y1, f0, f1, sz⟩ := Z; have R5 := hide (below_sub (unhide R4) b5); clear b5)
    | (go_at_call 16; (with_reducible refine (hasA _).mono ?_); rintro e w6 ⟨rfl, b6⟩; clear x0 x1 y0 y1 f0 f1 sz; have Z := (unhide H).below b6; have H := hide Z; obtain ⟨x0, x1, y0, y1, f0, f1, sz⟩ := Z; have R6 := hide (below_sub (unhide R5) b6); clear b6)
    | (go_at_call 16; (with_reducible refine (hasB _).mono ?_); rintro e w7 ⟨rfl, b7⟩; clear x0 x1 y0 y1 f0 f1 sz; have Z := (unhide H).below b7; have H := hide Z; obtain ⟨x0, x1, y0, y1, f0, f1, sz⟩ := Z; have R7 := hide (below_sub (unhide R6) b7); clear b7)
    | (go_at_call 16; (with_reducible refine (hasC _).mono ?_); rintro e w8 ⟨rfl, b8⟩; clear x0 x1 y0 y1 f0 f1 sz; have Z := (unhide H).below b8; have H := hide Z; obtain ⟨x0, x1, y0, y1, f0, f1, sz⟩ := Z; have R8 := hide (below_sub (unhide R7) b8); clear b8)
    | (go_at_call 16; (with_reducible refine (hasD _).mono ?_); rintro e w9 ⟨rfl, b9⟩; clear x0 x1 y0 y1 f0 f1 sz; have Z := (unhide H).below b9; have H := hide Z; obtain ⟨x0, x1, y0, y1, f0, f1, sz⟩ := Z; have R9 := hide (below_sub (unhide R8) b9); clear b9))
  obtain ⟨b9, hb9⟩ : ∃ b9, w9.heap.size = b9 := ⟨_, rfl⟩
  have HON := One.new w9 l1 i1
  have sz9 : w.heap.size + 1 < b9 := by omega
  have HB9 := hide hb9
  rw [hb9] at HON
  rw [hb9]
  have HON' := hide HON
  clear HON x0 x1 f0 f1
  go_loopw [11] (fun _ wr => ∃ j : Nat, l1 + j ≤ l2 ∧ One wr b9 ((l1 + j : Nat) : Int) ((i1 / 2 ^ j : Nat) : Int) ∧ Below w9.heap.size w9 wr) (fun _ wr => l2 - (match wr.cell? ⟨b9, 0, none⟩ with | some v => (intOf v).toNat | none => 0))
  case atStart =>
    refine ⟨0, by omega, by simpa using unhide HON', ?_⟩
    exact (Below.refl _ _).alloc (Nat.le_refl _) _
  case round =>
    obtain ⟨j, hj, hone, hbel⟩ := hrel
    have HON := hide hone
    have HBL := hide hbel
    have z0 := (hbel.cell (p := ⟨w.heap.size + 1, 0, none⟩) (by exact sz)).trans y0
    have z1 := (hbel.cell (p := ⟨w.heap.size + 1, 1, none⟩) (by exact sz)).trans y1
    obtain ⟨o0, o1, fo, so⟩ := hone
    by_cases hjl : l1 + j < l2
    · have hoku := unhide HU j (by omega)
      have h12 := parent_good (l1 + j) (i1 / 2 ^ j) hoku (by omega)
      rw [up_div] at h12
      have hJ1 : l1 + j + 1 = l1 + (j + 1) := by omega
      rw [hJ1] at h12
      obtain ⟨L, hL⟩ : ∃ L, l1 + j = L := ⟨_, rfl⟩
      obtain ⟨I, hI⟩ : ∃ I, i1 / 2 ^ j = I := ⟨_, rfl⟩
      obtain ⟨L', hL'⟩ : ∃ L', l1 + (j + 1) = L' := ⟨_, rfl⟩
      obtain ⟨I', hI'⟩ : ∃ I', i1 / 2 ^ (j + 1) = I' := ⟨_, rfl⟩
      rw [hL, hI, hL', hI'] at h12
      rw [hL] at o0
      rw [hI] at o1
      have eL : (L' : Int) = (L : Int) + 1 := by omega
      have eL2 : IntKind.i64.wrap ((L : Int) + 1) = (L' : Int) := by rw [IntKind.wrap_i64]; omega
      have eL3 : ((L' : Int) != (L' : Int)) = false := by simp
      have cL : (L : Int) < (l2 : Int) := by omega
      have HX := hide (And.intro hL (And.intro hL' (And.intro hI' eL)))
      have HI := hide hI
      clear hL hI hL' hI' hJ1 hoku eL hbel
      go_wp2_with (go_at_call 12; refine (h12 _).mono ?_; rintro e w10 ⟨rfl, b10⟩; have u0 := (b10.cell (p := ⟨b9, 0, none⟩) (by exact so)).trans o0; have u1 := (b10.cell (p := ⟨b9, 1, none⟩) (by exact so)).trans o1; have uf : ∀ o, w10.frozen? ⟨b9, o, none⟩ = false := (fun o => (b10.frozen (p := ⟨b9, o, none⟩) (by exact so)).trans (fo o)); have us : b9 < w10.heap.size := Nat.lt_of_lt_of_le so b10.size; have une : ¬ b9 = w10.heap.size := (by omega); have B10 := hide b10; clear b10)
      obtain ⟨hL, hL', hI', eL⟩ := unhide HX
      have hO := (((unhide HON).below (unhide B10)).put (L' : Int) (I' : Int)).below ((Below.refl _ _).alloc (Nat.le_refl _) (.cells #[.int .i64 (L' : Int), .int .i64 (I' : Int)] 23))
      refine ⟨⟨j + 1, by omega, ?_, ?_⟩, ?_⟩
      · rw [hL', hI']
        exact hO
      · have hle : w9.heap.size ≤ b9 := by omega
        have hb := below_sub (unhide HBL) (unhide B10)
        exact ((hb.setCell hle _).setCell hle _).alloc (by simpa [World.setCell] using hb.size) _
      · rw [hO.1, o0]
        simp [intOf]
        omega
    · have hj2 : j = kk := by omega
      subst hj2
      obtain ⟨⟨hm1, hm2⟩, dA, dB, dC, dD, a2, a5⟩ := unhide HM
      have cL : ¬ ((l1 + j : Nat) : Int) < (l2 : Int) := by omega
      rw [hkk] at o0 cL
      have qe := eqlS l2 ((i1 / 2 ^ j : Nat) : Int) l2 i2
      by_cases hmm : i1 / 2 ^ j = i2
      · have e1 : decide ((l2 : Int) = (l2 : Int) ∧ ((i1 / 2 ^ j : Nat) : Int) = (i2 : Int)) = true := by
          rw [decide_eq_true_eq]; exact ⟨rfl, congrArg _ hmm⟩
        rw [e1] at qe
        have k1 := hm1.2 hmm
        have k2 := hm2 hmm
        have m1 : A ≤ D := by omega
        have m2 : C ≤ B := by omega
        have m3 : C ≤ A := by omega
        have m4 : B ≤ D := by omega
        obtain ⟨I, hI⟩ : ∃ I, i1 / 2 ^ j = I := ⟨_, rfl⟩
        rw [hI] at qe o1
        clear e1 hm1 hm2 dA dB dC dD k1 k2 hmm hI
        go_wp2
        go_ret
        exact ⟨rfl, below_sub (unhide R9) (unhide HBL)⟩
      · have e1 : decide ((l2 : Int) = (l2 : Int) ∧ ((i1 / 2 ^ j : Nat) : Int) = (i2 : Int)) = false := by
          rw [decide_eq_false_iff_not]
          rintro ⟨_, h⟩
          exact hmm (Int.natCast_inj.1 h)
        rw [e1] at qe
        have k1 : ¬ (Q1 < Q2 + T2 ∧ Q2 < Q1 + T1) := fun h => hmm (hm1.1 h)
        obtain ⟨I, hI⟩ : ∃ I, i1 / 2 ^ j = I := ⟨_, rfl⟩
        rw [hI] at qe o1
        by_cases m1 : A ≤ D
        · have m2 : ¬ C ≤ B := by omega
          clear e1 hm1 hm2 dA dB dC dD k1 hmm hI
          go_wp2
          go_ret
          exact ⟨rfl, below_sub (unhide R9) (unhide HBL)⟩
        · clear e1 hm1 hm2 dA dB dC dD k1 hmm hI
          go_wp2
          go_ret
          exact ⟨rfl, below_sub (unhide R9) (unhide HBL)⟩

set_option maxHeartbeats 1000000 in
theorem meets_bad1 (L I L' I' : Int) (h : ¬ okS L I) (hL : -9223372036854775808 ≤ L ∧ L ≤ 9223372036854775807) (hI : -9223372036854775808 ≤ I ∧ I ≤ 9223372036854775807) (w : World) (hG : G w) :
    Calls Tryd.prog 7 #[.agg #[.int .i64 L, .int .i64 I], .agg #[.int .i64 L', .int .i64 I']] w fun e w' => e = .returned (.bool true) ∧ Below w.heap.size w w' := by
  have hfix := fixed_any
  have h14 := check_bad L I h hL hI
  have HG := hide (hG.below' (((Below.refl w.heap.size w).alloc (Nat.le_refl _) (.cells #[.int .i64 L, .int .i64 I] 23)).alloc (by simp) (.cells #[.int .i64 L', .int .i64 I'] 23)))
  have H := hide (Two.new w L I L' I')
  have R0 := hide (((Below.refl w.heap.size w).alloc (Nat.le_refl _) (.cells #[.int .i64 L, .int .i64 I] 23)).alloc (by simp) (.cells #[.int .i64 L', .int .i64 I'] 23))
  clear h hG
  go_enter Tryd.func7, Tryd.ntmps7
  go_wp2_with (first
    | (go_at_call 9; refine (hfix _ (unhide HG)).mono ?_; rintro e w1 ⟨rfl, b1⟩; have Z := (unhide H).below b1; obtain ⟨x0, x1, y0, y1, f0, f1, sz⟩ := Z; have R1 := hide (below_sub2 (unhide R0) b1); clear b1)
    | (go_at_call 14; refine (h14 _).mono ?_; rintro e w2 ⟨rfl, b2⟩; have R2 := hide (below_sub (unhide R1) b2); clear b2))
  go_ret
  exact ⟨rfl, unhide R2⟩
set_option maxHeartbeats 1000000 in
theorem meets_bad2 (l i : Nat) (L' I' : Int) (hok : okN l i) (h : ¬ okS L' I') (hL : -9223372036854775808 ≤ L' ∧ L' ≤ 9223372036854775807) (hI : -9223372036854775808 ≤ I' ∧ I' ≤ 9223372036854775807) (w : World) (hG : G w) :
    Calls Tryd.prog 7 #[.agg #[.int .i64 l, .int .i64 i], .agg #[.int .i64 L', .int .i64 I']] w fun e w' => e = .returned (.bool true) ∧ Below w.heap.size w w' := by
  have hfix := fixed_any
  have h141 := check_good l i hok
  have h142 := check_bad L' I' h hL hI
  have HG := hide (hG.below' (((Below.refl w.heap.size w).alloc (Nat.le_refl _) (.cells #[.int .i64 l, .int .i64 i] 23)).alloc (by simp) (.cells #[.int .i64 L', .int .i64 I'] 23)))
  have H := hide (Two.new w l i L' I')
  have R0 := hide (((Below.refl w.heap.size w).alloc (Nat.le_refl _) (.cells #[.int .i64 l, .int .i64 i] 23)).alloc (by simp) (.cells #[.int .i64 L', .int .i64 I'] 23))
  clear h hG hok
  go_enter Tryd.func7, Tryd.ntmps7
  go_wp2_with (first
    | (go_at_call 9; refine (hfix _ (unhide HG)).mono ?_; rintro e w1 ⟨rfl, b1⟩; have Z := (unhide H).below b1; have H := hide Z; obtain ⟨x0, x1, y0, y1, f0, f1, sz⟩ := Z; have R1 := hide (below_sub2 (unhide R0) b1); clear b1)
    | (go_at_call 14; (with_reducible refine (h141 _).mono ?_); rintro e w2 ⟨rfl, b2⟩; clear x0 x1 y0 y1 f0 f1 sz; have Z := (unhide H).below b2; obtain ⟨x0, x1, y0, y1, f0, f1, sz⟩ := Z; have R2 := hide (below_sub (unhide R1) b2); clear b2)
    | (go_at_call 14; (with_reducible refine (h142 _).mono ?_); rintro e w3 ⟨rfl, b3⟩; have R3 := hide (below_sub (unhide R2) b3); clear b3))
  go_ret
  exact ⟨rfl, unhide R3⟩
theorem spanMeets_any (L I L' I' : Int) (hL : -9223372036854775808 ≤ L ∧ L ≤ 9223372036854775807) (hI : -9223372036854775808 ≤ I ∧ I ≤ 9223372036854775807) (hL' : -9223372036854775808 ≤ L' ∧ L' ≤ 9223372036854775807) (hI' : -9223372036854775808 ≤ I' ∧ I' ≤ 9223372036854775807) (w : World) (hG : G w) :
    Calls Tryd.prog 7 #[.agg #[.int .i64 L, .int .i64 I], .agg #[.int .i64 L', .int .i64 I']] w fun e w' => e = .returned (.bool true) ∧ Below w.heap.size w w' := by
  by_cases h : okS L I
  · obtain ⟨l, i, rfl, rfl, hk⟩ := h
    by_cases h' : okS L' I'
    · obtain ⟨l', i', rfl, rfl, hk'⟩ := h'
      by_cases hlt : l ≤ l'
      · exact meets_plain l i l' i' hk hk' hlt w hG
      · exact meets_swap l' i' l i hk' hk (by omega) w hG
    · exact meets_bad2 l i L' I' hk h' hL' hI' w hG
  · exact meets_bad1 L I L' I' h hL hI w hG
end Go.Proofs.YtjclojeihjgnkaaDoor

/- What Cover answers, for every two numbers. -/
import Derived.Test.YtjclojeihjgnkaaDoorOwn
import Derived.Test.YtjclojeihjgnkaaDoorBits
namespace Go.Proofs.YtjclojeihjgnkaaDoor
open Go.RowKit

theorem below_sub {a b c : World} (h : Below a.heap.size a b) (h2 : Below b.heap.size b c) : Below a.heap.size a c := h.trans (h2.mono h.size)

/-- The spans of the numbers from lo to hi. -/
def coverZ (lo hi : Int) : List (Nat × Nat) := cover (max lo (-2147483648) + 2147483648).toNat (min hi 2147483647 - max lo (-2147483648) + 1).toNat

theorem SrcK.one2 {w : World} (l i : Nat) (M : World) (h0 : M.cell? ⟨w.heap.size, 0, none⟩ = some (.int .i64 l)) (h1 : M.cell? ⟨w.heap.size, 1, none⟩ = some (.int .i64 i)) (hb : w.heap.size < M.heap.size) : SrcK encP 2 M (some ⟨w.heap.size, 0, none⟩) 1 [(l, i)] := by
  refine LsOf.src (fun h => by cases h) (LsOf.one hb fun c hc => ?_)
  have hm : c = 0 ∨ c = 1 := by omega
  rcases hm with e | e <;> rw [e]
  · exact h0
  · exact h1

set_option maxHeartbeats 1000000 in
theorem cover_any (lo hi : Int) (w : World) (hG : G w) :
    Calls Tryd.prog 22 #[.int .i64 lo, .int .i64 hi] w fun e w' => ∃ q cap, e = .returned (.slice q (coverZ lo hi).length cap) ∧ OwnK encP 23 2 w.heap.size w' q cap (coverZ lo hi) ∧ Below w.heap.size w w' := by
  unfold coverZ
  obtain ⟨x, hx⟩ : ∃ x, max lo (-2147483648) = x := ⟨_, rfl⟩
  obtain ⟨y, hy⟩ : ∃ y, min hi 2147483647 = y := ⟨_, rfl⟩
  rw [hx, hy]
  have hx1 : -2147483648 ≤ x := by omega
  have hy1 : y ≤ 2147483647 := by omega
  by_cases hxy : x ≤ y
  · obtain ⟨P0, hP⟩ : ∃ P0, (x + 2147483648).toNat = P0 := ⟨_, rfl⟩
    obtain ⟨R, hR⟩ : ∃ R, (y - x + 1).toNat = R := ⟨_, rfl⟩
    rw [hP, hR]
    have hPx : (P0 : Int) = x + 2147483648 := by omega
    have hRx : (R : Int) = y - x + 1 := by omega
    have hPR : P0 + R ≤ 4294967296 := by omega
    have hlen := cover_len P0 R hPR
    have HG := hide hG
    clear hG hP hR
    go_enter Tryd.func22, Tryd.ntmps22
    go_wp2
    go_loopw [0, 5] (fun a v wr => ∃ (p r : Nat) (d : List (Nat × Nat)) (q : Option Addr) (cap : Nat), a = .int .i64 ((p : Int) - 2147483648) ∧ p + r = P0 + R ∧ cover P0 R = d ++ cover p r ∧ v = .slice q d.length cap ∧ OwnK encP 23 2 w.heap.size wr q cap d ∧ Below w.heap.size w wr) (fun a _ _ => (y + 1 - intOf a).toNat)
    case atStart =>
      refine ⟨P0, R, [], none, 0, ?_, rfl, rfl, rfl, OwnK.nil _ _, Below.refl _ _⟩
      first
        | rfl
        | (congr 1; omega)
    case round =>
      obtain ⟨p, r, d, q, cap, rfl, hpr, hcov, rfl, hown, hbel⟩ := hrel
      by_cases h0 : 0 < r
      · have hst := cover_step p r h0
        have hdl : d.length + 1 ≤ 62 := by
          rw [hcov, hst, List.length_append, List.length_cons] at hlen
          omega
        have hle := lv_le p r h0 (by omega)
        have hcov2 := hcov
        rw [hst] at hcov2
        have HC := hide hcov2
        have hL : lv p r ≤ 32 := by
          apply Nat.le_of_not_lt
          intro hc
          have : (2 : Nat) ^ 33 ≤ 2 ^ lv p r := Nat.pow_le_pow_right (by decide) hc
          have e : (2 : Nat) ^ 33 = 8589934592 := by decide
          omega
        have eT := shl_t (lv p r) hL
        have hG1 := hide ((unhide HG).below' hbel)
        have hhi : ∀ w1, G w1 → Calls Tryd.prog 32 #[.int .i64 ((p : Int) - 2147483648), .int .i64 y] w1 fun e w' => e = .returned (.int .i64 (lv p r)) ∧ w' = w1 := fun w1 g => highest_any _ _ p r (by omega) (by omega) h0 (by omega) w1 g
        have hat : ∀ w1, Calls Tryd.prog 29 #[.int .i64 (lv p r), .int .i64 ((p : Int) - 2147483648)] w1 fun e w' => e = .returned (.agg #[.int .i64 (lv p r), .int .i64 ((p / 2 ^ lv p r : Nat) : Int)]) ∧ Below w1.heap.size w1 w' := fun w1 => at_any (lv p r) p _ (by omega) (by omega) (by omega) w1
        obtain ⟨l, hl⟩ : ∃ l, lv p r = l := ⟨_, rfl⟩
        obtain ⟨i, hi⟩ : ∃ i, p / 2 ^ lv p r = i := ⟨_, rfl⟩
        obtain ⟨T, hT⟩ : ∃ T, 2 ^ lv p r = T := ⟨_, rfl⟩
        have HL := hide (And.intro hl (And.intro hi hT))
        rw [hi, hl] at hat
        rw [hl] at hhi hL
        rw [hT] at eT hle
        rw [hl] at eT
        have hl2 : (l : Int) ≤ 32 := by omega
        have c1 : (p : Int) - 2147483648 ≤ y := by omega
        have e7 : IntKind.i64.wrap ((p : Int) - 2147483648 + T) = ((p + T : Nat) : Int) - 2147483648 := by rw [IntKind.wrap_i64]; omega
        have HO := hide hown
        clear hst hcov hcov2 hlen hown hl hi hT
        go_wp2_with (first
          | (go_at_call 32; refine (hhi _ (unhide hG1)).mono ?_; rintro e w1 ⟨rfl, rfl⟩)
          | (go_at_call 29; refine (hat _).mono ?_; rintro e w2 ⟨rfl, hb2⟩)
          | (at_builtin; refine wpList_app rowP rfl _ _ rfl w.heap.size q cap d (some ⟨w2.heap.size, 0, none⟩) 1 [(l, i)] d.length 1 (d.length + 1) rfl rfl rfl rfl rfl (((unhide HO).below hb2).below ((Below.refl _ _).alloc (Nat.le_refl _) _)) (SrcK.one2 l i _ (by simp) (by simp) (by simp)) (by unfold maxLen; omega) (by omega) (by have := hbel.size; have := hb2.size; simp; omega) ?_; intro q3 cap3 w3 o3 b3 n3 g3))
        obtain ⟨hl, hi, hT⟩ := unhide HL
        have b12 := below_sub hbel hb2
        refine ⟨⟨p + T, r - T, d ++ [(l, i)], q3, cap3, by rw [show ((p + T : Nat) : Int) - 2147483648 = (p : Int) + (T : Int) - 2147483648 by omega], by omega, ?_, by simp, o3, (b12.alloc (Nat.le_trans b12.size (Nat.le_refl _)) _).trans b3⟩, ?_⟩
        · have hc := unhide HC
          rw [hi, hT, hl] at hc
          rw [hc]
          simp
        · have := Nat.two_pow_pos (lv p r)
          rw [hT] at this
          simp [intOf]
          omega
      · have hr : r = 0 := by omega
        subst hr
        have c1 : ¬ (p : Int) - 2147483648 ≤ y := by omega
        have HC := hide hcov
        have HO := hide hown
        clear hcov hown hlen
        go_wp2
        go_ret
        have hc := unhide HC
        rw [cover_zero, List.append_nil] at hc
        rw [hc]
        exact ⟨q, cap, rfl, unhide HO, hbel⟩
  · have hz : (y - x + 1).toNat = 0 := by omega
    rw [hz, cover_zero]
    clear hz hG
    go_enter Tryd.func22, Tryd.ntmps22
    go_wp2
    go_loopw [0, 5] (fun a v wr => a = .int .i64 x ∧ v = .slice none 0 0 ∧ wr = w) (fun _ _ _ => 0)
    case atStart => exact ⟨rfl, rfl, rfl⟩
    case round =>
      obtain ⟨rfl, rfl, rfl⟩ := hrel
      go_wp2
      go_ret
      exact ⟨none, 0, rfl, OwnK.nil _ _, Below.refl _ _⟩
end Go.Proofs.YtjclojeihjgnkaaDoor

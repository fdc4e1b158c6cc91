/- span.Cover and span.Path, for every input. -/
import Derived.Test.YtedakipjfpdajaaGreatDoorZag
namespace Go.Proofs.YtedakipjfpdajaaGreatDoor
open Go.RowKit Go.Sort Go.Shelf

theorem Tryz.info58 : (Tryz.prog.info? 58).map (fun i => (i.zero, i.size, i.bytes)) = some (some (.agg #[.int .i64 0, .int .i64 0]), 2, 16) := by kernel_rfl
/-- A span as it lies in memory: level, index. -/
def encN (x : Nat × Nat) : List Value := [.int .i64 x.1, .int .i64 x.2]
theorem rowN : RowOf encN 55 58 2 16 where
  und := Tryz.underlying55
  info := by
    obtain ⟨i0, hi, hz0, hz1, hz2⟩ := info_parts Tryz.info58
    exact ⟨i0, _, hi, hz0, hz1, hz2, rfl⟩
  pos := by decide
  one := one_flat (fun x c hc => by
    have hm : c = 0 ∨ c = 1 := by omega
    rcases hm with e | e <;> rw [e] <;> rfl) (by decide)
theorem cells2N {w : World} {b off j : Nat} {v : Nat × Nat} (h : ∀ c, c < 2 → w.cell? ⟨b, off + j * 2 + c, none⟩ = some ((encN v)[c]!)) :
    w.cell? ⟨b, off + j * 2, none⟩ = some (.int .i64 v.1) ∧ w.cell? ⟨b, off + j * 2 + 1, none⟩ = some (.int .i64 v.2) :=
  ⟨h 0 (by omega), h 1 (by omega)⟩
theorem shl_t (l : Nat) (h : l ≤ 32) : IntKind.i64.wrap ((2 : Int) ^ l) = ((2 ^ l : Nat) : Int) := by
  have : 2 ^ l ≤ 2 ^ 32 := Nat.pow_le_pow_right (by decide) h
  rw [show (2 : Int) ^ l = ((2 ^ l : Nat) : Int) by rw [Int.natCast_pow]; rfl, IntKind.wrap_i64]
  have e : (2 : Nat) ^ 32 = 4294967296 := by decide
  generalize 2 ^ l = T at *
  omega



theorem place_any (x : Int) (p : Nat) (h : x + 2147483648 = p) (hp : p ≤ 8589934592) (w : World) :
    Calls Tryz.prog 103 #[.int .i64 x] w fun e w' => e = .returned (.int .i64 p) ∧ w' = w := by
  have e1 : x - -2147483648 = (p : Int) := by omega
  have e2 : IntKind.i64.wrap (p : Int) = p := by rw [IntKind.wrap_i64]; omega
  go_enter Tryz.func103, Tryz.ntmps103
  go_wp2
  go_ret
  exact ⟨by simp_all <;> omega, rfl⟩

theorem spNum_any (x : Int) (w : World) :
    Calls Tryz.prog 117 #[.int .i64 x] w fun e w' => e = .returned (.bool (decide (-2147483648 ≤ x) && decide (x ≤ 2147483647))) ∧ w' = w := by
  go_enter Tryz.func117, Tryz.ntmps117
  go_wp2
  all_goals (go_ret; exact ⟨by simp_all <;> omega, rfl⟩)

theorem shr_n (p l : Nat) : (p : Int) / 2 ^ l = ((p / 2 ^ l : Nat) : Int) := by
  rw [Int.natCast_ediv, Int.natCast_pow]; rfl

theorem at_any (l p : Nat) (x : Int) (h : x + 2147483648 = p) (hp : p ≤ 8589934592) (hl : l ≤ 64) (w : World) :
    Calls Tryz.prog 63 #[.int .i64 l, .int .i64 x] w fun e w' => e = .returned (.agg #[.int .i64 l, .int .i64 ((p / 2 ^ l : Nat) : Int)]) ∧ Below w.heap.size w w' := by
  have hpl := place_any x p h hp
  have e1 := shr_n p l
  obtain ⟨J, hJ⟩ : ∃ J, p / 2 ^ l = J := ⟨_, rfl⟩
  rw [hJ] at e1 ⊢
  have hl' : (l : Int) ≤ 64 := by omega
  clear hJ
  go_enter Tryz.func63, Tryz.ntmps63
  go_wp2_with (go_at_call 103; refine (hpl _).mono ?_; rintro e w1 ⟨rfl, rfl⟩)
  refine bodyPost_ret (v := .agg #[.int .i64 l, .int .i64 (J : Int)]) (by simp [results, Tryz.results63, go_sem]) rfl ⟨rfl, ?_⟩
  exact (Below.refl _ _).alloc (Nat.le_refl _) _

theorem bitLen_le64 (r : Nat) (h : r < 2 ^ 64) : Lib.bitLen r ≤ 64 := Lib.bitLen_le r 64 (Nat.le_refl _) h

theorem highest_any (x y : Int) (p r : Nat) (h : x + 2147483648 = p) (hr : y - x + 1 = r) (h0 : 0 < r) (hp : p + r ≤ 4294967296) (w : World) (hG : G w) :
    Calls Tryz.prog 62 #[.int .i64 x, .int .i64 y] w fun e w' => e = .returned (.int .i64 (lv p r)) ∧ w' = w := by
  have hpl := place_any x p h (by omega)
  have htz := fun w hT => Tryz.bits_TrailingZeros p (by omega) w hT
  have hle : ∀ w, Calls Tryz.prog 65 #[.int .u64 (r : Int)] w fun e w' => e = .returned (.int .i64 (Lib.bitLen r)) ∧ w' = w := fun w => Tryz.bits_Len (r : Int) w (by omega) (by omega)
  have hb := (bitLen_lo r h0 (by omega)).1
  have hb2 := bitLen_le64 r (by omega)
  have hc : Lib.ctz 64 p ≤ 64 := by
    by_cases hz : p = 0
    · simp [Lib.ctz, hz]
    · exact Nat.le_of_lt (Lib.lowest_bit 64 p hz (by omega)).2
  have el : lv p r = min (Lib.ctz 64 p) (Lib.bitLen r - 1) := rfl
  obtain ⟨c, hc'⟩ : ∃ c, Lib.ctz 64 p = c := ⟨_, rfl⟩
  obtain ⟨b, hb'⟩ : ∃ b, Lib.bitLen r = b := ⟨_, rfl⟩
  rw [hc'] at htz hc el
  rw [hb'] at hle hb hb2 el
  rw [el]
  have e1 : IntKind.u64.wrap (p : Int) = p := by rw [IntKind.wrap_u64]; omega
  have e2 : IntKind.u64.wrap (r : Int) = r := by rw [IntKind.wrap_u64]; omega
  have e3 : IntKind.i64.wrap (y - x) = (r : Int) - 1 := by rw [IntKind.wrap_i64]; omega
  have e4 : IntKind.i64.wrap ((r : Int) - 1 + 1) = (r : Int) := by rw [IntKind.wrap_i64]; omega
  have e5 : IntKind.i64.wrap ((b : Int) - 1) = ((b - 1 : Nat) : Int) := by rw [IntKind.wrap_i64]; omega
  obtain ⟨d, hd⟩ : ∃ d, b - 1 = d := ⟨_, rfl⟩
  rw [hd] at e5 ⊢
  have hT := hG.1
  clear hc' hb' el hd hG h0 hb
  go_enter Tryz.func62, Tryz.ntmps62
  go_wp2_with (first
    | (go_at_call 103; refine (hpl _).mono ?_; rintro e w1 ⟨rfl, rfl⟩)
    | (go_at_call 102; refine (htz _ hT).mono ?_; rintro e w1 ⟨rfl, rfl⟩)
    | (go_at_call 65; refine (hle _).mono ?_; rintro e w1 ⟨rfl, rfl⟩))
  go_ret
  exact ⟨congrArg (fun z => Ending.returned (.int .i64 z)) (by omega), rfl⟩
/-- The spans of the numbers from lo to hi. -/
def coverZ (lo hi : Int) : List (Nat × Nat) := cover (max lo (-2147483648) + 2147483648).toNat (min hi 2147483647 - max lo (-2147483648) + 1).toNat

theorem srcN_one {w : World} (l i : Nat) (M : World) (h0 : M.cell? ⟨w.heap.size, 0, none⟩ = some (.int .i64 l)) (h1 : M.cell? ⟨w.heap.size, 1, none⟩ = some (.int .i64 i)) (hb : w.heap.size < M.heap.size) : SrcK encN 2 M (some ⟨w.heap.size, 0, none⟩) 1 [(l, i)] := by
  refine LsOf.src (fun h => by cases h) (LsOf.one hb fun c hc => ?_)
  have hm : c = 0 ∨ c = 1 := by omega
  rcases hm with e | e <;> rw [e]
  · exact h0
  · exact h1

set_option maxHeartbeats 1000000 in
theorem cover_any (lo hi : Int) (w : World) (hG : G w) :
    Calls Tryz.prog 26 #[.int .i64 lo, .int .i64 hi] w fun e w' => ∃ q cap, e = .returned (.slice q (coverZ lo hi).length cap) ∧ OwnK encN 58 2 w.heap.size w' q cap (coverZ lo hi) ∧ Below w.heap.size w w' := by
  unfold coverZ
  obtain ⟨x, hx⟩ : ∃ x, max lo (-2147483648) = x := ⟨_, rfl⟩
  obtain ⟨y, hy⟩ : ∃ y, min hi 2147483647 = y := ⟨_, rfl⟩
  rw [hx, hy]
  have hx1 : -2147483648 ≤ x := by omega
  have hy1 : y ≤ 2147483647 := by omega
  by_cases hxy : x ≤ y
  · obtain ⟨P0, hP⟩ : ∃ P0, (x + 2147483648).toNat = P0 := ⟨_, rfl⟩
    obtain ⟨R, hR⟩ : ∃ R, (y - x + 1).toNat = R := ⟨_, rfl⟩
    rw [hP, hR]
    have hPx : (P0 : Int) = x + 2147483648 := by omega
    have hRx : (R : Int) = y - x + 1 := by omega
    have hPR : P0 + R ≤ 4294967296 := by omega
    have hlen := cover_len P0 R hPR
    have HG := hide hG
    clear hG hP hR
    go_enter Tryz.func26, Tryz.ntmps26
    go_wp2
    go_loopw [0, 5] (fun a v wr => ∃ (p r : Nat) (d : List (Nat × Nat)) (q : Option Addr) (cap : Nat), a = .int .i64 ((p : Int) - 2147483648) ∧ p + r = P0 + R ∧ cover P0 R = d ++ cover p r ∧ v = .slice q d.length cap ∧ OwnK encN 58 2 w.heap.size wr q cap d ∧ Below w.heap.size w wr) (fun a _ _ => (y + 1 - intOf a).toNat)
    case atStart =>
      refine ⟨P0, R, [], none, 0, ?_, rfl, rfl, rfl, OwnK.nil _ _, Below.refl _ _⟩
      first
        | rfl
        | (congr 1; omega)
    case round =>
      obtain ⟨p, r, d, q, cap, rfl, hpr, hcov, rfl, hown, hbel⟩ := hrel
      by_cases h0 : 0 < r
      · have hst := cover_step p r h0
        have hdl : d.length + 1 ≤ 62 := by
          rw [hcov, hst, List.length_append, List.length_cons] at hlen
          omega
        have hle := lv_le p r h0 (by omega)
        have hcov2 := hcov
        rw [hst] at hcov2
        have HC := hide hcov2
        have hL : lv p r ≤ 32 := by
          apply Nat.le_of_not_lt
          intro hc
          have : (2 : Nat) ^ 33 ≤ 2 ^ lv p r := Nat.pow_le_pow_right (by decide) hc
          have e : (2 : Nat) ^ 33 = 8589934592 := by decide
          omega
        have eT := shl_t (lv p r) hL
        have hG1 := hide ((unhide HG).below' hbel)
        have hhi : ∀ w1, G w1 → Calls Tryz.prog 62 #[.int .i64 ((p : Int) - 2147483648), .int .i64 y] w1 fun e w' => e = .returned (.int .i64 (lv p r)) ∧ w' = w1 := fun w1 g => highest_any _ _ p r (by omega) (by omega) h0 (by omega) w1 g
        have hat : ∀ w1, Calls Tryz.prog 63 #[.int .i64 (lv p r), .int .i64 ((p : Int) - 2147483648)] w1 fun e w' => e = .returned (.agg #[.int .i64 (lv p r), .int .i64 ((p / 2 ^ lv p r : Nat) : Int)]) ∧ Below w1.heap.size w1 w' := fun w1 => at_any (lv p r) p _ (by omega) (by omega) (by omega) w1
        obtain ⟨l, hl⟩ : ∃ l, lv p r = l := ⟨_, rfl⟩
        obtain ⟨i, hi⟩ : ∃ i, p / 2 ^ lv p r = i := ⟨_, rfl⟩
        obtain ⟨T, hT⟩ : ∃ T, 2 ^ lv p r = T := ⟨_, rfl⟩
        have HL := hide (And.intro hl (And.intro hi hT))
        rw [hi, hl] at hat
        rw [hl] at hhi hL
        rw [hT] at eT hle
        rw [hl] at eT
        have hl2 : (l : Int) ≤ 32 := by omega
        have c1 : (p : Int) - 2147483648 ≤ y := by omega
        have e7 : IntKind.i64.wrap ((p : Int) - 2147483648 + T) = ((p + T : Nat) : Int) - 2147483648 := by rw [IntKind.wrap_i64]; omega
        have HO := hide hown
        clear hst hcov hcov2 hlen hown hl hi hT
        go_wp2_with (first
          | (go_at_call 62; refine (hhi _ (unhide hG1)).mono ?_; rintro e w1 ⟨rfl, rfl⟩)
          | (go_at_call 63; refine (hat _).mono ?_; rintro e w2 ⟨rfl, hb2⟩)
          | (at_builtin; refine wpList_app rowN rfl _ _ rfl w.heap.size q cap d (some ⟨w2.heap.size, 0, none⟩) 1 [(l, i)] d.length 1 (d.length + 1) rfl rfl rfl rfl rfl (((unhide HO).below hb2).below ((Below.refl _ _).alloc (Nat.le_refl _) _)) (srcN_one l i _ (by simp) (by simp) (by simp)) (by unfold maxLen; omega) (by omega) (by have := hbel.size; have := hb2.size; simp; omega) ?_; intro q3 cap3 w3 o3 b3 n3 g3))
        obtain ⟨hl, hi, hT⟩ := unhide HL
        have b12 := below_sub hbel hb2
        refine ⟨⟨p + T, r - T, d ++ [(l, i)], q3, cap3, by rw [show ((p + T : Nat) : Int) - 2147483648 = (p : Int) + (T : Int) - 2147483648 by omega], by omega, ?_, by simp, o3, (b12.alloc (Nat.le_trans b12.size (Nat.le_refl _)) _).trans b3⟩, ?_⟩
        · have hc := unhide HC
          rw [hi, hT, hl] at hc
          rw [hc]
          simp
        · have := Nat.two_pow_pos (lv p r)
          rw [hT] at this
          simp [intOf]
          omega
      · have hr : r = 0 := by omega
        subst hr
        have c1 : ¬ (p : Int) - 2147483648 ≤ y := by omega
        have HC := hide hcov
        have HO := hide hown
        clear hcov hown hlen
        go_wp2
        go_ret
        have hc := unhide HC
        rw [cover_zero, List.append_nil] at hc
        rw [hc]
        exact ⟨q, cap, rfl, unhide HO, hbel⟩
  · have hz : (y - x + 1).toNat = 0 := by omega
    rw [hz, cover_zero]
    clear hz hG
    go_enter Tryz.func26, Tryz.ntmps26
    go_wp2
    go_loopw [0, 5] (fun a v wr => a = .int .i64 x ∧ v = .slice none 0 0 ∧ wr = w) (fun _ _ _ => 0)
    case atStart => exact ⟨rfl, rfl, rfl⟩
    case round =>
      obtain ⟨rfl, rfl, rfl⟩ := hrel
      go_wp2
      go_ret
      exact ⟨none, 0, rfl, OwnK.nil _ _, Below.refl _ _⟩
/-- The first k spans that have the place p lie in the block b, the others are still zero; all may be written. -/
def PthAt (w : World) (b p k : Nat) : Prop :=
  (∀ j, j < 33 → w.cell? ⟨b, j * 2, none⟩ = some (.int .i64 ((if j < k then j else 0 : Nat) : Int)) ∧ w.cell? ⟨b, j * 2 + 1, none⟩ = some (.int .i64 ((if j < k then p / 2 ^ j else 0 : Nat) : Int))) ∧ (∀ o, w.frozen? ⟨b, o, none⟩ = false) ∧ b < w.heap.size
theorem PthAt.below {w w' : World} {b p k : Nat} (h : PthAt w b p k) (hb : Below w.heap.size w w') : PthAt w' b p k :=
  ⟨fun j hj => ⟨(hb.cell (p := ⟨b, j * 2, none⟩) h.2.2).trans (h.1 j hj).1, (hb.cell (p := ⟨b, j * 2 + 1, none⟩) h.2.2).trans (h.1 j hj).2⟩, fun o => (hb.frozen (p := ⟨b, o, none⟩) h.2.2).trans (h.2.1 o), Nat.lt_of_lt_of_le h.2.2 hb.size⟩
theorem far (w : World) (b o o' : Nat) (v : Value) (h : o ≠ o') : (w.setCell ⟨b, o, none⟩ v).cell? ⟨b, o', none⟩ = w.cell? ⟨b, o', none⟩ := World.cell?_setCell_other w ⟨b, o, none⟩ ⟨b, o', none⟩ v (by intro g; injection g; omega)
theorem near {w : World} {b o : Nat} {u : Value} (v : Value) (h : w.cell? ⟨b, o, none⟩ = some u) : (w.setCell ⟨b, o, none⟩ v).cell? ⟨b, o, none⟩ = some v := World.cell?_setCell_same w ⟨b, o, none⟩ v h
theorem PthAt.put {w : World} {b p k : Nat} (h : PthAt w b p k) : PthAt ((w.setCell ⟨b, k * 2, none⟩ (.int .i64 k)).setCell ⟨b, k * 2 + 1, none⟩ (.int .i64 ((p / 2 ^ k : Nat) : Int))) b p (k + 1) := by
  refine ⟨fun j hj => ?_, fun o => by simpa using h.2.1 o, by simpa [World.setCell] using h.2.2⟩
  obtain ⟨h0, h1⟩ := h.1 j hj
  by_cases e : j = k
  · subst e
    refine ⟨?_, ?_⟩
    · rw [far _ _ _ _ _ (by omega), near _ h0]
      simp
    · rw [near _ ((far w b (j * 2) (j * 2 + 1) _ (by omega)).trans h1)]
      simp
  · have e2 : (j < k + 1) = (j < k) := by simp; omega
    refine ⟨?_, ?_⟩
    · rw [far _ _ _ _ _ (by omega), far _ _ _ _ _ (by omega), h0]
      simp [e2]
    · rw [far _ _ _ _ _ (by omega), far _ _ _ _ _ (by omega), h1]
      simp [e2]

theorem makeP : ∃ cur : Array Value, (∀ j, j < 66 → cur[j]? = some (.int .i64 0)) ∧ ∀ W : World, (Instr.makeSlice 55 (.int .i64 33) (.int .i64 33)).run Tryz.prog W = .ok (.slice (some ⟨W.heap.size, 0, none⟩) 33 33) (W.alloc (.cells cur 58)) := by
  obtain ⟨i0, hi, hz0, hz1, hz2⟩ := info_parts Tryz.info58
  refine ⟨madeCells (Value.cells (.agg #[.int .i64 0, .int .i64 0])) (33 * i0.size), fun j hj => ?_, fun W => ?_⟩
  · rw [hz1]
    have hm : ∀ t, t < 2 → (Value.cells (.agg #[.int .i64 0, .int .i64 0]))[t]! = .int .i64 0 := by
      intro t ht
      have : t = 0 ∨ t = 1 := by omega
      rcases this with e | e <;> subst e <;> rfl
    rw [Array.getElem?_eq_getElem (by rw [size_madeCells]; omega)]
    simp only [madeCells, Array.getElem_map, Array.getElem_range]
    exact congrArg some (hm _ (Nat.mod_lt _ (by decide)))
  · have := run_make (P := Tryz.prog) W 55 58 i0 _ Tryz.underlying55 hi hz0 .i64 .i64 33 33 (by omega) (by omega) (by rw [hz2]; omega) (by omega)
    exact this
theorem PthAt.new (w : World) (p : Nat) (cur : Array Value) (h : ∀ j, j < 66 → cur[j]? = some (.int .i64 0)) : PthAt (w.alloc (.cells cur 58)) w.heap.size p 0 := by
  refine ⟨fun j hj => ?_, fun o => by simp, by simp⟩
  simp [h (j * 2) (by omega), h (j * 2 + 1) (by omega)]
theorem path_none (x : Int) (h : ¬ (-2147483648 ≤ x ∧ x ≤ 2147483647)) (w : World) :
    Calls Tryz.prog 71 #[.int .i64 x] w fun e w' => e = .returned (.slice none 0 0) ∧ w' = w := by
  have hn : ∀ w, Calls Tryz.prog 117 #[.int .i64 x] w fun e w' => e = .returned (.bool false) ∧ w' = w := fun w => (spNum_any x w).mono fun e w' ⟨he, hw⟩ => ⟨by rw [he]; simp; omega, hw⟩
  clear h
  go_enter Tryz.func71, Tryz.ntmps71
  go_wp2_with (go_at_call 117; refine (hn _).mono ?_; rintro e w1 ⟨rfl, rfl⟩)
  go_ret
  exact ⟨rfl, rfl⟩

set_option maxHeartbeats 1000000 in
theorem path_any (x : Int) (p : Nat) (h : x + 2147483648 = p) (hp : p < 4294967296) (w : World) :
    Calls Tryz.prog 71 #[.int .i64 x] w fun e w' => e = .returned (.slice (some ⟨w.heap.size, 0, none⟩) 33 33) ∧ PthAt w' w.heap.size p 33 ∧ Below w.heap.size w w' := by
  have hn : ∀ w, Calls Tryz.prog 117 #[.int .i64 x] w fun e w' => e = .returned (.bool true) ∧ w' = w := fun w => (spNum_any x w).mono fun e w' ⟨he, hw⟩ => ⟨by rw [he]; simp; omega, hw⟩
  obtain ⟨cur, hcur, hmk⟩ := makeP
  go_enter Tryz.func71, Tryz.ntmps71
  go_wp2_with (go_at_call 117; refine (hn _).mono ?_; rintro e w1 ⟨rfl, hw1⟩; rw [hw1])
  go_loopw [11] (fun i wr => ∃ k : Nat, k ≤ 33 ∧ i = .int .i64 k ∧ PthAt wr w.heap.size p k ∧ Below w.heap.size w wr) (fun i _ => 33 - (intOf i).toNat)
  case atStart => exact ⟨0, by omega, rfl, PthAt.new _ _ _ hcur, (Below.refl _ _).alloc (Nat.le_refl _) _⟩
  case round =>
    obtain ⟨k, hk, rfl, hP, hbel⟩ := hrel
    by_cases hlt : k < 33
    · have hat := at_any k p x h (by omega) (by omega)
      have HP := hide hP
      have HX := hide (And.intro hbel h)
      clear hP h
      have ki : (k : Int) < 33 := by omega
      obtain ⟨J, hJ⟩ : ∃ J, p / 2 ^ k = J := ⟨_, rfl⟩
      rw [hJ] at hat
      have HJ := hide hJ
      clear hJ
      go_wp2_with (go_at_call 63; refine (hat _).mono ?_; rintro e w2 ⟨rfl, hb2⟩; have P2 := (unhide HP).below hb2; have f0 := P2.2.1; obtain ⟨g0, g1⟩ := P2.1 k (by omega))
      refine ⟨⟨k + 1, by omega, by simp, ?_, ((below_sub (unhide HX).1 hb2).setCell (by simp) _).setCell (by simp) _⟩, by simp [intOf]; omega⟩
      rw [← unhide HJ]
      exact P2.put
    · obtain rfl : k = 33 := by omega
      have HP := hide hP
      clear hP
      go_wp2
      go_ret
      exact ⟨rfl, unhide HP, hbel⟩
theorem PthAt.get {w : World} {b X j : Nat} (h : PthAt w b X 33) (hj : j < 33) : w.cell? ⟨b, j * 2, none⟩ = some (.int .i64 (j : Int)) ∧ w.cell? ⟨b, j * 2 + 1, none⟩ = some (.int .i64 ((X / 2 ^ j : Nat) : Int)) := by
  have h1 := h.1 j hj
  simp only [if_pos hj] at h1
  exact h1

/-- The first j spans that have the place p. -/
def pathL (p j : Nat) : List (Nat × Nat) := (List.range j).map fun t => (t, p / 2 ^ t)
theorem pathL_len (p j : Nat) : (pathL p j).length = j := by simp [pathL]
theorem pathL_step (p j : Nat) : pathL p j ++ [(j, p / 2 ^ j)] = pathL p (j + 1) := by simp [pathL, List.range_succ]
theorem pathL_get (p j t : Nat) (h : t < j) : (pathL p j)[t]? = some (t, p / 2 ^ t) := by simp [pathL, h]

/-- A path as the program lays it, as a list in memory. -/
theorem PthAt.ls {w : World} {b p : Nat} (h : PthAt w b p 33) : LsOf encN 2 w (some ⟨b, 0, none⟩) (pathL p 33) := fun _ =>
  ⟨b, 0, rfl, h.2.2, fun t u ht => by
    have hs := (List.getElem?_eq_some_iff.1 ht).1
    have hlt : t < 66 := by simpa [pathL_len] using hs
    have hg := pathL_get p 33 (t / 2) (by omega)
    have h2 := flat_at (enc := encN) (k := 2) hg (t % 2) (Nat.mod_lt _ (by decide))
    rw [show t / 2 * 2 + t % 2 = t by omega, ht] at h2
    injection h2 with h2
    rw [Nat.zero_add, h2]
    obtain ⟨c0, c1⟩ := h.get (j := t / 2) (by omega)
    have hm : t % 2 = 0 ∨ t % 2 = 1 := by omega
    rcases hm with e | e
    · rw [e, show t = t / 2 * 2 by omega]
      have e3 : t / 2 * 2 / 2 = t / 2 := by omega
      rw [e3]
      exact c0
    · rw [e]
      have e3 : t = t / 2 * 2 + 1 := by omega
      rw [show (⟨b, t, none⟩ : Addr) = ⟨b, t / 2 * 2 + 1, none⟩ by rw [← e3]]
      exact c1⟩

end Go.Proofs.YtedakipjfpdajaaGreatDoor

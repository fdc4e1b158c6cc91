/- What Common answers, for every list of numbers. -/
import Derived.Test.YtjclojeihjgnkaaDoorPath
namespace Go.Proofs.YtjclojeihjgnkaaDoor
open Go.RowKit

theorem lt_pow_iff (a k : Nat) : a < 2 ^ k ↔ a >>> k = 0 := by
  rw [Nat.shiftRight_eq_div_pow, Nat.div_eq_zero_iff]
  have := Nat.two_pow_pos k
  omega
theorem or_lt_iff (a b k : Nat) : (a ||| b) < 2 ^ k ↔ a < 2 ^ k ∧ b < 2 ^ k := by
  rw [lt_pow_iff, lt_pow_iff, lt_pow_iff, Nat.shiftRight_or_distrib, Nat.or_eq_zero_iff]
theorem xor_lt_iff (a b k : Nat) : (a ^^^ b) < 2 ^ k ↔ a / 2 ^ k = b / 2 ^ k := by
  rw [lt_pow_iff, Nat.shiftRight_xor_distrib, ← Nat.shiftRight_eq_div_pow, ← Nat.shiftRight_eq_div_pow]
  constructor
  · intro h
    apply Nat.eq_of_testBit_eq
    intro i
    have h2 := congrArg (fun z => z.testBit i) h
    simp only [Nat.testBit_xor, Nat.zero_testBit] at h2
    revert h2
    cases (a >>> k).testBit i <;> cases (b >>> k).testBit i <;> simp
  · intro h
    rw [h, Nat.xor_self]

/-- In which bits the places differ from the first. -/
def unl (a : Nat) (l : List Nat) : Nat := l.foldl (fun u x => u ||| (x ^^^ a)) 0
theorem foldl_lt (a k : Nat) : ∀ (l : List Nat) (u : Nat), l.foldl (fun u x => u ||| (x ^^^ a)) u < 2 ^ k ↔ u < 2 ^ k ∧ ∀ x ∈ l, x / 2 ^ k = a / 2 ^ k
  | [], u => by simp
  | x :: l, u => by
    rw [List.foldl_cons, foldl_lt a k l, or_lt_iff, xor_lt_iff]
    simp [and_assoc]
theorem unl_lt (a k : Nat) (l : List Nat) : unl a l < 2 ^ k ↔ ∀ x ∈ l, x / 2 ^ k = a / 2 ^ k := by
  unfold unl; rw [foldl_lt]; simp [Nat.two_pow_pos]
theorem unl_snoc (a x : Nat) (l : List Nat) : unl a (l ++ [x]) = unl a l ||| (x ^^^ a) := by
  unfold unl; simp

def isNum (x : Int) : Bool := decide (-2147483648 ≤ x) && decide (x ≤ 2147483647)
def plc (x : Int) : Nat := (x + 2147483648).toNat
/-- The lowest span that has all. -/
def comZ (xs : List Int) : Option (Nat × Nat) :=
  match xs with
  | [] => none
  | x :: _ => if xs.all isNum then some (Lib.bitLen (unl (plc x) (xs.map plc)), plc x / 2 ^ Lib.bitLen (unl (plc x) (xs.map plc))) else none
def comV (o : Option (Nat × Nat)) : Value :=
  match o with
  | some s => .tuple #[.agg #[.int .i64 s.1, .int .i64 s.2], .bool true]
  | none => .tuple #[.agg #[.int .i64 0, .int .i64 0], .bool false]

theorem plc_lt {x : Int} (h : isNum x = true) : plc x < 4294967296 ∧ x + 2147483648 = (plc x : Int) := by
  unfold isNum at h
  unfold plc
  simp at h
  omega

theorem unl_small {a : Nat} {l : List Nat} (ha : a < 2 ^ 32) (h : ∀ x ∈ l, x < 2 ^ 32) : unl a l < 2 ^ 32 :=
  (unl_lt a 32 l).2 fun x hx => by rw [Nat.div_eq_of_lt (h x hx), Nat.div_eq_of_lt ha]

theorem bits_or_n (a b : Nat) (ha : a < 2 ^ 62) (hb : b < 2 ^ 62) : bits .or .i64 (a : Int) (b : Int) = ((a ||| b : Nat) : Int) := by
  have hx : a ||| b < 2 ^ 62 := Nat.or_lt_two_pow ha hb
  have h1 : (BitVec.ofInt 64 (a : Int)).toNat = a := by
    rw [BitVec.ofInt_natCast, BitVec.toNat_ofNat]; exact Nat.mod_eq_of_lt (by omega)
  have h2 : (BitVec.ofInt 64 (b : Int)).toNat = b := by
    rw [BitVec.ofInt_natCast, BitVec.toNat_ofNat]; exact Nat.mod_eq_of_lt (by omega)
  show IntKind.i64.wrap ((BitVec.ofInt 64 (a : Int) ||| BitVec.ofInt 64 (b : Int)).toNat : Int) = _
  rw [BitVec.toNat_or, h1, h2, IntKind.wrap_i64]
  omega
theorem bits_xor_n (a b : Nat) (ha : a < 2 ^ 62) (hb : b < 2 ^ 62) : bits .xor .i64 (a : Int) (b : Int) = ((a ^^^ b : Nat) : Int) := by
  have hx : a ^^^ b < 2 ^ 62 := Nat.xor_lt_two_pow ha hb
  have h1 : (BitVec.ofInt 64 (a : Int)).toNat = a := by
    rw [BitVec.ofInt_natCast, BitVec.toNat_ofNat]; exact Nat.mod_eq_of_lt (by omega)
  have h2 : (BitVec.ofInt 64 (b : Int)).toNat = b := by
    rw [BitVec.ofInt_natCast, BitVec.toNat_ofNat]; exact Nat.mod_eq_of_lt (by omega)
  show IntKind.i64.wrap ((BitVec.ofInt 64 (a : Int) ^^^ BitVec.ofInt 64 (b : Int)).toNat : Int) = _
  rw [BitVec.toNat_xor, h1, h2, IntKind.wrap_i64]
  omega

theorem com_none_nil (q : Option Addr) (cap : Nat) (w : World) :
    Calls Tryd.prog 19 #[.slice q 0 cap] w fun e w' => e = .returned (comV none) ∧ Below w.heap.size w w' := by
  go_enter Tryd.func19, Tryd.ntmps19
  go_wp2
  refine bodyPost_ret (v := .tuple #[.agg #[.int .i64 0, .int .i64 0], .bool false]) (by simp [results, Tryd.results19, go_sem]) rfl ⟨rfl, ?_⟩
  exact (((Below.refl _ _).alloc (Nat.le_refl _) _))
/-- A zero span of the call's own, that may be written. -/
def Bx (w : World) (b : Nat) : Prop := w.cell? ⟨b, 0, none⟩ = some (.int .i64 0) ∧ w.cell? ⟨b, 1, none⟩ = some (.int .i64 0) ∧ (∀ o, w.frozen? ⟨b, o, none⟩ = false) ∧ b < w.heap.size
theorem Bx.below {w w' : World} {b : Nat} (h : Bx w b) (hb : Below w.heap.size w w') : Bx w' b :=
  ⟨(hb.cell (p := ⟨b, 0, none⟩) h.2.2.2).trans h.1, (hb.cell (p := ⟨b, 1, none⟩) h.2.2.2).trans h.2.1, fun o => (hb.frozen (p := ⟨b, o, none⟩) h.2.2.2).trans (h.2.2.1 o), Nat.lt_of_lt_of_le h.2.2.2 hb.size⟩
theorem below_drew (w : World) : Below w.heap.size w w.drew := (Below.refl _ _).drew

theorem comZ_bad {x0 : Int} {r : List Int} {k : Nat} {x : Int} (h : (x0 :: r)[k]? = some x) (hx : isNum x = false) : comZ (x0 :: r) = none := by
  have hn : ¬ (x0 :: r).all isNum = true := by
    intro h2
    rw [List.all_eq_true] at h2
    have := h2 x (List.mem_of_getElem? h)
    rw [hx] at this
    cases this
  simp only [comZ, if_neg hn]
theorem comZ_good {x0 : Int} {r xs : List Int} (e : x0 :: r = xs) (h : xs.all isNum = true) : comZ xs = some (Lib.bitLen (unl (plc x0) (xs.map plc)), plc x0 / 2 ^ Lib.bitLen (unl (plc x0) (xs.map plc))) := by
  subst e
  simp only [comZ, if_pos h]
theorem all_take {l : List Int} {k : Nat} {x : Int} (h : (l.take k).all isNum = true) (hk : l[k]? = some x) (hx : isNum x = true) : (l.take (k + 1)).all isNum = true := by
  rw [List.take_add_one, hk]
  simp [h, hx]

set_option maxHeartbeats 1000000 in
theorem com_any (x0 : Int) (r : List Int) (q : Option Addr) (cap : Nat) (w : World) (hl : r.length + 1 ≤ 140737488355328) (hA : LsOf encI 1 w q (x0 :: r)) :
    Calls Tryd.prog 19 #[.slice q (r.length + 1) cap] w fun e w' => e = .returned (comV (comZ (x0 :: r))) ∧ Below w.heap.size w w' := by
  obtain ⟨b, off, rfl, hb, hcell⟩ := hA (by simp)
  have hat : ∀ (j : Nat) (x : Int), (x0 :: r)[j]? = some x → w.cell? ⟨b, off + j, none⟩ = some (.int .i64 x) := fun j x hj => by
    have := hcell (j * 1 + 0) _ (flat_at (enc := encI) (k := 1) hj 0 (by omega))
    simpa [encI] using this
  clear hcell hA
  have HA := hide hat
  clear hat
  obtain ⟨n, hn⟩ : ∃ n, r.length + 1 = n := ⟨_, rfl⟩
  have hn' : (x0 :: r).length = n := by simpa using hn
  rw [hn] at hl ⊢
  have n0 : ((n : Int) == 0) = false := by simp; omega
  have n1 : (0 : Int) < (n : Int) := by omega
  have n2 : 0 < n := by omega
  obtain ⟨xs, hxs⟩ : ∃ xs, x0 :: r = xs := ⟨_, rfl⟩
  have HXS := hide hxs
  rw [hxs] at hn' HA ⊢
  have HN := hide (And.intro hn hn')
  have hx0 : xs[0]? = some x0 := by rw [← hxs]; rfl
  have HX0 := hide hx0
  clear hxs hn hn' hx0
  go_enter Tryd.func19, Tryd.ntmps19
  go_wp2
  go_loopw [4, 13] (fun u i wr => ∃ k : Nat, k ≤ n ∧ i = .int .i64 k ∧ (xs.take k).all isNum = true ∧ u = .int .i64 ((unl (plc x0) ((xs.take k).map plc) : Nat) : Int) ∧ Below w.heap.size w wr ∧ Bx wr w.heap.size) (fun _ i _ => n - (intOf i).toNat)
  case atStart => exact ⟨0, by omega, rfl, rfl, rfl, (Below.refl _ _).alloc (Nat.le_refl _) _, by simp, by simp, fun o => by simp, by simp⟩
  case round =>
    obtain ⟨k, hk, rfl, hall, rfl, bel0, hbx⟩ := hrel
    by_cases hlt : k < n
    · obtain ⟨x, hx, -⟩ := get_at (l := xs) (k := k) (by rw [(unhide HN).2]; exact hlt)
      have gx := (bel0.cell (p := ⟨b, off + k, none⟩) hb).trans (unhide HA k x hx)
      have g0 : wr.cell? ⟨b, off, none⟩ = some (.int .i64 x0) := (bel0.cell (p := ⟨b, off, none⟩) hb).trans (unhide HA 0 x0 (unhide HX0))
      have HB := hide hbx
      obtain ⟨z0, z1, fr, sz⟩ := hbx
      have ki0 : (0 : Int) ≤ (k : Int) := by omega
      have ki1 : (k : Int) < (n : Int) := by omega
      have HX := hide hx
      have HALL := hide hall
      obtain ⟨U, hU⟩ : ∃ U, unl (plc x0) ((xs.take k).map plc) = U := ⟨_, rfl⟩
      rw [hU]
      have HU := hide hU
      clear hx hall hU
      cases hnum : isNum x with
      | false =>
        have hn : ∀ w, Calls Tryd.prog 27 #[.int .i64 x] w fun e w' => e = .returned (.bool false) ∧ w' = w := fun w => (isNumber_any x w).mono fun e w' ⟨he, hw⟩ => ⟨by rw [he]; exact congrArg (fun z => Ending.returned (.bool z)) hnum, hw⟩
        have HNUM := hide hnum
        clear hnum
        go_wp2_with (go_at_call 27; refine (hn _).mono ?_; rintro e w1 ⟨rfl, rfl⟩)
        refine bodyPost_ret (v := .tuple #[.agg #[.int .i64 0, .int .i64 0], .bool false]) (by simp [results, Tryd.results19, go_sem, z0, z1]) rfl ⟨?_, (bel0.setCell (by simp) _).setCell (by simp) _⟩
        rw [← unhide HXS, comZ_bad (by rw [unhide HXS]; exact unhide HX) (unhide HNUM)]
        rfl
      | true =>
        have hn : ∀ w, Calls Tryd.prog 27 #[.int .i64 x] w fun e w' => e = .returned (.bool true) ∧ w' = w := fun w => (isNumber_any x w).mono fun e w' ⟨he, hw⟩ => ⟨by rw [he]; exact congrArg (fun z => Ending.returned (.bool z)) hnum, hw⟩
        have hall1 := all_take (unhide HALL) (unhide HX) hnum
        have hnum0 : isNum x0 = true := by
          have h1 := List.all_eq_true.1 hall1 x0 (by rw [← unhide HXS]; simp)
          exact h1
        obtain ⟨p1, p2⟩ := plc_lt hnum
        obtain ⟨p3, p4⟩ := plc_lt hnum0
        have hp := place_any x (plc x) p2 (by omega)
        have hp0 := place_any x0 (plc x0) p4 (by omega)
        have hUs : U < 2 ^ 32 := by
          rw [← unhide HU]
          exact unl_small (by omega) fun y hy => by
            obtain ⟨z, hz, rfl⟩ := List.mem_map.1 hy
            exact (plc_lt (List.all_eq_true.1 (unhide HALL) z hz)).1
        have hu1 : unl (plc x0) ((xs.take (k + 1)).map plc) = U ||| (plc x ^^^ plc x0) := by
          rw [List.take_add_one, unhide HX, ← unhide HU]
          simp only [Option.toList_some, List.map_append, List.map_cons, List.map_nil]
          exact unl_snoc _ _ _
        have e1 := bits_xor_n (plc x) (plc x0) (by omega) (by omega)
        have hxs : plc x ^^^ plc x0 < 2 ^ 32 := Nat.xor_lt_two_pow (by omega) (by omega)
        have e2 := bits_or_n U (plc x ^^^ plc x0) (by omega) (by omega)
        have HR := hide (And.intro hall1 (And.intro hnum0 hu1))
        obtain ⟨A, hA⟩ : ∃ A, plc x = A := ⟨_, rfl⟩
        obtain ⟨B, hB⟩ : ∃ B, plc x0 = B := ⟨_, rfl⟩
        rw [hA] at hp e1 e2
        rw [hB] at hp0 e1 e2
        obtain ⟨X, hX⟩ : ∃ X, A ^^^ B = X := ⟨_, rfl⟩
        rw [hX] at e1 e2
        obtain ⟨Y, hY⟩ : ∃ Y, U ||| X = Y := ⟨_, rfl⟩
        rw [hY] at e2
        have HY := hide (And.intro hA (And.intro hB (And.intro hX hY)))
        clear hnum hall1 hnum0 p1 p2 p3 p4 hUs hu1 hxs hA hB hX hY
        go_wp2_with (go_at_call 27; refine (hn _).mono ?_; rintro e w1 ⟨rfl, rfl⟩)
        go_region_held3 (fun w' => w'.cell? ⟨b, off, none⟩ = some (.int .i64 x0)) (first | go_keep | exact g0)
          (first
            | (go_at_call 28; with_reducible refine (hp _).mono ?_; rintro e w2 ⟨rfl, rfl⟩)
            | (go_at_call 28; with_reducible refine (hp0 _).mono ?_; rintro e w2 ⟨rfl, rfl⟩))
        go_wp2
        go_roundw
        case rel =>
          obtain ⟨hA, hB, hX, hY⟩ := unhide HY
          obtain ⟨r1, r2, r3⟩ := unhide HR
          refine ⟨k + 1, by omega, by simp, r1, ?_, below_sub bel0 (below_drew _), (unhide HB).below (below_drew _)⟩
          rw [r3, hA, hB, hX, hY]
        case measure => simp [intOf]; omega
    · obtain rfl : k = n := by omega
      have hall' : xs.all isNum = true := by
        rw [← (unhide HN).2, List.take_length] at hall
        exact hall
      have hU' : unl (plc x0) ((xs.take k).map plc) = unl (plc x0) (xs.map plc) := by rw [← (unhide HN).2, List.take_length]
      rw [hU']
      have hnum0 : isNum x0 = true := List.all_eq_true.1 hall' x0 (by rw [← unhide HXS]; simp)
      obtain ⟨p3, p4⟩ := plc_lt hnum0
      have hcom := comZ_good (unhide HXS) hall'
      have hUs : unl (plc x0) (xs.map plc) < 2 ^ 32 := unl_small (by omega) fun y hy => by
        obtain ⟨z, hz, rfl⟩ := List.mem_map.1 hy
        exact (plc_lt (List.all_eq_true.1 hall' z hz)).1
      obtain ⟨U, hU⟩ : ∃ U, unl (plc x0) (xs.map plc) = U := ⟨_, rfl⟩
      rw [hU] at hUs hcom ⊢
      have hbl : Lib.bitLen U ≤ 32 := Lib.bitLen_le U 32 (by omega) hUs
      have hle : ∀ w, Calls Tryd.prog 30 #[.int .u64 (U : Int)] w fun e w' => e = .returned (.int .i64 (Lib.bitLen U)) ∧ w' = w := fun w => Tryd.bits_Len (U : Int) w (by omega) (by omega)
      have hat := at_any (Lib.bitLen U) (plc x0) x0 p4 (by omega) (by omega)
      obtain ⟨L, hL⟩ : ∃ L, Lib.bitLen U = L := ⟨_, rfl⟩
      rw [hL] at hle hat hbl hcom
      obtain ⟨J, hJ⟩ : ∃ J, plc x0 / 2 ^ L = J := ⟨_, rfl⟩
      rw [hJ] at hat hcom
      have HC := hide hcom
      have e1 : IntKind.u64.wrap (U : Int) = U := by rw [IntKind.wrap_u64]; omega
      have g0 : wr.cell? ⟨b, off, none⟩ = some (.int .i64 x0) := (bel0.cell (p := ⟨b, off, none⟩) hb).trans (unhide HA 0 x0 (unhide HX0))
      have hbw : b < wr.heap.size := Nat.lt_of_lt_of_le hb bel0.size
      have HB := hide hbx
      obtain ⟨z0, z1, fr, sz⟩ := hbx
      clear hall hall' hU' hnum0 p3 p4 hcom hU hL hJ
      go_wp2
      have hne : w.heap.size ≠ b := by omega
      go_region_held3 (fun w' => w'.cell? ⟨b, off, none⟩ = some (.int .i64 x0))
        (first | go_keep | exact (hb2.cell (p := ⟨b, off, none⟩) (by exact hbw)).trans g0 | exact ((World.cell?_setCell_far _ _ _ _ (by exact hne)).trans (World.cell?_setCell_far _ _ _ _ (by exact hne))).trans ((hb2.cell (p := ⟨b, off, none⟩) (by exact hbw)).trans g0))
        (first
          | (go_at_call 30; refine (hle _).mono ?_; rintro e w2 ⟨rfl, rfl⟩)
          | (go_at_call 29; refine (hat _).mono ?_; rintro e w2 ⟨rfl, hb2⟩; have y0 := (hb2.cell (p := ⟨w.heap.size, 0, none⟩) (by exact sz)).trans z0; have y1 := (hb2.cell (p := ⟨w.heap.size, 1, none⟩) (by exact sz)).trans z1; have yf : ∀ o, w2.frozen? ⟨w.heap.size, o, none⟩ = false := fun o => (hb2.frozen (p := ⟨w.heap.size, o, none⟩) (by exact sz)).trans (fr o)))
      go_wp2
      refine bodyPost_ret (v := .tuple #[.agg #[.int .i64 L, .int .i64 J], .bool true]) (by simp [results, Tryd.results19, go_sem, y0, y1]) rfl ⟨?_, ((below_sub bel0 (below_undrew hb2)).setCell (by simp) _).setCell (by simp) _⟩
      rw [unhide HC]
      rfl
end Go.Proofs.YtjclojeihjgnkaaDoor

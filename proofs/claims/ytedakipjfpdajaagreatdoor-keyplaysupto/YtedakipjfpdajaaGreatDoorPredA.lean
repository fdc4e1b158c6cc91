/- value.Check, schema.Name and tree.Pred, for every input. -/
import Derived.Test.YtedakipjfpdajaaGreatDoorZaa
import Derived.Lib.SmallJoins
namespace Go.Proofs.YtedakipjfpdajaaGreatDoor
open Go.RowKit Go.Sort Go.Shelf

/-- In form? 0: yes, 1: no. -/
def chkV (k n : Int) (s : ByteArray) : Int :=
  if (k = 1 ∧ -2147483648 ≤ n ∧ n ≤ 2147483647 ∧ s.size = 0) ∨ (k = 2 ∧ n = 0 ∧ s.size ≤ 64) then 0 else 1
theorem size_toList (s : ByteArray) : s.toList.length = s.size := by rw [ByteArray.toList_eq]; simp
theorem empty_iff (s : ByteArray) : s.toList.isEmpty = true ↔ s.size = 0 := by
  rw [List.isEmpty_iff, ← List.length_eq_zero_iff, size_toList]
theorem chk_yes1 {k n : Int} {s : ByteArray} (h0 : (k == 1) = true) (h1 : -2147483648 ≤ n) (h2 : n ≤ 2147483647) (h3 : s.toList.isEmpty = true) : chkV k n s = 0 := by
  unfold chkV; rw [if_pos (Or.inl ⟨by simpa using h0, h1, h2, (empty_iff s).1 h3⟩)]
theorem chk_yes2 {k n : Int} {s : ByteArray} (h0 : (k == 2) = true) (h1 : n = 0) (h2 : (s.size : Int) ≤ 64) : chkV k n s = 0 := by
  unfold chkV; rw [if_pos (Or.inr ⟨by simpa using h0, h1, by omega⟩)]
theorem chk_no1 {k n : Int} {s : ByteArray} (h0 : (k == 1) = true) (h : ¬ (-2147483648 ≤ n ∧ n ≤ 2147483647 ∧ s.size = 0)) : chkV k n s = 1 := by
  have : k = 1 := by simpa using h0
  unfold chkV; rw [if_neg]; rintro (⟨_, h'⟩ | ⟨h', _⟩); exact h h'; omega
theorem chk_no2 {k n : Int} {s : ByteArray} (h0 : (k == 1) = false) (h : ¬ (k = 2 ∧ n = 0 ∧ s.size ≤ 64)) : chkV k n s = 1 := by
  have : k ≠ 1 := by simpa using h0
  unfold chkV; rw [if_neg]; rintro (⟨h', _⟩ | h'); omega; exact h h'

set_option maxHeartbeats 400000 in
theorem check_any (k n : Int) (s : ByteArray) (w : World) :
    Calls Tryz.prog 31 #[.agg #[.int .i64 k, .int .i64 n, .string s]] w fun e w' => e = .returned (.int .i64 (chkV k n s)) ∧ Below w.heap.size w w' := by
  go_enter Tryz.func31, Tryz.ntmps31
  go_wp2
  all_goals (go_ret; refine ⟨ret_int ?_, (Below.refl _ _).alloc (Nat.le_refl _) _⟩)
  · exact (chk_yes1 (by assumption) (by assumption) (by assumption) (by assumption)).symm
  · exact (chk_no1 (by assumption) (by rw [← empty_iff]; simp [*])).symm
  · exact (chk_no1 (by assumption) (by omega)).symm
  · exact (chk_no1 (by assumption) (by omega)).symm
  · exact (chk_yes2 (by assumption) (by assumption) (by assumption)).symm
  · exact (chk_no2 (by assumption) (by omega)).symm
  · exact (chk_no2 (by assumption) (by omega)).symm
  · rename_i h
    have : k ≠ 2 := by simpa using h
    exact (chk_no2 (by assumption) (by omega)).symm

def isLet (c : Int) : Bool := decide (97 ≤ c) && decide (c ≤ 122)
def isDig (c : Int) : Bool := decide (48 ≤ c) && decide (c ≤ 57)
def okB (c : Int) : Bool := isLet c || isDig c || c == 95
def byteI (s : ByteArray) (i : Nat) : Int := if h : i < s.size then (s[i].toNat : Int) else 0
theorem byteI_lt {s : ByteArray} {i : Nat} (h : i < s.size) : byteI s i = (s[i].toNat : Int) := by unfold byteI; rw [dif_pos h]
/-- Is it a name? -/
def nameOk (s : ByteArray) : Bool := decide (1 ≤ s.size) && decide (s.size ≤ 32) && isLet (byteI s 0) && (List.range s.size).all fun i => okB (byteI s i)
theorem name_no0 {s : ByteArray} (h : s.size < 1) : nameOk s = false := by unfold nameOk; simp; omega
theorem name_no32 {s : ByteArray} (h : 32 < s.size) : nameOk s = false := by unfold nameOk; simp; omega
theorem name_noL {s : ByteArray} (h : isLet (byteI s 0) = false) : nameOk s = false := by unfold nameOk; simp [h]
theorem name_noB {s : ByteArray} {i : Nat} (hi : i < s.size) (h : okB (byteI s i) = false) : nameOk s = false := by
  unfold nameOk
  rw [Bool.and_eq_false_iff]
  right
  rw [Bool.eq_false_iff]
  intro hall
  rw [List.all_eq_true] at hall
  have := hall i (by simpa using hi)
  rw [h] at this; cases this
theorem name_yes {s : ByteArray} (h1 : 1 ≤ s.size) (h2 : s.size ≤ 32) (h3 : isLet (byteI s 0) = true) (h : ∀ j, j < s.size → okB (byteI s j) = true) : nameOk s = true := by
  unfold nameOk
  rw [h3]
  simp only [Bool.and_eq_true, decide_eq_true_eq, List.all_eq_true, List.mem_range]
  exact ⟨⟨⟨h1, h2⟩, trivial⟩, h⟩

set_option maxHeartbeats 400000 in
theorem schLet_any (c : Int) (w : World) :
    Calls Tryz.prog 126 #[.int .u8 c] w fun e w' => e = .returned (.bool (isLet c)) ∧ w' = w := by
  by_cases h1 : 97 ≤ c <;> by_cases h2 : c ≤ 122
  all_goals
    go_enter Tryz.func126, Tryz.ntmps126
    go_wp2
    go_ret
    exact ⟨ret_bool (by simp [isLet, h1, h2]), rfl⟩
set_option maxHeartbeats 400000 in
theorem schDig_any (c : Int) (w : World) :
    Calls Tryz.prog 127 #[.int .u8 c] w fun e w' => e = .returned (.bool (isDig c)) ∧ w' = w := by
  by_cases h1 : 48 ≤ c <;> by_cases h2 : c ≤ 57
  all_goals
    go_enter Tryz.func127, Tryz.ntmps127
    go_wp2
    go_ret
    exact ⟨ret_bool (by simp [isDig, h1, h2]), rfl⟩

set_option maxHeartbeats 1000000 in
theorem name_any (s : ByteArray) (w : World) :
    Calls Tryz.prog 85 #[.string s] w fun e w' => e = .returned (.bool (nameOk s)) ∧ w' = w := by
  by_cases h1 : s.size < 1
  · have hn := hide (name_no0 h1)
    have i1 : (s.size : Int) < 1 := by omega
    go_enter Tryz.func85, Tryz.ntmps85
    go_wp2
    go_ret
    exact ⟨ret_bool (unhide hn).symm, rfl⟩
  · by_cases h2 : 32 < s.size
    · have hn := hide (name_no32 h2)
      have i1 : ¬ (s.size : Int) < 1 := by omega
      have i2 : (32 : Int) < (s.size : Int) := by omega
      go_enter Tryz.func85, Tryz.ntmps85
      go_wp2
      go_ret
      exact ⟨ret_bool (unhide hn).symm, rfl⟩
    · have i1 : ¬ (s.size : Int) < 1 := by omega
      have i2 : ¬ (32 : Int) < (s.size : Int) := by omega
      have hb0 := byteI_lt (s := s) (i := 0) (by omega)
      have hlt := fun (c : Int) (W : World) => schLet_any c W
      have hdg := fun (c : Int) (W : World) => schDig_any c W
      cases hl : isLet (byteI s 0) with
      | false =>
        have hn := hide (name_noL hl)
        rw [hb0] at hl
        clear hb0
        have i0 : (0 : Int) < (s.size : Int) := by omega
        go_enter Tryz.func85, Tryz.ntmps85
        go_wp2_with (first | (go_at_call 126; refine (hlt _ _).mono ?_; rintro e w' ⟨rfl, rfl⟩))
        go_ret
        exact ⟨ret_bool (unhide hn).symm, rfl⟩
      | true =>
        have Hl := hide hl
        rw [hb0] at hl
        clear hb0
        have i0 : (0 : Int) < (s.size : Int) := by omega
        go_enter Tryz.func85, Tryz.ntmps85
        go_wp2_with (first | (go_at_call 126; refine (hlt _ _).mono ?_; rintro e w' ⟨rfl, rfl⟩))
        go_loop [20] (fun i => ∃ k : Nat, k ≤ s.size ∧ i = .int .i64 k ∧ ∀ j, j < k → okB (byteI s j) = true) (fun i => s.size - (intOf i).toNat)
        case atStart => exact ⟨0, by omega, rfl, fun j hj => by omega⟩
        case round =>
          obtain ⟨k, hk, rfl, hz⟩ := hrel
          have Hz := hide hz
          clear hz
          by_cases hkl : k < s.size
          · have ki0 : (0 : Int) ≤ (k : Int) := by omega
            have ki1 : (k : Int) < (s.size : Int) := by omega
            have hbk := byteI_lt hkl
            cases hok : okB (byteI s k) with
            | true =>
              have Hok := hide hok
              rw [hbk] at hok
              have hparts : (isLet (s[k].toNat : Int) = true) ∨ (isLet (s[k].toNat : Int) = false ∧ isDig (s[k].toNat : Int) = true) ∨ (isLet (s[k].toNat : Int) = false ∧ isDig (s[k].toNat : Int) = false ∧ ((s[k].toNat : Int) != 95) = false) := by
                revert hok; unfold okB
                cases isLet (s[k].toNat : Int) <;> cases isDig (s[k].toNat : Int) <;> simp
              clear hok hbk
              rcases hparts with p1 | ⟨p1, p2⟩ | ⟨p1, p2, p3⟩
              all_goals
                go_wp2_with (first | (go_at_call 126; refine (hlt _ _).mono ?_; rintro e w' ⟨rfl, rfl⟩) | (go_at_call 127; refine (hdg _ _).mono ?_; rintro e w' ⟨rfl, rfl⟩))
                go_round
                case rel => exact ⟨k + 1, by omega, by go_num, fun j hj => by
                  by_cases e : j = k
                  · rw [e]; exact unhide Hok
                  · exact unhide Hz j (by omega)⟩
                case measure => simp [intOf]; omega
            | false =>
              have hn := hide (name_noB hkl hok)
              rw [hbk] at hok
              have hparts : isLet (s[k].toNat : Int) = false ∧ isDig (s[k].toNat : Int) = false ∧ ((s[k].toNat : Int) != 95) = true := by
                revert hok; unfold okB
                cases isLet (s[k].toNat : Int) <;> cases isDig (s[k].toNat : Int) <;> simp
              obtain ⟨p1, p2, p3⟩ := hparts
              clear hok hbk
              go_wp2_with (first | (go_at_call 126; refine (hlt _ _).mono ?_; rintro e w' ⟨rfl, rfl⟩) | (go_at_call 127; refine (hdg _ _).mono ?_; rintro e w' ⟨rfl, rfl⟩))
              go_ret
              exact ⟨ret_bool (unhide hn).symm, rfl⟩
          · obtain rfl : k = s.size := by omega
            go_wp2
            go_ret
            exact ⟨ret_bool (name_yes (by omega) (by omega) (unhide Hl) (unhide Hz)).symm, rfl⟩

def encS (x : ByteArray) : List Value := [.string x]
theorem Tryz.info9 : (Tryz.prog.info? 9).map (fun i => (i.zero, i.size, i.bytes)) = some (some (.string ⟨#[]⟩), 1, 16) := by kernel_rfl
instance : Inhabited ByteArray := ⟨⟨#[]⟩⟩
theorem rowS : RowOf encS 23 9 1 16 where
  und := Tryz.underlying23
  info := by
    obtain ⟨i0, hi, hz0, hz1, hz2⟩ := info_parts Tryz.info9
    exact ⟨i0, _, hi, hz0, hz1, hz2, rfl⟩
  pos := by decide
  one := one_flat (fun x c hc => by obtain rfl : c = 0 := by omega
                                    rfl) (by decide)
theorem intsAt {w : World} {q : Option Addr} {c : Nat} {l : List Int} {j : Nat} {x : Int} (h : SlOf encI 1 w q c l) (hj : l[j]? = some x) : ∃ b off, q = some ⟨b, off, none⟩ ∧ b < w.heap.size ∧ w.cell? ⟨b, off + j, none⟩ = some (.int .i64 x) := by
  obtain ⟨b, off, hq, hb, hc⟩ := h.2.2.2.at hj
  exact ⟨b, off, hq, hb, by have := hc 0 (by omega); rw [Nat.mul_one] at this; exact this⟩
theorem wordsAt {w : World} {q : Option Addr} {c : Nat} {l : List ByteArray} {j : Nat} {x : ByteArray} (h : SlOf encS 1 w q c l) (hj : l[j]? = some x) : ∃ b off, q = some ⟨b, off, none⟩ ∧ b < w.heap.size ∧ w.cell? ⟨b, off + j, none⟩ = some (.string x) := by
  obtain ⟨b, off, hq, hb, hc⟩ := h.2.2.2.at hj
  exact ⟨b, off, hq, hb, by have := hc 0 (by omega); rw [Nat.mul_one] at this; exact this⟩

theorem chk_range {k n : Int} {s : ByteArray} (h : chkV k n s = 0) : (k = 1 ∧ -2147483648 ≤ n ∧ n ≤ 2147483647 ∧ s.size = 0) ∨ (k = 2 ∧ n = 0 ∧ s.size ≤ 64) := by
  unfold chkV at h
  by_cases hc : (k = 1 ∧ -2147483648 ≤ n ∧ n ≤ 2147483647 ∧ s.size = 0) ∨ (k = 2 ∧ n = 0 ∧ s.size ≤ 64)
  · exact hc
  · rw [if_neg hc] at h; omega
theorem chk_01 (k n : Int) (s : ByteArray) : chkV k n s = 0 ∨ chkV k n s = 1 := by unfold chkV; split <;> simp

theorem bcell {W w1 : World} (hb : Below W.heap.size W w1) : (∀ b o, b < W.heap.size → w1.cell? ⟨b, o, none⟩ = W.cell? ⟨b, o, none⟩) ∧ (∀ b o, b < W.heap.size → w1.frozen? ⟨b, o, none⟩ = W.frozen? ⟨b, o, none⟩) :=
  ⟨fun b o h => hb.cell (p := ⟨b, o, none⟩) h, fun b o h => hb.frozen (p := ⟨b, o, none⟩) h⟩

def numOk (n : Int) : Bool := decide (-2147483648 ≤ n) && decide (n ≤ 2147483647)
def wordOk (s : ByteArray) : Bool := decide (s.size ≤ 64)
theorem chk_num (n : Int) : chkV 1 n ⟨#[]⟩ = if numOk n then 0 else 1 := by
  cases h : numOk n with
  | true =>
    unfold numOk at h
    simp only [Bool.and_eq_true, decide_eq_true_eq] at h
    rw [if_pos rfl]; exact chk_yes1 rfl h.1 h.2 ((empty_iff _).2 rfl)
  | false =>
    unfold numOk at h
    rw [if_neg (by simp)]
    refine chk_no1 rfl fun h2 => ?_
    simp only [Bool.and_eq_false_iff, decide_eq_false_iff_not] at h
    omega
theorem chk_word (s : ByteArray) : chkV 2 0 s = if wordOk s then 0 else 1 := by
  cases h : wordOk s with
  | true =>
    unfold wordOk at h
    simp only [decide_eq_true_eq] at h
    rw [if_pos rfl]; exact chk_yes2 rfl rfl (by omega)
  | false =>
    unfold wordOk at h
    rw [if_neg (by simp)]
    refine chk_no2 rfl fun h2 => ?_
    simp only [decide_eq_false_iff_not] at h
    omega
set_option maxHeartbeats 400000 in
theorem number_any (n : Int) (w : World) : Calls Tryz.prog 128 #[.int .i64 n] w fun e w' => e = .returned (.agg #[.int .i64 1, .int .i64 n, .string ⟨#[]⟩]) ∧ Below w.heap.size w w' := by
  go_enter Tryz.func128, Tryz.ntmps128
  go_wp2
  refine bodyPost_ret (v := .agg #[.int .i64 1, .int .i64 n, .string ⟨#[]⟩]) (by simp [results, Tryz.results128, go_sem]) rfl ⟨rfl, ?_⟩
  exact (Below.refl _ _).alloc (Nat.le_refl _) _
set_option maxHeartbeats 400000 in
theorem word_any (s : ByteArray) (w : World) : Calls Tryz.prog 129 #[.string s] w fun e w' => e = .returned (.agg #[.int .i64 2, .int .i64 0, .string s]) ∧ Below w.heap.size w w' := by
  go_enter Tryz.func129, Tryz.ntmps129
  go_wp2
  refine bodyPost_ret (v := .agg #[.int .i64 2, .int .i64 0, .string s]) (by simp [results, Tryz.results129, go_sem]) rfl ⟨rfl, ?_⟩
  exact (Below.refl _ _).alloc (Nat.le_refl _) _
set_option maxHeartbeats 400000 in
theorem isNumber_any (n : Int) (w : World) : Calls Tryz.prog 87 #[.int .i64 n] w fun e w' => e = .returned (.bool (numOk n)) ∧ Below w.heap.size w w' := by
  have hc := fun w => check_any 1 n ⟨#[]⟩ w
  rw [chk_num] at hc
  cases h : numOk n
  all_goals
    simp only [h, if_true, Bool.false_eq_true, if_false] at hc
    clear h
    go_enter Tryz.func87, Tryz.ntmps87
    go_wp2_with (first
      | (go_at_call 128; refine (number_any n _).mono ?_; rintro e w1 ⟨rfl, b1⟩)
      | (go_at_call 31; refine (hc _).mono ?_; rintro e w2 ⟨rfl, b2⟩))
    go_ret
    exact ⟨rfl, below_sub b1 b2⟩
set_option maxHeartbeats 400000 in
theorem isWord_any (s : ByteArray) (w : World) : Calls Tryz.prog 89 #[.string s] w fun e w' => e = .returned (.bool (wordOk s)) ∧ Below w.heap.size w w' := by
  have hc := fun w => check_any 2 0 s w
  rw [chk_word] at hc
  cases h : wordOk s
  all_goals
    simp only [h, if_true, Bool.false_eq_true, if_false] at hc
    clear h
    go_enter Tryz.func89, Tryz.ntmps89
    go_wp2_with (first
      | (go_at_call 129; refine (word_any s _).mono ?_; rintro e w1 ⟨rfl, b1⟩)
      | (go_at_call 31; refine (hc _).mono ?_; rintro e w2 ⟨rfl, b2⟩))
    go_ret
    exact ⟨rfl, below_sub b1 b2⟩
/-- One member at least, no more than m, and each good. -/
def memB {α : Type} (ok : α → Bool) (l : List α) (m : Int) : Bool := l.all ok && (decide (1 ≤ l.length) && decide ((l.length : Int) ≤ m))
theorem all_no {α : Type} {ok : α → Bool} {l : List α} {k : Nat} {x : α} (hx : l[k]? = some x) (h : ok x = false) (m : Int) : memB ok l m = false := by
  unfold memB
  have : l.all ok = false := by
    rw [List.all_eq_false]; exact ⟨x, List.mem_of_getElem? hx, by simp [h]⟩
  rw [this]; rfl
theorem all_yes {α : Type} {ok : α → Bool} {l : List α} (h : ∀ (j : Nat) (x : α), j < l.length → l[j]? = some x → ok x = true) (m : Int) : memB ok l m = (decide (1 ≤ l.length) && decide ((l.length : Int) ≤ m)) := by
  unfold memB
  have : l.all ok = true := by
    rw [List.all_eq_true]; intro x hx
    obtain ⟨j, hj⟩ := List.getElem?_of_mem hx
    exact h j x (List.getElem?_eq_some_iff.1 hj).1 hj
  rw [this]; rfl
set_option maxHeartbeats 1000000 in
theorem membersI (q : Option Addr) (c : Nat) (l : List Int) (m : Int) (w : World) (h : SlOf encI 1 w q c l) (hl : l.length ≤ 1000000000000000000) :
    Calls Tryz.prog 86 #[.slice q l.length c, .int .i64 m, .func (.func 87) #[] #[]] w fun e w' => e = .returned (.bool (memB numOk l m)) ∧ Below w.heap.size w w' := by
  have HA := hide h
  have a0 : (l.length : Int) ≤ 1000000000000000000 := by omega
  clear h
  go_enter Tryz.func86, Tryz.ntmps86
  go_wp2
  go_loopw [11] (fun i wr => ∃ k : Nat, k ≤ l.length ∧ i = .int .i64 k ∧ (∀ (j : Nat) (x : Int), j < k → l[j]? = some x → numOk x = true) ∧ Below w.heap.size w wr) (fun i _ => l.length - (intOf i).toNat)
  case atStart => exact ⟨0, by omega, rfl, fun j x h => absurd h (by omega), Below.refl _ _⟩
  case round =>
    obtain ⟨k, hk, rfl, hall, hbel⟩ := hrel
    have HALL := hide hall
    have HB := hide hbel
    by_cases hlt : k < l.length
    · obtain ⟨x, hx, hxd⟩ := get_at hlt
      obtain ⟨b, off, hq, hb, hc⟩ := intsAt (unhide HA) hx
      subst hq
      have g := (hbel.cell (p := ⟨b, off + k, none⟩) hb).trans hc
      have ki0 : (0 : Int) ≤ (k : Int) := by omega
      have ki1 : (k : Int) < (l.length : Int) := by omega
      have hn := fun w => isNumber_any x w
      cases hok : numOk x with
      | true =>
        rw [hok] at hn
        have HN := hide (show ∀ (j : Nat) (y : Int), j < k + 1 → l[j]? = some y → numOk y = true from fun j y hj hy => by
          by_cases e : j = k
          · subst e; rw [hx] at hy; cases hy; exact hok
          · exact hall j y (by omega) hy)
        clear hall hbel hxd hx hc hok
        go_wp2_with (go_at_call 87; refine (hn _).mono ?_; rintro e w1 ⟨rfl, b1⟩)
        exact ⟨⟨k + 1, by omega, by go_num, unhide HN, below_sub (unhide HB) b1⟩, by simp [intOf]; omega⟩
      | false =>
        rw [hok] at hn
        have HN := hide (all_no hx hok m)
        clear hall hbel hxd hx hc hok
        go_wp2_with (go_at_call 87; refine (hn _).mono ?_; rintro e w1 ⟨rfl, b1⟩)
        go_ret
        exact ⟨ret_bool (unhide HN).symm, below_sub (unhide HB) b1⟩
    · have ki1 : ¬ (k : Int) < (l.length : Int) := by omega
      have HN := hide (all_yes (ok := numOk) (l := l) (fun j x hj hx => hall j x (by omega) hx) m)
      clear hall hbel
      by_cases h1 : 1 ≤ l.length <;> by_cases h2 : (l.length : Int) ≤ m
      all_goals
        have h3 : decide ((1 : Int) ≤ (l.length : Int)) = decide (1 ≤ l.length) := by simp; omega
        go_wp2
        go_ret
        exact ⟨ret_bool (by rw [unhide HN]; simp [h1, h2]), unhide HB⟩
set_option maxHeartbeats 1000000 in
theorem membersW (q : Option Addr) (c : Nat) (l : List ByteArray) (m : Int) (w : World) (h : SlOf encS 1 w q c l) (hl : l.length ≤ 1000000000000000000) :
    Calls Tryz.prog 88 #[.slice q l.length c, .int .i64 m, .func (.func 89) #[] #[]] w fun e w' => e = .returned (.bool (memB wordOk l m)) ∧ Below w.heap.size w w' := by
  have HA := hide h
  have a0 : (l.length : Int) ≤ 1000000000000000000 := by omega
  clear h
  go_enter Tryz.func88, Tryz.ntmps88
  go_wp2
  go_loopw [11] (fun i wr => ∃ k : Nat, k ≤ l.length ∧ i = .int .i64 k ∧ (∀ (j : Nat) (x : ByteArray), j < k → l[j]? = some x → wordOk x = true) ∧ Below w.heap.size w wr) (fun i _ => l.length - (intOf i).toNat)
  case atStart => exact ⟨0, by omega, rfl, fun j x h => absurd h (by omega), Below.refl _ _⟩
  case round =>
    obtain ⟨k, hk, rfl, hall, hbel⟩ := hrel
    have HALL := hide hall
    have HB := hide hbel
    by_cases hlt : k < l.length
    · obtain ⟨x, hx, hxd⟩ := get_at hlt
      obtain ⟨b, off, hq, hb, hc⟩ := wordsAt (unhide HA) hx
      subst hq
      have g := (hbel.cell (p := ⟨b, off + k, none⟩) hb).trans hc
      have ki0 : (0 : Int) ≤ (k : Int) := by omega
      have ki1 : (k : Int) < (l.length : Int) := by omega
      have hn := fun w => isWord_any x w
      cases hok : wordOk x with
      | true =>
        rw [hok] at hn
        have HN := hide (show ∀ (j : Nat) (y : ByteArray), j < k + 1 → l[j]? = some y → wordOk y = true from fun j y hj hy => by
          by_cases e : j = k
          · subst e; rw [hx] at hy; cases hy; exact hok
          · exact hall j y (by omega) hy)
        clear hall hbel hxd hx hc hok
        go_wp2_with (go_at_call 89; refine (hn _).mono ?_; rintro e w1 ⟨rfl, b1⟩)
        exact ⟨⟨k + 1, by omega, by go_num, unhide HN, below_sub (unhide HB) b1⟩, by simp [intOf]; omega⟩
      | false =>
        rw [hok] at hn
        have HN := hide (all_no hx hok m)
        clear hall hbel hxd hx hc hok
        go_wp2_with (go_at_call 89; refine (hn _).mono ?_; rintro e w1 ⟨rfl, b1⟩)
        go_ret
        exact ⟨ret_bool (unhide HN).symm, below_sub (unhide HB) b1⟩
    · have ki1 : ¬ (k : Int) < (l.length : Int) := by omega
      have HN := hide (all_yes (ok := wordOk) (l := l) (fun j x hj hx => hall j x (by omega) hx) m)
      clear hall hbel
      by_cases h1 : 1 ≤ l.length <;> by_cases h2 : (l.length : Int) ≤ m
      all_goals
        have h3 : decide ((1 : Int) ≤ (l.length : Int)) = decide (1 ≤ l.length) := by simp; omega
        go_wp2
        go_ret
        exact ⟨ret_bool (by rw [unhide HN]; simp [h1, h2]), unhide HB⟩
def emptyB (ni nw : Nat) (lo hi : Int) : Bool := decide (ni = 0) && (decide (nw = 0) && (decide (lo = 0) && decide (hi = 0)))
set_option maxHeartbeats 1000000 in
theorem empty_any (kind : Int) (attr : ByteArray) (qi : Option Addr) (ni ci : Nat) (qw : Option Addr) (nw cw : Nat) (lo hi : Int) (w : World) :
    Calls Tryz.prog 90 #[.agg #[.int .i64 kind, .string attr, .slice qi ni ci, .slice qw nw cw, .int .i64 lo, .int .i64 hi]] w fun e w' => e = .returned (.bool (emptyB ni nw lo hi)) ∧ Below w.heap.size w w' := by
  by_cases h1 : ni = 0 <;> by_cases h2 : nw = 0 <;> by_cases h3 : lo = 0 <;> by_cases h4 : hi = 0
  all_goals
    have i1 := h1; have i2 := h2; have i3 := h3; have i4 := h4
    try subst h1
    try subst h2
    try subst h3
    try subst h4
    go_enter Tryz.func90, Tryz.ntmps90
    go_wp2
    go_ret
    exact ⟨ret_bool (by simp [emptyB, *]), (Below.refl _ _).alloc (Nat.le_refl _) _⟩
/-- Is the predicate in form? -/
def predB (kind : Int) (attr : ByteArray) (ints : List Int) (words : List ByteArray) (lo hi : Int) : Bool :=
  nameOk attr && (if kind = 1 then memB numOk ints 64 && emptyB 0 words.length lo hi else if kind = 2 then memB wordOk words 64 && emptyB ints.length 0 lo hi else if kind = 3 then (numOk lo && numOk hi) && emptyB ints.length words.length 0 0 else if kind = 4 then memB wordOk words 1 && emptyB ints.length 0 lo hi else false)
theorem bytes_of_size {s : ByteArray} (h : s.size = 0) : s = ⟨#[]⟩ := WideShapes.bytes_inj (List.length_eq_zero_iff.1 (by simpa using h))
def code (b : Bool) : Int := if b then 0 else 1
/-- The box of a predicate, behind calls. -/
theorem box6 {w w1 : World} {kind : Int} {attr : ByteArray} {qi : Option Addr} {ni ci : Nat} {qw : Option Addr} {nw cw : Nat} {lo hi : Int} (hb : Below (w.alloc (.cells #[.int .i64 kind, .string attr, .slice qi ni ci, .slice qw nw cw, .int .i64 lo, .int .i64 hi] 25)).heap.size (w.alloc (.cells #[.int .i64 kind, .string attr, .slice qi ni ci, .slice qw nw cw, .int .i64 lo, .int .i64 hi] 25)) w1) :
    w.heap.size < w1.heap.size ∧ (w1.cell? ⟨w.heap.size, 0, none⟩ = some (.int .i64 kind) ∧ w1.cell? ⟨w.heap.size, 1, none⟩ = some (.string attr) ∧ w1.cell? ⟨w.heap.size, 2, none⟩ = some (.slice qi ni ci) ∧ w1.cell? ⟨w.heap.size, 3, none⟩ = some (.slice qw nw cw) ∧ w1.cell? ⟨w.heap.size, 4, none⟩ = some (.int .i64 lo) ∧ w1.cell? ⟨w.heap.size, 5, none⟩ = some (.int .i64 hi)) ∧ (w1.frozen? ⟨w.heap.size, 2, none⟩ = false ∧ w1.frozen? ⟨w.heap.size, 3, none⟩ = false ∧ w1.frozen? ⟨w.heap.size, 4, none⟩ = false ∧ w1.frozen? ⟨w.heap.size, 5, none⟩ = false) := by
  have hs := hb.size
  obtain ⟨hc, hf⟩ := bcell hb
  have hlt : w.heap.size < (w.alloc (.cells #[.int .i64 kind, .string attr, .slice qi ni ci, .slice qw nw cw, .int .i64 lo, .int .i64 hi] 25)).heap.size := by simp
  refine ⟨by simp at hs; omega, ⟨?_, ?_, ?_, ?_, ?_, ?_⟩, ⟨?_, ?_, ?_, ?_⟩⟩
  iterate 6 (rw [hc _ _ hlt]; go_simp)
  iterate 4 (rw [hf _ _ hlt]; go_simp)
set_option maxHeartbeats 2000000 in
theorem pred_k1 (attr : ByteArray) (qi : Option Addr) (ci : Nat) (ints : List Int) (qw : Option Addr) (cw : Nat) (words : List ByteArray) (lo hi : Int) (w : World) (h1 : SlOf encI 1 w qi ci ints) (l1 : ints.length ≤ 1000000000000000000) (hn : nameOk attr = true) :
    Calls Tryz.prog 48 #[.agg #[.int .i64 1, .string attr, .slice qi ints.length ci, .slice qw words.length cw, .int .i64 lo, .int .i64 hi]] w fun e w' => e = .returned (.int .i64 (code (memB numOk ints 64 && emptyB 0 words.length lo hi))) ∧ Below w.heap.size w w' := by
  have hnm := fun w => name_any attr w
  rw [hn] at hnm
  have B0 := hide ((Below.refl w.heap.size w).alloc (Nat.le_refl _) (.cells #[.int .i64 1, .string attr, .slice qi ints.length ci, .slice qw words.length cw, .int .i64 lo, .int .i64 hi] 25))
  have hmm := membersI qi ci ints 64 _ (h1.below (unhide B0)) l1
  have hem := fun w => empty_any 1 attr none 0 0 qw words.length cw lo hi w
  clear h1 hn
  cases hg : memB numOk ints 64 with
  | true =>
    cases he : emptyB 0 words.length lo hi
    all_goals
      rw [hg] at hmm
      rw [he] at hem
      clear hg he
      go_enter Tryz.func48, Tryz.ntmps48
      go_wp2_with (first
        | (go_at_call 85; refine (hnm _).mono ?_; rintro e w' ⟨rfl, hw⟩; obtain rfl := hw.symm; clear hw)
        | (go_at_call 86; refine (hmm).mono ?_; rintro e w1 ⟨rfl, b1⟩; obtain ⟨z1, ⟨d0, d1, d2, d3, d4, d5⟩, ⟨f2, f3, f4, f5⟩⟩ := box6 b1; have B1 := hide b1; clear b1)
        | (go_at_call 90; refine (hem _).mono ?_; rintro e w2 ⟨rfl, b2⟩))
      go_ret
      exact ⟨rfl, below_sub ((below_sub (unhide B0) (unhide B1)).setCell (Nat.le_refl _) _) b2⟩
  | false =>
    rw [hg] at hmm
    clear hg hem
    go_enter Tryz.func48, Tryz.ntmps48
    go_wp2_with (first
      | (go_at_call 85; refine (hnm _).mono ?_; rintro e w' ⟨rfl, hw⟩; obtain rfl := hw.symm; clear hw)
      | (go_at_call 86; refine (hmm).mono ?_; rintro e w1 ⟨rfl, b1⟩; obtain ⟨z1, ⟨d0, d1, d2, d3, d4, d5⟩, ⟨f2, f3, f4, f5⟩⟩ := box6 b1; have B1 := hide b1; clear b1))
    go_ret
    exact ⟨rfl, (below_sub (unhide B0) (unhide B1)).setCell (Nat.le_refl _) _⟩
set_option maxHeartbeats 2000000 in
theorem pred_k2 (attr : ByteArray) (qi : Option Addr) (ci : Nat) (ints : List Int) (qw : Option Addr) (cw : Nat) (words : List ByteArray) (lo hi : Int) (w : World) (h2 : SlOf encS 1 w qw cw words) (l2 : words.length ≤ 1000000000000000000) (hn : nameOk attr = true) :
    Calls Tryz.prog 48 #[.agg #[.int .i64 2, .string attr, .slice qi ints.length ci, .slice qw words.length cw, .int .i64 lo, .int .i64 hi]] w fun e w' => e = .returned (.int .i64 (code (memB wordOk words 64 && emptyB ints.length 0 lo hi))) ∧ Below w.heap.size w w' := by
  have hnm := fun w => name_any attr w
  rw [hn] at hnm
  have B0 := hide ((Below.refl w.heap.size w).alloc (Nat.le_refl _) (.cells #[.int .i64 2, .string attr, .slice qi ints.length ci, .slice qw words.length cw, .int .i64 lo, .int .i64 hi] 25))
  have hmm := membersW qw cw words 64 _ (h2.below (unhide B0)) l2
  have hem := fun w => empty_any 2 attr qi ints.length ci none 0 0 lo hi w
  clear h2 hn
  cases hg : memB wordOk words 64 with
  | true =>
    cases he : emptyB ints.length 0 lo hi
    all_goals
      rw [hg] at hmm
      rw [he] at hem
      clear hg he
      go_enter Tryz.func48, Tryz.ntmps48
      go_wp2_with (first
        | (go_at_call 85; refine (hnm _).mono ?_; rintro e w' ⟨rfl, hw⟩; obtain rfl := hw.symm; clear hw)
        | (go_at_call 88; refine (hmm).mono ?_; rintro e w1 ⟨rfl, b1⟩; obtain ⟨z1, ⟨d0, d1, d2, d3, d4, d5⟩, ⟨f2, f3, f4, f5⟩⟩ := box6 b1; have B1 := hide b1; clear b1)
        | (go_at_call 90; refine (hem _).mono ?_; rintro e w2 ⟨rfl, b2⟩))
      go_ret
      exact ⟨rfl, below_sub ((below_sub (unhide B0) (unhide B1)).setCell (Nat.le_refl _) _) b2⟩
  | false =>
    rw [hg] at hmm
    clear hg hem
    go_enter Tryz.func48, Tryz.ntmps48
    go_wp2_with (first
      | (go_at_call 85; refine (hnm _).mono ?_; rintro e w' ⟨rfl, hw⟩; obtain rfl := hw.symm; clear hw)
      | (go_at_call 88; refine (hmm).mono ?_; rintro e w1 ⟨rfl, b1⟩; obtain ⟨z1, ⟨d0, d1, d2, d3, d4, d5⟩, ⟨f2, f3, f4, f5⟩⟩ := box6 b1; have B1 := hide b1; clear b1))
    go_ret
    exact ⟨rfl, (below_sub (unhide B0) (unhide B1)).setCell (Nat.le_refl _) _⟩
set_option maxHeartbeats 2000000 in
theorem pred_k4 (attr : ByteArray) (qi : Option Addr) (ci : Nat) (ints : List Int) (qw : Option Addr) (cw : Nat) (words : List ByteArray) (lo hi : Int) (w : World) (h2 : SlOf encS 1 w qw cw words) (l2 : words.length ≤ 1000000000000000000) (hn : nameOk attr = true) :
    Calls Tryz.prog 48 #[.agg #[.int .i64 4, .string attr, .slice qi ints.length ci, .slice qw words.length cw, .int .i64 lo, .int .i64 hi]] w fun e w' => e = .returned (.int .i64 (code (memB wordOk words 1 && emptyB ints.length 0 lo hi))) ∧ Below w.heap.size w w' := by
  have hnm := fun w => name_any attr w
  rw [hn] at hnm
  have B0 := hide ((Below.refl w.heap.size w).alloc (Nat.le_refl _) (.cells #[.int .i64 4, .string attr, .slice qi ints.length ci, .slice qw words.length cw, .int .i64 lo, .int .i64 hi] 25))
  have hmm := membersW qw cw words 1 _ (h2.below (unhide B0)) l2
  have hem := fun w => empty_any 4 attr qi ints.length ci none 0 0 lo hi w
  clear h2 hn
  cases hg : memB wordOk words 1 with
  | true =>
    cases he : emptyB ints.length 0 lo hi
    all_goals
      rw [hg] at hmm
      rw [he] at hem
      clear hg he
      go_enter Tryz.func48, Tryz.ntmps48
      go_wp2_with (first
        | (go_at_call 85; refine (hnm _).mono ?_; rintro e w' ⟨rfl, hw⟩; obtain rfl := hw.symm; clear hw)
        | (go_at_call 88; refine (hmm).mono ?_; rintro e w1 ⟨rfl, b1⟩; obtain ⟨z1, ⟨d0, d1, d2, d3, d4, d5⟩, ⟨f2, f3, f4, f5⟩⟩ := box6 b1; have B1 := hide b1; clear b1)
        | (go_at_call 90; refine (hem _).mono ?_; rintro e w2 ⟨rfl, b2⟩))
      go_ret
      exact ⟨rfl, below_sub ((below_sub (unhide B0) (unhide B1)).setCell (Nat.le_refl _) _) b2⟩
  | false =>
    rw [hg] at hmm
    clear hg hem
    go_enter Tryz.func48, Tryz.ntmps48
    go_wp2_with (first
      | (go_at_call 85; refine (hnm _).mono ?_; rintro e w' ⟨rfl, hw⟩; obtain rfl := hw.symm; clear hw)
      | (go_at_call 88; refine (hmm).mono ?_; rintro e w1 ⟨rfl, b1⟩; obtain ⟨z1, ⟨d0, d1, d2, d3, d4, d5⟩, ⟨f2, f3, f4, f5⟩⟩ := box6 b1; have B1 := hide b1; clear b1))
    go_ret
    exact ⟨rfl, (below_sub (unhide B0) (unhide B1)).setCell (Nat.le_refl _) _⟩
set_option maxHeartbeats 2000000 in
theorem pred_k3 (attr : ByteArray) (qi : Option Addr) (ni ci : Nat) (qw : Option Addr) (nw cw : Nat) (lo hi : Int) (w : World) (hn : nameOk attr = true) :
    Calls Tryz.prog 48 #[.agg #[.int .i64 3, .string attr, .slice qi ni ci, .slice qw nw cw, .int .i64 lo, .int .i64 hi]] w fun e w' => e = .returned (.int .i64 (code ((numOk lo && numOk hi) && emptyB ni nw 0 0))) ∧ Below w.heap.size w w' := by
  have hnm := fun w => name_any attr w
  rw [hn] at hnm
  have B0 := hide ((Below.refl w.heap.size w).alloc (Nat.le_refl _) (.cells #[.int .i64 3, .string attr, .slice qi ni ci, .slice qw nw cw, .int .i64 lo, .int .i64 hi] 25))
  have hem := fun w => empty_any 3 attr qi ni ci qw nw cw 0 0 w
  have hlo := fun w => isNumber_any lo w
  have hhi := fun w => isNumber_any hi w
  clear hn
  cases h1 : numOk lo with
  | true =>
    rw [h1] at hlo
    cases h2 : numOk hi with
    | true =>
      rw [h2] at hhi
      cases he : emptyB ni nw 0 0
      all_goals
        rw [he] at hem
        clear h1 h2 he
        go_enter Tryz.func48, Tryz.ntmps48
        go_wp2_with (first
          | (go_at_call 85; refine (hnm _).mono ?_; rintro e w' ⟨rfl, hw⟩; obtain rfl := hw.symm; clear hw)
          | (go_at_call 87; have hB := unhide B1; clear hB; refine (hhi _).mono ?_; rintro e w2 ⟨rfl, b2⟩; obtain ⟨z1, ⟨d0, d1, d2, d3, d4, d5⟩, ⟨f2, f3, f4, f5⟩⟩ := box6 (below_sub (unhide B1) b2); have B2 := hide (below_sub (unhide B1) b2); clear b2)
          | (go_at_call 87; refine (hlo _).mono ?_; rintro e w1 ⟨rfl, b1⟩; obtain ⟨z1, ⟨d0, d1, d2, d3, d4, d5⟩, ⟨f2, f3, f4, f5⟩⟩ := box6 b1; have B1 := hide b1; clear b1)
          | (go_at_call 90; refine (hem _).mono ?_; rintro e w3 ⟨rfl, b3⟩))
        go_ret
        exact ⟨rfl, below_sub (((below_sub (unhide B0) (unhide B2)).setCell (Nat.le_refl _) _).setCell (Nat.le_refl _) _) b3⟩
    | false =>
      rw [h2] at hhi
      clear h1 h2 hem
      go_enter Tryz.func48, Tryz.ntmps48
      go_wp2_with (first
        | (go_at_call 85; refine (hnm _).mono ?_; rintro e w' ⟨rfl, hw⟩; obtain rfl := hw.symm; clear hw)
        | (go_at_call 87; have hB := unhide B1; clear hB; refine (hhi _).mono ?_; rintro e w2 ⟨rfl, b2⟩; obtain ⟨z1, ⟨d0, d1, d2, d3, d4, d5⟩, ⟨f2, f3, f4, f5⟩⟩ := box6 (below_sub (unhide B1) b2); have B2 := hide (below_sub (unhide B1) b2); clear b2)
        | (go_at_call 87; refine (hlo _).mono ?_; rintro e w1 ⟨rfl, b1⟩; obtain ⟨z1, ⟨d0, d1, d2, d3, d4, d5⟩, ⟨f2, f3, f4, f5⟩⟩ := box6 b1; have B1 := hide b1; clear b1))
      go_ret
      exact ⟨rfl, ((below_sub (unhide B0) (unhide B2)).setCell (Nat.le_refl _) _).setCell (Nat.le_refl _) _⟩
  | false =>
    rw [h1] at hlo
    clear h1 hem hhi
    go_enter Tryz.func48, Tryz.ntmps48
    go_wp2_with (first
      | (go_at_call 85; refine (hnm _).mono ?_; rintro e w' ⟨rfl, hw⟩; obtain rfl := hw.symm; clear hw)
      | (go_at_call 87; refine (hlo _).mono ?_; rintro e w1 ⟨rfl, b1⟩; obtain ⟨z1, ⟨d0, d1, d2, d3, d4, d5⟩, ⟨f2, f3, f4, f5⟩⟩ := box6 b1; have B1 := hide b1; clear b1))
    go_ret
    exact ⟨rfl, ((below_sub (unhide B0) (unhide B1)).setCell (Nat.le_refl _) _).setCell (Nat.le_refl _) _⟩
set_option maxHeartbeats 2000000 in
theorem pred_kx (kind : Int) (attr : ByteArray) (qi : Option Addr) (ni ci : Nat) (qw : Option Addr) (nw cw : Nat) (lo hi : Int) (w : World) (hn : nameOk attr = true) (k1 : ¬ kind = 1) (k2 : ¬ kind = 2) (k3 : ¬ kind = 3) (k4 : ¬ kind = 4) :
    Calls Tryz.prog 48 #[.agg #[.int .i64 kind, .string attr, .slice qi ni ci, .slice qw nw cw, .int .i64 lo, .int .i64 hi]] w fun e w' => e = .returned (.int .i64 (code false)) ∧ Below w.heap.size w w' := by
  have hnm := fun w => name_any attr w
  rw [hn] at hnm
  have e1 : (kind == 1) = false := by simpa using k1
  have e2 : (kind == 2) = false := by simpa using k2
  have e3 : (kind == 3) = false := by simpa using k3
  have e4 : (kind == 4) = false := by simpa using k4
  clear hn
  go_enter Tryz.func48, Tryz.ntmps48
  go_wp2_with (go_at_call 85; refine (hnm _).mono ?_; rintro e w' ⟨rfl, hw⟩; obtain rfl := hw.symm; clear hw)
  go_ret
  exact ⟨rfl, (Below.refl _ _).alloc (Nat.le_refl _) _⟩
set_option maxHeartbeats 2000000 in
theorem pred_noname (kind : Int) (attr : ByteArray) (qi : Option Addr) (ni ci : Nat) (qw : Option Addr) (nw cw : Nat) (lo hi : Int) (w : World) (hn : nameOk attr = false) :
    Calls Tryz.prog 48 #[.agg #[.int .i64 kind, .string attr, .slice qi ni ci, .slice qw nw cw, .int .i64 lo, .int .i64 hi]] w fun e w' => e = .returned (.int .i64 (code false)) ∧ Below w.heap.size w w' := by
  have hnm := fun w => name_any attr w
  rw [hn] at hnm
  clear hn
  go_enter Tryz.func48, Tryz.ntmps48
  go_wp2_with (go_at_call 85; refine (hnm _).mono ?_; rintro e w' ⟨rfl, hw⟩; obtain rfl := hw.symm; clear hw)
  go_ret
  exact ⟨rfl, (Below.refl _ _).alloc (Nat.le_refl _) _⟩
theorem pred_any (kind : Int) (attr : ByteArray) (qi : Option Addr) (ci : Nat) (ints : List Int) (qw : Option Addr) (cw : Nat) (words : List ByteArray) (lo hi : Int) (w : World) (h1 : SlOf encI 1 w qi ci ints) (h2 : SlOf encS 1 w qw cw words) (l1 : ints.length ≤ 1000000000000000000) (l2 : words.length ≤ 1000000000000000000) :
    Calls Tryz.prog 48 #[.agg #[.int .i64 kind, .string attr, .slice qi ints.length ci, .slice qw words.length cw, .int .i64 lo, .int .i64 hi]] w fun e w' => e = .returned (.int .i64 (code (predB kind attr ints words lo hi))) ∧ Below w.heap.size w w' := by
  unfold predB
  cases hn : nameOk attr with
  | false => exact pred_noname kind attr qi _ ci qw _ cw lo hi w hn
  | true =>
    rw [Bool.true_and]
    by_cases k1 : kind = 1
    · subst k1; rw [if_pos rfl]; exact pred_k1 attr qi ci ints qw cw words lo hi w h1 l1 hn
    by_cases k2 : kind = 2
    · subst k2; rw [if_neg k1, if_pos rfl]; exact pred_k2 attr qi ci ints qw cw words lo hi w h2 l2 hn
    by_cases k3 : kind = 3
    · subst k3; rw [if_neg k1, if_neg k2, if_pos rfl]; exact pred_k3 attr qi _ ci qw _ cw lo hi w hn
    by_cases k4 : kind = 4
    · subst k4; rw [if_neg k1, if_neg k2, if_neg k3, if_pos rfl]; exact pred_k4 attr qi ci ints qw cw words lo hi w h2 l2 hn
    rw [if_neg k1, if_neg k2, if_neg k3, if_neg k4]
    exact pred_kx kind attr qi _ ci qw _ cw lo hi w hn k1 k2 k3 k4
end Go.Proofs.YtedakipjfpdajaaGreatDoor

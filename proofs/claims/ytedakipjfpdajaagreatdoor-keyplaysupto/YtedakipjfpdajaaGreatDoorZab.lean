/- The reference's comparison of keys. -/
import Derived.Test.YtedakipjfpdajaaGreatDoorCmpK
import Derived.Test.YtedakipjfpdajaaGreatDoorCompact
import Derived.Lib.QuietBelow
import Derived.BigQuiet
import Derived.Test.YtedakipjfpdajaaGreatDoorPlain
namespace Go.Proofs.YtedakipjfpdajaaGreatDoor
open Go.RowKit Go.Sort Go.Shelf

theorem cmpS_gt {a b : List UInt8} (h : Op.bytesLess a b = false) (h2 : (!a == b) = true) : cmpS a b = 1 := by
  unfold cmpS; rw [if_neg (by simp [h]), if_neg (by simpa using h2)]
theorem below_drewN {B : Nat} {w w1 : World} (h : Below B w w1) (n : Nat) : Below B w (w1.drewN n) := ⟨h.os, h.tape, h.output, h.size, h.block⟩
set_option maxHeartbeats 400000 in
theorem ints_any (a b : Int) (w : World) :
    Calls Tryz.prog 122 #[.int .i64 a, .int .i64 b] w fun e w' => e = .returned (.int .i64 (cmpI a b)) ∧ w' = w := by
  by_cases h1 : a < b
  · go_enter Tryz.func122, Tryz.ntmps122
    go_wp2
    go_ret
    exact ⟨ret_int (cmpI_lt h1).symm, rfl⟩
  · by_cases h2 : b < a
    · go_enter Tryz.func122, Tryz.ntmps122
      go_wp2
      go_ret
      exact ⟨ret_int (cmpI_gt h2).symm, rfl⟩
    · go_enter Tryz.func122, Tryz.ntmps122
      go_wp2
      go_ret
      exact ⟨ret_int (cmpI_eq (by omega) (by omega)).symm, rfl⟩

theorem cmpS_cons (a b : UInt8) (x y : List UInt8) : cmpS (a :: x) (b :: y) = if a = b then cmpS x y else cmpI (a.toNat : Int) (b.toNat : Int) := by
  by_cases h : a = b
  · subst h
    rw [if_pos rfl]
    unfold cmpS
    simp [Op.bytesLess]
  · rw [if_neg h]
    have hn : a.toNat ≠ b.toNat := fun e => h (UInt8.toNat_inj.1 e)
    by_cases hl : a < b
    · rw [cmpS_lt (by simp [Op.bytesLess, hl])]
      rw [UInt8.lt_iff_toNat_lt] at hl
      rw [cmpI_lt (by omega)]
    · rw [cmpS_gt (by simp [Op.bytesLess, hl, h]) (by simp [h])]
      rw [UInt8.lt_iff_toNat_lt] at hl
      rw [cmpI_gt (by omega)]
theorem cmpS_nil_l (m : List UInt8) : cmpS [] m = cmpI 0 m.length := by
  cases m with
  | nil => rfl
  | cons b y => rw [cmpS_lt (by simp [Op.bytesLess]), cmpI_lt (by simp)]
theorem cmpS_nil_r (m : List UInt8) : cmpS m [] = cmpI m.length 0 := by
  cases m with
  | nil => rfl
  | cons b y => rw [cmpS_gt (by simp [Op.bytesLess]) (by simp), cmpI_gt (by simp)]
theorem drop_at (s : ByteArray) (k : Nat) (h : k < s.size) : s.data.toList.drop k = s[k] :: s.data.toList.drop (k + 1) := by
  rw [List.drop_eq_getElem_cons (by simpa using h)]; rfl
theorem cmpI_shift (a b k : Int) : cmpI (a - k) (b - k) = cmpI a b := by
  unfold cmpI
  by_cases h1 : a < b
  · rw [if_pos h1, if_pos (by omega)]
  · rw [if_neg h1, if_neg (by omega)]
    by_cases h2 : b < a
    · rw [if_pos h2, if_pos (by omega)]
    · rw [if_neg h2, if_neg (by omega)]
theorem texts_end (a b : ByteArray) (k : Nat) (h1 : k ≤ a.size) (h2 : k ≤ b.size) (h : ¬ (k < a.size ∧ k < b.size)) : cmpS (a.data.toList.drop k) (b.data.toList.drop k) = cmpI a.size b.size := by
  by_cases h3 : k < a.size
  · have h4 : k = b.size := by omega
    rw [List.drop_of_length_le (l := b.data.toList) (by simp; omega), cmpS_nil_r]
    rw [← cmpI_shift a.size b.size k]
    simp only [List.length_drop, Array.length_toList]
    congr 1
    · show ((a.size - k : Nat) : Int) = _; omega
    · omega
  · have h4 : k = a.size := by omega
    rw [List.drop_of_length_le (l := a.data.toList) (by simp; omega), cmpS_nil_l]
    rw [← cmpI_shift a.size b.size k]
    simp only [List.length_drop, Array.length_toList]
    congr 1
    · omega
    · show ((b.size - k : Nat) : Int) = _; omega
theorem texts_ne (a b : ByteArray) (k : Nat) (h1 : k < a.size) (h2 : k < b.size) (h : (a[k].toNat : Int) ≠ b[k].toNat) : cmpS (a.data.toList.drop k) (b.data.toList.drop k) = cmpI a[k].toNat b[k].toNat := by
  rw [drop_at a k h1, drop_at b k h2, cmpS_cons, if_neg]
  intro e; rw [e] at h; exact h rfl
theorem texts_eq (a b : ByteArray) (k : Nat) (h1 : k < a.size) (h2 : k < b.size) (h : (a[k].toNat : Int) = b[k].toNat) : cmpS (a.data.toList.drop k) (b.data.toList.drop k) = cmpS (a.data.toList.drop (k + 1)) (b.data.toList.drop (k + 1)) := by
  rw [drop_at a k h1, drop_at b k h2, cmpS_cons, if_pos]
  exact UInt8.toNat_inj.1 (by omega)

theorem wrap_byte (c : UInt8) : IntKind.i64.wrap (c.toNat : Int) = (c.toNat : Int) := by
  have := c.toNat_lt
  have e : (2 : Int) ^ IntKind.i64.bits = 18446744073709551616 := by decide
  have e2 : (2 : Int) ^ (IntKind.i64.bits - 1) = 9223372036854775808 := by decide
  simp [IntKind.wrap, e, e2]
  omega

set_option maxHeartbeats 1000000 in
theorem texts_any (a b : ByteArray) (w : World) (ha : a.size ≤ maxLen) :
    Calls Tryz.prog 120 #[.string a, .string b] w fun e w' => e = .returned (.int .i64 (cmpS a.data.toList b.data.toList)) ∧ Below w.heap.size w w' := by
  unfold maxLen at ha
  go_enter Tryz.func120, Tryz.ntmps120
  go_wp2
  go_loopw [5] (fun i wr => ∃ k : Nat, k ≤ a.size ∧ k ≤ b.size ∧ i = .int .i64 k ∧ Below w.heap.size w wr ∧ cmpS a.data.toList b.data.toList = cmpS (a.data.toList.drop k) (b.data.toList.drop k)) (fun i _ => a.size - (intOf i).toNat)
  case atStart => exact ⟨0, Nat.zero_le _, Nat.zero_le _, rfl, Below.refl _ _, by simp⟩
  case round =>
    obtain ⟨k, hka, hkb, rfl, hbel, heq⟩ := hrel
    have Heq := hide heq
    clear heq
    by_cases hlt : k < a.size ∧ k < b.size
    · obtain ⟨h1, h2⟩ := hlt
      have i0 : (0 : Int) ≤ (k : Int) := by omega
      have i1 : (k : Int) < (a.size : Int) := by omega
      have i2 : (k : Int) < (b.size : Int) := by omega
      by_cases hc : (a[k].toNat : Int) = b[k].toNat
      · have Hc := hide (texts_eq a b k h1 h2 hc)
        have hd : (((a[k].toNat : Int)) != (b[k].toNat : Int)) = false := by simp [hc]
        clear hc
        go_wp2
        go_quiet (fail)
        go_wp2
        go_roundw
        case rel => exact ⟨k + 1, by omega, by omega, by go_num, below_drewN hbel _, by rw [unhide Heq, unhide Hc]⟩
        case measure => simp [intOf]; omega
      · have Hc := hide (texts_ne a b k h1 h2 hc)
        have hd : (((a[k].toNat : Int)) != (b[k].toNat : Int)) = true := by simp [hc]
        clear hc
        go_wp2
        go_quiet (fail)
        go_wp2
        go_region_held3 (fun _ => True) (go_keep) ((go_at_call 122; refine (ints_any _ _ _).mono ?_; rintro e w' ⟨rfl, rfl⟩))
        all_goals
          go_wp2
          go_ret
          refine ⟨ret_int ?_, (below_drewN hbel _).drew⟩
          rw [unhide Heq, unhide Hc, wrap_byte, wrap_byte]

    · have Hend := hide (texts_end a b k hka hkb hlt)
      by_cases h1 : k < a.size
      · have h2 : ¬ k < b.size := fun h => hlt ⟨h1, h⟩
        clear hlt
        go_wp2_with (go_at_call 122; refine (ints_any _ _ _).mono ?_; rintro e w' ⟨rfl, rfl⟩)
        go_ret
        exact ⟨ret_int (by rw [unhide Heq, unhide Hend]), hbel⟩
      · clear hlt
        go_wp2_with (go_at_call 122; refine (ints_any _ _ _).mono ?_; rintro e w' ⟨rfl, rfl⟩)
        go_ret
        exact ⟨ret_int (by rw [unhide Heq, unhide Hend]), hbel⟩


set_option maxHeartbeats 2000000 in
set_option maxRecDepth 100000 in
/-- trommelref12.Compare. -/
theorem refCmp (x y : Ky) (w : World) (h1 : x.attr.size ≤ maxLen) (h2 : x.word.size ≤ maxLen) : Calls Tryz.prog 76 #[.agg #[.string x.attr, .int .i64 x.kind, .int .i64 x.level, .int .i64 x.num, .string x.word], .agg #[.string y.attr, .int .i64 y.kind, .int .i64 y.level, .int .i64 y.num, .string y.word]] w fun e w' => e = .returned (.int .i64 (cmpK x y)) ∧ Below w.heap.size w w' := by
  obtain ⟨X, HX⟩ : ∃ X, (w.alloc (.cells #[.string x.attr, .int .i64 x.kind, .int .i64 x.level, .int .i64 x.num, .string x.word] 46)).alloc (.cells #[.string y.attr, .int .i64 y.kind, .int .i64 y.level, .int .i64 y.num, .string y.word] 46) = X := ⟨_, rfl⟩
  have bX : Below w.heap.size w X := by rw [← HX]; exact ((Below.refl _ _).alloc (Nat.le_refl _) _).alloc (by simp) _
  have x8 : X.heap[w.heap.size]? = some (.cells #[.string x.attr, .int .i64 x.kind, .int .i64 x.level, .int .i64 x.num, .string x.word] 46 (0, 0)) := by
    rw [← HX]
    exact (((Below.refl _ _).alloc (Nat.le_refl _) _).block w.heap.size (by simp)).trans (World.alloc_heap_new _ _)
  have x9 : X.heap[w.heap.size + 1]? = some (.cells #[.string y.attr, .int .i64 y.kind, .int .i64 y.level, .int .i64 y.num, .string y.word] 46 (0, 0)) := by
    have := World.alloc_heap_new (w.alloc (.cells #[.string x.attr, .int .i64 x.kind, .int .i64 x.level, .int .i64 x.num, .string x.word] 46)) (.cells #[.string y.attr, .int .i64 y.kind, .int .i64 y.level, .int .i64 y.num, .string y.word] 46)
    rw [World.size_alloc] at this
    rw [← HX]; exact this
  have l8 : w.heap.size < X.heap.size := (Array.getElem?_eq_some_iff.1 x8).1
  have l9 : w.heap.size + 1 < X.heap.size := (Array.getElem?_eq_some_iff.1 x9).1
  obtain ⟨a0, a1, a2, a3, a4⟩ := cells_of_block x8
  obtain ⟨b0, b1, b2, b3, b4⟩ := cells_of_block x9
  have X8 := hide x8
  have X9 := hide x9
  have BX := hide bX
  have hT1 := texts_any x.attr y.attr
  have hT2 := texts_any x.word y.word
  unfold cmpK cmpT kParts
  simp only
  obtain ⟨c0, e0⟩ : ∃ c, cmpS x.attr.data.toList y.attr.data.toList = c := ⟨_, rfl⟩
  obtain ⟨c1, e1⟩ : ∃ c, cmpI x.kind y.kind = c := ⟨_, rfl⟩
  obtain ⟨c2, e2⟩ : ∃ c, cmpI x.level y.level = c := ⟨_, rfl⟩
  obtain ⟨c3, e3⟩ : ∃ c, cmpI x.num y.num = c := ⟨_, rfl⟩
  obtain ⟨c4, e4⟩ : ∃ c, cmpS x.word.data.toList y.word.data.toList = c := ⟨_, rfl⟩
  have hI1 := fun W => ints_any x.kind y.kind W
  have hI2 := fun W => ints_any x.level y.level W
  have hI3 := fun W => ints_any x.num y.num W
  rw [e0] at hT1
  rw [e4] at hT2
  rw [e1] at hI1
  rw [e2] at hI2
  rw [e3] at hI3
  rw [e0, e1, e2, e3, e4]
  obtain ⟨V, hV⟩ : ∃ V, (if c0 = 0 then (if c1 = 0 then (if c2 = 0 then (if c3 = 0 then c4 else c3) else c2) else c1) else c0) = V := ⟨_, rfl⟩
  rw [hV]
  have HV := hide hV
  clear hV e0 e1 e2 e3 e4 x8 x9 bX
  by_cases z0 : c0 = 0
  · subst z0
    by_cases z1 : c1 = 0
    · subst z1
      by_cases z2 : c2 = 0
      · subst z2
        by_cases z3 : c3 = 0
        · subst z3
          go_enter Tryz.func76, Tryz.ntmps76
          go_wp2_with (first
              | (go_at_call 120; have mk := M3; refine (hT2 _ h2).mono ?_; rintro e w2 ⟨rfl, b2'⟩; have B2 := hide (below_sub (unhide B1) b2'); clear b2' mk)
              | (go_at_call 122; have mk := M2; refine (hI3 _).mono ?_; rintro e u3 ⟨rfl, hw3⟩; have M3 := hide hw3; clear mk; obtain rfl := hw3.symm)
              | (go_at_call 122; have mk := M1; refine (hI2 _).mono ?_; rintro e u2 ⟨rfl, hw2⟩; have M2 := hide hw2; clear mk; obtain rfl := hw2.symm)
              | (go_at_call 122; refine (hI1 _).mono ?_; rintro e u1 ⟨rfl, hw1⟩; have M1 := hide hw1; obtain rfl := hw1.symm)
              | (go_at_call 120; refine (hT1 _ h1).mono ?_; rintro e w1 ⟨rfl, b1'⟩; have B1 := hide b1'; (obtain ⟨p0, p1, p2, p3, p4⟩ := cells_of_block ((b1'.block _ l8).trans (unhide X8))); (obtain ⟨r0, r1, r2, r3, r4⟩ := cells_of_block ((b1'.block _ l9).trans (unhide X9))); clear b1'))
          go_ret
          exact ⟨ret_int (by rw [← unhide HV]; simp), below_sub (unhide BX) (unhide B2)⟩
        · have q3 : (c3 == 0) = false := by simpa using z3
          go_enter Tryz.func76, Tryz.ntmps76
          go_wp2_with (first
              | (go_at_call 122; have mk := M2; refine (hI3 _).mono ?_; rintro e u3 ⟨rfl, hw3⟩; have M3 := hide hw3; clear mk; obtain rfl := hw3.symm)
              | (go_at_call 122; have mk := M1; refine (hI2 _).mono ?_; rintro e u2 ⟨rfl, hw2⟩; have M2 := hide hw2; clear mk; obtain rfl := hw2.symm)
              | (go_at_call 122; refine (hI1 _).mono ?_; rintro e u1 ⟨rfl, hw1⟩; have M1 := hide hw1; obtain rfl := hw1.symm)
              | (go_at_call 120; refine (hT1 _ h1).mono ?_; rintro e w1 ⟨rfl, b1'⟩; have B1 := hide b1'; (obtain ⟨p0, p1, p2, p3, p4⟩ := cells_of_block ((b1'.block _ l8).trans (unhide X8))); (obtain ⟨r0, r1, r2, r3, r4⟩ := cells_of_block ((b1'.block _ l9).trans (unhide X9))); clear b1'))
          go_ret

          exact ⟨ret_int (by rw [← unhide HV]; simp [z3]), below_sub (unhide BX) (unhide B1)⟩
      · have q2 : (c2 == 0) = false := by simpa using z2
        go_enter Tryz.func76, Tryz.ntmps76
        go_wp2_with (first
            | (go_at_call 122; have mk := M1; refine (hI2 _).mono ?_; rintro e u2 ⟨rfl, hw2⟩; have M2 := hide hw2; clear mk; obtain rfl := hw2.symm)
            | (go_at_call 122; refine (hI1 _).mono ?_; rintro e u1 ⟨rfl, hw1⟩; have M1 := hide hw1; obtain rfl := hw1.symm)
            | (go_at_call 120; refine (hT1 _ h1).mono ?_; rintro e w1 ⟨rfl, b1'⟩; have B1 := hide b1'; (obtain ⟨p0, p1, p2, p3, p4⟩ := cells_of_block ((b1'.block _ l8).trans (unhide X8))); (obtain ⟨r0, r1, r2, r3, r4⟩ := cells_of_block ((b1'.block _ l9).trans (unhide X9))); clear b1'))
        go_ret

        exact ⟨ret_int (by rw [← unhide HV]; simp [z2]), below_sub (unhide BX) (unhide B1)⟩
    · have q1 : (c1 == 0) = false := by simpa using z1
      go_enter Tryz.func76, Tryz.ntmps76
      go_wp2_with (first
          | (go_at_call 122; refine (hI1 _).mono ?_; rintro e u1 ⟨rfl, hw1⟩; have M1 := hide hw1; obtain rfl := hw1.symm)
          | (go_at_call 120; refine (hT1 _ h1).mono ?_; rintro e w1 ⟨rfl, b1'⟩; have B1 := hide b1'; (obtain ⟨p0, p1, p2, p3, p4⟩ := cells_of_block ((b1'.block _ l8).trans (unhide X8))); (obtain ⟨r0, r1, r2, r3, r4⟩ := cells_of_block ((b1'.block _ l9).trans (unhide X9))); clear b1'))
      go_ret

      exact ⟨ret_int (by rw [← unhide HV]; simp [z1]), below_sub (unhide BX) (unhide B1)⟩
  · have q0 : (c0 == 0) = false := by simpa using z0
    go_enter Tryz.func76, Tryz.ntmps76
    go_wp2_with (go_at_call 120; refine (hT1 _ h1).mono ?_; rintro e w1 ⟨rfl, b1'⟩; have B1 := hide b1'; clear b1')
    go_ret
    exact ⟨ret_int (by rw [← unhide HV, if_neg z0]), below_sub (unhide BX) (unhide B1)⟩
end Go.Proofs.YtedakipjfpdajaaGreatDoor
namespace Go.Proofs.YtedakipjfpdajaaGreatDoor

/-- What is merged so far: rising, of what was taken, and nothing that is left is ahead of it. -/
def Mrg (a b : List Ky) (i j : Nat) (out : List Ky) : Prop := Str out ∧ (∀ x, x ∈ out ↔ x ∈ a.take i ∨ x ∈ b.take j) ∧ ∀ x ∈ out, ∀ y, y ∈ a.drop i ∨ y ∈ b.drop j → ¬ ltK y x
theorem Mrg.start (a b : List Ky) : Mrg a b 0 0 [] := ⟨Str.nil, fun x => by simp, fun x hx => by simp at hx⟩
theorem Mrg.swap {a b : List Ky} {i j : Nat} {out : List Ky} (h : Mrg a b i j out) : Mrg b a j i out := ⟨h.1, fun x => (h.2.1 x).trans Or.comm, fun x hx y hy => h.2.2 x hx y hy.symm⟩
theorem str_step {out : List Ky} {x : Ky} (h : Str out) (hx : ∀ z ∈ out, ¬ ltK x z) : Str (stepC out x) :=
  str_foldC (l := [x]) h (List.pairwise_singleton _ _) fun z hz y hy => by
    obtain rfl : y = x := by simpa using hy
    exact hx z hz
theorem Mrg.left {a b : List Ky} {i j : Nat} {out : List Ky} (h : Mrg a b i j out) (ha : Str a) {x : Ky} (hx : a[i]? = some x) (hb : ∀ y ∈ b.drop j, ¬ ltK y x) : Mrg a b (i + 1) j (stepC out x) := by
  obtain ⟨h1, h2, h3⟩ := h
  have hl : i < a.length := (List.getElem?_eq_some_iff.1 hx).1
  have hd : a.drop i = x :: a.drop (i + 1) := by
    rw [List.drop_eq_getElem_cons hl]
    congr 1
    exact (List.getElem?_eq_some_iff.1 hx).2
  have ht : a.take (i + 1) = a.take i ++ [x] := by
    rw [List.take_add_one, hx]; rfl
  have hr : ∀ y ∈ a.drop (i + 1), ltK x y := by
    have := ha.sub (List.drop_sublist i a)
    rw [hd] at this
    exact (List.pairwise_cons.1 this).1
  refine ⟨str_step h1 fun z hz => h3 z hz x (Or.inl (by rw [hd]; exact List.mem_cons_self)), fun z => ?_, fun z hz y hy => ?_⟩
  · rw [mem_step, h2, ht, List.mem_append, List.mem_singleton]
    constructor
    · rintro ((h | h) | h) <;> simp [h]
    · rintro ((h | h) | h) <;> simp [h]
  · rcases mem_step.1 hz with hz | rfl
    · rcases hy with hy | hy
      · exact h3 z hz y (Or.inl (by rw [hd]; exact List.mem_cons_of_mem _ hy))
      · exact h3 z hz y (Or.inr hy)
    · rcases hy with hy | hy
      · exact lt_asymm (hr y hy)
      · exact hb y hy
theorem Mrg.right {a b : List Ky} {i j : Nat} {out : List Ky} (h : Mrg a b i j out) (hb : Str b) {x : Ky} (hx : b[j]? = some x) (ha : ∀ y ∈ a.drop i, ¬ ltK y x) : Mrg a b i (j + 1) (stepC out x) := (h.swap.left hb hx ha).swap
theorem not_lt_drop {b : List Ky} (hb : Str b) {j : Nat} {y x : Ky} (hy : b[j]? = some y) (h : ¬ ltK y x) : ∀ z ∈ b.drop j, ¬ ltK z x := by
  intro z hz
  have hl : j < b.length := (List.getElem?_eq_some_iff.1 hy).1
  have hd : b.drop j = y :: b.drop (j + 1) := by
    rw [List.drop_eq_getElem_cons hl]
    congr 1
    exact (List.getElem?_eq_some_iff.1 hy).2
  have := hb.sub (List.drop_sublist j b)
  rw [hd] at this hz
  rcases List.mem_cons.1 hz with rfl | hz
  · exact h
  · exact fun hzx => h (lt_trans ((List.pairwise_cons.1 this).1 z hz) hzx)
theorem Mrg.leftC {a b : List Ky} {i j : Nat} {out : List Ky} (h : Mrg a b i j out) (ha : Str a) (hb : Str b) {x y : Ky} (hx : a[i]? = some x) (hy : b[j]? = some y) (hc : cmpK x y ≤ 0) : Mrg a b (i + 1) j (stepC out x) :=
  h.left ha hx (not_lt_drop hb hy (by unfold ltK; rw [isCmp_key.neg x y]; omega))
theorem Mrg.leftE {a b : List Ky} {i j : Nat} {out : List Ky} (h : Mrg a b i j out) (ha : Str a) {x : Ky} (hx : a[i]? = some x) (hj : b.length ≤ j) : Mrg a b (i + 1) j (stepC out x) :=
  h.left ha hx (by rw [List.drop_eq_nil_of_le hj]; simp)
theorem Mrg.rightC {a b : List Ky} {i j : Nat} {out : List Ky} (h : Mrg a b i j out) (ha : Str a) (hb : Str b) {x y : Ky} (hx : a[i]? = some x) (hy : b[j]? = some y) (hc : ¬ cmpK x y ≤ 0) : Mrg a b i (j + 1) (stepC out y) :=
  h.right hb hy (not_lt_drop ha hx (by unfold ltK; omega))
theorem Mrg.rightE {a b : List Ky} {i j : Nat} {out : List Ky} (h : Mrg a b i j out) (hb : Str b) {y : Ky} (hy : b[j]? = some y) (hi : a.length ≤ i) : Mrg a b i (j + 1) (stepC out y) :=
  h.right hb hy (by rw [List.drop_eq_nil_of_le hi]; simp)
theorem Mrg.done {l m out : List Ky} {i j : Nat} (h : Mrg (ris l) (ris m) i j out) (hi : (ris l).length ≤ i) (hj : (ris m).length ≤ j) : out = ris (l ++ m) := by
  refine (ris_of h.1 fun x => ?_).symm
  rw [h.2.1, List.take_of_length_le hi, List.take_of_length_le hj, mem_ris, mem_ris, List.mem_append]
theorem step_len (out : List Ky) (x : Ky) : (stepC out x).length ≤ out.length + 1 := by
  unfold stepC; split <;> simp
theorem Mrg.len {a b : List Ky} {i j : Nat} {out : List Ky} (h : Mrg a b i j out) : out.length ≤ i + j := by
  have h1 : out = ris (a.take i ++ b.take j) := (ris_of h.1 fun x => by rw [h.2.1, List.mem_append]).symm
  rw [h1]
  refine Nat.le_trans (ris_len _) ?_
  rw [List.length_append, List.length_take, List.length_take]
  omega
theorem step_same {out : List Ky} {x : Ky} (h : out.getLast? = some x) : stepC out x = out := by unfold stepC; rw [if_pos h]
theorem step_new {out : List Ky} {x : Ky} (h : ¬ out.getLast? = some x) : stepC out x = out ++ [x] := by unfold stepC; rw [if_neg h]

/-- What two rising lists share, by going through both. -/
def Shr (x y : List Ky) (i j : Nat) (out : List Ky) : Prop := out = (x.take i).filter (fun z => decide (z ∈ y)) ∧ ∀ z ∈ y.take j, ∀ u ∈ x.drop i, ltK z u
theorem Shr.start (x y : List Ky) : Shr x y 0 0 [] := ⟨by simp, fun z hz => by simp at hz⟩
def Ahd (y : List Ky) (v : Ky) (j : Nat) : Prop := ∀ z ∈ y.take j, ltK z v
theorem drop_at' {l : List Ky} {i : Nat} {x : Ky} (hx : l[i]? = some x) : l.drop i = x :: l.drop (i + 1) := by
  have hl : i < l.length := (List.getElem?_eq_some_iff.1 hx).1
  rw [List.drop_eq_getElem_cons hl]
  congr 1
  exact (List.getElem?_eq_some_iff.1 hx).2
theorem take_at' {l : List Ky} {i : Nat} {x : Ky} (hx : l[i]? = some x) : l.take (i + 1) = l.take i ++ [x] := by
  rw [List.take_add_one, hx]; rfl
theorem Shr.ahd {x y : List Ky} {i j : Nat} {out : List Ky} {v : Ky} (h : Shr x y i j out) (hv : x[i]? = some v) : Ahd y v j := fun z hz => h.2 z hz v (by rw [drop_at' hv]; exact List.mem_cons_self)
theorem Ahd.step {y : List Ky} {v u : Ky} {j : Nat} (h : Ahd y v j) (hu : y[j]? = some u) (hc : cmpK u v < 0) : Ahd y v (j + 1) := by
  intro z hz
  rw [take_at' hu] at hz
  rcases List.mem_append.1 hz with hz | hz
  · exact h z hz
  · obtain rfl : z = u := by simpa using hz
    exact hc
theorem Ahd.mem {y : List Ky} {v : Ky} {j : Nat} (hy : Str y) (h : Ahd y v j) (he : ∀ u, y[j]? = some u → ¬ cmpK u v < 0) : v ∈ y ↔ y[j]? = some v := by
  constructor
  · intro hm
    rw [← List.take_append_drop j y] at hm
    rcases List.mem_append.1 hm with hm | hm
    · exact absurd (h v hm) (lt_irrefl v)
    · cases hu : y[j]? with
      | none =>
        rw [List.getElem?_eq_none_iff] at hu
        rw [List.drop_eq_nil_of_le hu] at hm
        simp at hm
      | some u =>
        have hd := drop_at' hu
        have hs := hy.sub (List.drop_sublist j y)
        rw [hd] at hs hm
        rcases List.mem_cons.1 hm with rfl | hm
        · rfl
        · exact absurd ((List.pairwise_cons.1 hs).1 v hm) (he u hu)
  · exact fun hm => List.mem_of_getElem? hm
theorem Shr.next {x y : List Ky} {i j j' : Nat} {out : List Ky} {v : Ky} (h : Shr x y i j out) (hx : Str x) (hv : x[i]? = some v) (ha : Ahd y v j') : Shr x y (i + 1) j' (if v ∈ y then out ++ [v] else out) := by
  refine ⟨?_, fun z hz u hu => ?_⟩
  · rw [take_at' hv, List.filter_append, ← h.1]
    split
    · next hm => simp [hm]
    · next hm => simp [hm]
  · have hs := hx.sub (List.drop_sublist i x)
    rw [drop_at' hv] at hs
    exact lt_trans (ha z hz) ((List.pairwise_cons.1 hs).1 u hu)
theorem Shr.len {x y : List Ky} {i j : Nat} {out : List Ky} (h : Shr x y i j out) : out.length ≤ i := by
  rw [h.1]
  exact Nat.le_trans (List.length_filter_le _ _) (by rw [List.length_take]; omega)
theorem Shr.done {x y : List Ky} {i j : Nat} {out : List Ky} (h : Shr x y i j out) (hi : x.length ≤ i) : out = x.filter (fun z => decide (z ∈ y)) := by
  rw [h.1, List.take_of_length_le hi]
end Go.Proofs.YtedakipjfpdajaaGreatDoor

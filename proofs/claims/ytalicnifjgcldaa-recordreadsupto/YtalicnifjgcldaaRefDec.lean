/- The reference's Decode. -/
import Derived.Test.YtalicnifjgcldaaRefRd
namespace Go.Proofs.Ytalicnifjgcldaa
open Go.RowKit Go.Sort Go.Shelf

theorem pow8 : (128 : Nat) ^ 8 = 72057594037927936 := by decide
theorem vint_uniq {n m : Nat} {r s : List UInt8} (hn : n < 72057594037927936) (hm : m < 72057594037927936) (h : vint n ++ r = vint m ++ s) : n = m ∧ r = s := by
  have e1 := varS_read (vint n ++ r) 8 0 0 0 n r (by simp) (by simpa using hn) (by omega) (fun h => by omega)
  have e2 := varS_read (vint n ++ r) 8 0 0 0 m s (by simpa using h) (by simpa using hm) (by omega) (fun h => by omega)
  rw [e1] at e2
  injection e2 with e2 _
  simp at e2
  subst e2
  exact ⟨rfl, List.append_cancel_left h⟩
theorem rd_no (q : Option Addr) (cp : Nat) (l : List UInt8) (a most : Nat) (w : World) (h : SlOf encB 1 w q cp l) (hl : l.length ≤ 1000000000000000) (ha : a ≤ 10) (hx : (varS l 8 0 0 a false).2.2 = true ∨ most < (varS l 8 0 0 a false).1) :
    Calls Try.prog 36 #[.slice q l.length cp, .int .i64 (a : Int), .int .i64 (most : Int)] w fun e w' => (∃ n p : Nat, e = .returned (.tuple #[.int .i64 (n : Int), .int .i64 (p : Int), .bool false]) ∧ n ≤ 72057594037927936 ∧ p ≤ l.length + 10) ∧ w' = w := by
  refine (refRead q cp l a most w h hl ha).mono ?_
  rintro e w' ⟨⟨n, p, ok, rfl, h1, h2, h3, h4⟩, rfl⟩
  refine ⟨⟨n, p, ?_, h1, h2⟩, rfl⟩
  have : ok = false := by
    cases hv : (varS l 8 0 0 a false).2.2 with
    | true => exact h4 hv
    | false =>
      rcases hx with hx | hx
      · rw [hv] at hx; cases hx
      · rw [(h3 hv).2.2]; exact decide_eq_false (by omega)
  rw [this]
theorem rd_yes (q : Option Addr) (cp : Nat) (l : List UInt8) (a most n p : Nat) (w : World) (h : SlOf encB 1 w q cp l) (hl : l.length ≤ 1000000000000000) (ha : a ≤ 10) (hx : varS l 8 0 0 a false = (n, p, false)) (hm : n ≤ most) :
    Calls Try.prog 36 #[.slice q l.length cp, .int .i64 (a : Int), .int .i64 (most : Int)] w fun e w' => e = .returned (.tuple #[.int .i64 (n : Int), .int .i64 (p : Int), .bool true]) ∧ w' = w := by
  refine (refRead q cp l a most w h hl ha).mono ?_
  rintro e w' ⟨⟨n', p', ok, rfl, h1, h2, h3, h4⟩, rfl⟩
  rw [hx] at h3
  obtain ⟨e1, e2, e3⟩ := h3 rfl
  simp only at e1 e2 e3
  rw [e1, e2, e3, decide_eq_true hm]
  exact ⟨rfl, rfl⟩
/-- What a record that Decode takes is made of. -/
theorem dec_parts {l : List UInt8} {c : Ch} {N : Nat} (h : decS l = some (c, N)) : MayB c ∧ N = (oneB c).length ∧ ∃ r, l = 67 :: (vint (bodyB c).length ++ (bodyB c ++ r)) ∧ 2 ≤ (bodyB c).length ∧ (bodyB c).length ≤ 4110 := by
  obtain ⟨hm, hl, hn⟩ := decS_back h
  refine ⟨hm, hn, four (sumB (67 :: (vint (bodyB c).length ++ bodyB c))) ++ l.drop N, ?_, ?_, body_len c hm⟩
  · have e : oneB c = (67 :: (vint (bodyB c).length ++ bodyB c)) ++ four (sumB (67 :: (vint (bodyB c).length ++ bodyB c))) := rec_parts (bodyB c)
    have hl2 : l = ((67 :: (vint (bodyB c).length ++ bodyB c)) ++ four (sumB (67 :: (vint (bodyB c).length ++ bodyB c)))) ++ l.drop N := by rw [← e]; exact hl
    exact hl2.trans (by simp)
  · have := vint_len_pos c.id.toNat
    simp [bodyB]; omega
/-- How far the number behind the mark is read, of a record. -/
theorem dec_v1 {l : List UInt8} {c : Ch} {N : Nat} (h : decS l = some (c, N)) : varS l 8 0 0 1 false = ((bodyB c).length, 1 + (vint (bodyB c).length).length, false) ∧ (bodyB c).length ≤ 4110 ∧ 2 ≤ (bodyB c).length ∧ 1 + (vint (bodyB c).length).length + (bodyB c).length ≤ l.length ∧ (l.drop (1 + (vint (bodyB c).length).length)).take (bodyB c).length = bodyB c := by
  obtain ⟨hm, hN, r, hl, h2, h3⟩ := dec_parts h
  have hd : l.drop (1 + (vint (bodyB c).length).length) = bodyB c ++ r := by rw [hl, Nat.add_comm]; simp
  refine ⟨?_, h3, h2, ?_, by rw [hd, List.take_left]⟩
  · have := varS_read l 8 0 0 1 (bodyB c).length (bodyB c ++ r) (by rw [hl]; rfl) (by rw [pow8]; omega) (by omega) (fun h => by omega)
    rw [this]; simp
  · have := congrArg List.length hl
    simp at this; omega
theorem body_v2 {c : Ch} (hm : MayB c) : varS (bodyB c) 8 0 0 1 false = (c.id.toNat, 1 + (vint c.id.toNat).length, false) ∧ c.id.toNat ≤ 1099511627776 ∧ (bodyB c)[0]? = some (UInt8.ofNat c.kind.toNat) ∧ (bodyB c).drop (1 + (vint c.id.toNat).length) = c.text.data.toList ∧ ((UInt8.ofNat c.kind.toNat).toNat : Int) = c.kind ∧ ((c.id.toNat : Nat) : Int) = c.id := by
  have h1 := hm.1
  have hk : 0 ≤ c.kind ∧ c.kind ≤ 3 := by rcases hm.2 with h | h <;> omega
  refine ⟨?_, by omega, rfl, ?_, by rw [toNat_of]; omega, by omega⟩
  · have := varS_read (bodyB c) 8 0 0 1 c.id.toNat c.text.data.toList rfl (by rw [pow8]; omega) (by omega) (fun h => by omega)
    rw [this]; simp
  · rw [Nat.add_comm]; simp [bodyB]
set_option maxHeartbeats 1000000 in
set_option maxRecDepth 100000 in
/-- The reference's Decode where the number behind the mark is none that serves. -/
theorem rdec_no1 (q : Option Addr) (cp : Nat) (l : List UInt8) (w : World) (h : SlOf encB 1 w q cp l) (hl : l.length ≤ 1000000000000) (hx : (varS l 8 0 0 1 false).2.2 = true ∨ 8192 < (varS l 8 0 0 1 false).1) :
    Calls Try.prog 23 #[.slice q l.length cp] w fun e w' => e = .returned (.tuple #[.agg #[.int .i64 0, .int .i64 0, .string ⟨#[]⟩], .int .i64 0, .int .i64 30]) ∧ Below w.heap.size w w' := by
  obtain ⟨z, hz⟩ : ∃ z, w.alloc (.cells #[.int .i64 0, .int .i64 0, .string ⟨#[]⟩] 32) = z := ⟨_, rfl⟩
  have bz : Below w.heap.size w z := by rw [← hz]; exact (Below.refl _ _).alloc (Nat.le_refl _) _
  have blkz : z.heap[w.heap.size]? = some (.cells #[.int .i64 0, .int .i64 0, .string ⟨#[]⟩] 32 (0, 0)) := by rw [← hz]; exact heap_alloc_new _ _
  have hrd := rd_no q cp l 1 8192 z (h.below bz) (by omega) (by omega) hx
  have X := And.intro (set3_blk blkz (.int .i64 0) (.int .i64 0) (.string ⟨#[]⟩)) (set3_below bz (Nat.le_refl _) (.int .i64 0) (.int .i64 0) (.string ⟨#[]⟩))
  obtain ⟨⟨x0, x1, x2⟩, f0, f1, f2⟩ := cells3 blkz
  have HX := hide X
  clear h hx bz blkz X
  go_enter Try.func23, Try.ntmps23
  go_wp2_with (go_at_call 36; refine hrd.mono ?_; rintro e w1 ⟨⟨n, p, rfl, hn, hp⟩, hw1⟩; obtain rfl := hw1.symm)
  refine bodyPost_ret (results_ctt (fn := Try.f23) (p := 2) (u := 3) (v := 4) (ty := 32) rfl _ _ w.heap.size 32 _ (0, 0) _ (by rfl) (unhide HX).1 Try.underlying32 rfl Try.info32s) rfl ?_
  exact ⟨rfl, (unhide HX).2⟩
set_option maxHeartbeats 1000000 in
set_option maxRecDepth 100000 in
theorem rdec_no2 (q : Option Addr) (cp : Nat) (l : List UInt8) (w : World) (h : SlOf encB 1 w q cp l) (hl : l.length ≤ 1000000000000) (n p : Nat) (hx : varS l 8 0 0 1 false = (n, p, false)) (hn : n ≤ 8192) (hp : p ≤ l.length) (hb : ¬ (p + n ≤ l.length ∧ 2 ≤ n)) :
    Calls Try.prog 23 #[.slice q l.length cp] w fun e w' => e = .returned (.tuple #[.agg #[.int .i64 0, .int .i64 0, .string ⟨#[]⟩], .int .i64 0, .int .i64 30]) ∧ Below w.heap.size w w' := by
  obtain ⟨z, hz⟩ : ∃ z, w.alloc (.cells #[.int .i64 0, .int .i64 0, .string ⟨#[]⟩] 32) = z := ⟨_, rfl⟩
  have bz : Below w.heap.size w z := by rw [← hz]; exact (Below.refl _ _).alloc (Nat.le_refl _) _
  have blkz : z.heap[w.heap.size]? = some (.cells #[.int .i64 0, .int .i64 0, .string ⟨#[]⟩] 32 (0, 0)) := by rw [← hz]; exact heap_alloc_new _ _
  have hrd := rd_yes q cp l 1 8192 n p z (h.below bz) (by omega) (by omega) hx hn
  have X := And.intro (set3_blk blkz (.int .i64 0) (.int .i64 0) (.string ⟨#[]⟩)) (set3_below bz (Nat.le_refl _) (.int .i64 0) (.int .i64 0) (.string ⟨#[]⟩))
  obtain ⟨⟨x0, x1, x2⟩, f0, f1, f2⟩ := cells3 blkz
  have HX := hide X
  obtain ⟨d, hd⟩ : ∃ d, l.length - p = d := ⟨_, rfl⟩
  have gd : (l.length : Int) - (p : Int) = (d : Int) := by omega
  have gdb : (d : Int) ≤ 1000000000000 := by omega
  by_cases h1 : d < n
  · have g1 : (d : Int) < (n : Int) := by omega
    clear h hx bz blkz X hb hd
    go_enter Try.func23, Try.ntmps23
    go_wp2_with (go_at_call 36; refine hrd.mono ?_; rintro e w1 ⟨rfl, hw1⟩; obtain rfl := hw1.symm)
    refine bodyPost_ret (results_ctt (fn := Try.f23) (p := 2) (u := 3) (v := 4) (ty := 32) rfl _ _ w.heap.size 32 _ (0, 0) _ (by rfl) (unhide HX).1 Try.underlying32 rfl Try.info32s) rfl ?_
    exact ⟨rfl, (unhide HX).2⟩
  · have g1 : ¬ (d : Int) < (n : Int) := by omega
    have g2 : (n : Int) < 2 := by omega
    clear h hx bz blkz X hb hd
    go_enter Try.func23, Try.ntmps23
    go_wp2_with (go_at_call 36; refine hrd.mono ?_; rintro e w1 ⟨rfl, hw1⟩; obtain rfl := hw1.symm)
    refine bodyPost_ret (results_ctt (fn := Try.f23) (p := 2) (u := 3) (v := 4) (ty := 32) rfl _ _ w.heap.size 32 _ (0, 0) _ (by rfl) (unhide HX).1 Try.underlying32 rfl Try.info32s) rfl ?_
    exact ⟨rfl, (unhide HX).2⟩
end Go.Proofs.Ytalicnifjgcldaa

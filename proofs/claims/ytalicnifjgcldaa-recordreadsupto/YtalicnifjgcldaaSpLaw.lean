/- RecordSpoilt answers true. -/
import Derived.Test.YtalicnifjgcldaaSpPlain
import Derived.Test.YtalicnifjgcldaaSumsLaw
namespace Go.Proofs.Ytalicnifjgcldaa
open Go.RowKit Go.Sort Go.Shelf

theorem srcCh (w : World) (x : Ch) : SlOf encC 3 (w.alloc (.cells #[.int .i64 x.kind, .int .i64 x.id, .string x.text] 32)) (some ⟨w.heap.size, 0, none⟩) 1 [x] := by
  refine ⟨(fun h => by cases h), Nat.le_refl _, by unfold maxLen; omega, LsOf.one (by simp) fun j hj => ?_⟩
  rw [cellA]
  have hm : j = 0 ∨ j = 1 ∨ j = 2 := by omega
  rcases hm with e | e | e <;> rw [e] <;> rfl
/-- Encode of one change. -/
theorem enc_one (x : Ch) (w : World) : Calls Try.prog 10 #[.slice (some ⟨w.heap.size, 0, none⟩) 1 1] (w.alloc (.cells #[.int .i64 x.kind, .int .i64 x.id, .string x.text] 32)) fun e w' =>
    ((MayB x ∧ ∃ q cap, e = .returned (.tuple #[.slice q (oneB x).length cap, .int .i64 0]) ∧ OwnK encB 5 1 w.heap.size w' q cap (oneB x)) ∨ (¬ MayB x ∧ e = .returned (.tuple #[.slice none 0 0, .int .i64 1]))) ∧ Below w.heap.size w w' := by
  have he := encode_any (some ⟨w.heap.size, 0, none⟩) 1 [x] _ (srcCh w x) (by simp)
  have hb0 : Below w.heap.size w (w.alloc (.cells #[.int .i64 x.kind, .int .i64 x.id, .string x.text] 32)) := (Below.refl _ _).alloc (Nat.le_refl _) _
  refine he.mono ?_
  rintro e w' ⟨hE, hB⟩
  refine ⟨?_, below_sub hb0 hB⟩
  have hx : encs [x] = oneB x := by simp [encs]
  rcases hE with ⟨hm, q, cap, rfl, ho⟩ | ⟨hn, rfl⟩
  · rw [hx] at ho ⊢
    exact .inl ⟨hm x (by simp), q, cap, rfl, ho.mono (by simp)⟩
  · exact .inr ⟨fun hm => hn (fun c hc => by obtain rfl : c = x := by simpa using hc
                                             exact hm), rfl⟩
theorem xor_byte (z x : UInt8) : bits .xor .u8 (z.toNat : Int) (x.toNat : Int) = ((z ^^^ x).toNat : Int) := by
  have := u8_xor_nat z.toNat x.toNat (by have := z.toNat_lt; omega) (by have := x.toNat_lt; omega)
  rw [this, UInt8.toNat_xor]
theorem xor_ne {z x : UInt8} (h : ¬ x.toNat = 0) : z ^^^ x ≠ z := by
  intro e
  have e2 := congrArg UInt8.toNat e
  rw [UInt8.toNat_xor] at e2
  have : x.toNat = 0 := xor_can' (a := z.toNat) (by rw [e2, Nat.xor_zero])
  exact h this
set_option maxHeartbeats 400000 in
set_option maxRecDepth 100000 in
theorem spoilt_law (c : Ch) (at' : Int) (x : UInt8) (w : World) :
    Calls Try.prog 8 #[.agg #[.int .i64 c.kind, .int .i64 c.id, .string c.text], .int .i64 at', .int .u8 (x.toNat : Int)] w fun e w' => e = .returned (.bool true) ∧ Below w.heap.size w w' := by
  obtain ⟨z, hz⟩ : ∃ z, w.alloc (.cells #[.int .i64 c.kind, .int .i64 c.id, .string c.text] 32) = z := ⟨_, rfl⟩
  have bz : Below w.heap.size w z := by rw [← hz]; exact (Below.refl _ _).alloc (Nat.le_refl _) _
  have blkz : z.heap[w.heap.size]? = some (.cells #[.int .i64 c.kind, .int .i64 c.id, .string c.text] 32 (0, 0)) := by rw [← hz]; exact heap_alloc_new _ _
  have hlt : w.heap.size < z.heap.size := by rw [← hz]; simp
  have hf := fixed_any z
  have hen := fun W : World => enc_one c W
  obtain ⟨U, hU⟩ := wrapU at'
  have BZ := hide bz
  have BLZ := hide blkz
  have HLT := hide hlt
  clear bz blkz hlt
  by_cases hm : MayB c
  · by_cases hx0 : x.toNat = 0
    · have hx0i : (x.toNat : Int) = 0 := by omega
      clear hU hx0
      go_enter Try.func8, Try.ntmps8
      go_wp2_with (first
        | (go_at_call 9; refine hf.mono ?_; rintro e w1 ⟨rfl, b1⟩; obtain ⟨⟨d0, d1, d2⟩, _⟩ := cells3 ((b1.block _ (unhide HLT)).trans (unhide BLZ)); have B1 := hide ((unhide BZ).trans (b1.mono (unhide BZ).size)); clear b1)
        | (go_at_call 10; refine (hen _).mono ?_; rintro e w2 ⟨hE, b2⟩; rcases hE with ⟨_, q, cp, rfl, o2⟩ | ⟨hn, _⟩; rotate_left; exact absurd hm hn; have B2 := hide ((unhide B1).trans (b2.mono (unhide B1).size)); clear b2 o2))
      go_ret
      exact ⟨rfl, unhide B2⟩
    · obtain ⟨y, s, hy1, hs, hys, hsl⟩ := one_second hm
      obtain ⟨L, hL⟩ : ∃ L, (oneB c).length = L := ⟨_, rfl⟩
      rw [hL] at hsl
      have hLb : L ≤ 4130 := by have := one_len c hm; omega
      obtain ⟨D, hD⟩ : ∃ D, L - s = D := ⟨_, rfl⟩
      obtain ⟨K, hK⟩ : ∃ K, s + U % D = K := ⟨_, rfl⟩
      have hD0 : 0 < D := by omega
      have hml := Nat.mod_lt U hD0
      have hKL : K < (oneB c).length := by omega
      obtain ⟨m, hmm⟩ : ∃ m, U % D = m := ⟨_, rfl⟩
      have hrem : (U : Int).tmod (D : Int) = (m : Int) := by rw [Int.tmod_eq_emod_of_nonneg (by omega), ← hmm]; omega
      have hDw : IntKind.u64.wrap (D : Int) = (D : Int) := by rw [IntKind.wrap_u64]; omega
      have hmw := wrap_nat m (by omega)
      have hdn := spoilt_one (y := (oneB c)[K] ^^^ x) hm (by omega) hKL (xor_ne hx0)
      have hxb := xor_byte (oneB c)[K] x
      have hx0i : ¬ (x.toNat : Int) = 0 := by omega
      have hdec := fun (q : Option Addr) (cp : Nat) (W : World) (hW : SlOf encB 1 W q cp ((oneB c).set K ((oneB c)[K] ^^^ x))) => decode_any q cp ((oneB c).set K ((oneB c)[K] ^^^ x)) W hW (by simp; omega)
      rw [DecV_none hdn, List.length_set, hL] at hdec
      obtain ⟨Y, hY⟩ : ∃ Y, (oneB c)[K] ^^^ x = Y := ⟨_, rfl⟩
      rw [hY] at hdec hxb
      obtain ⟨Zb, hZb⟩ : ∃ Zb, (oneB c)[K] = Zb := ⟨_, rfl⟩
      rw [hZb] at hxb
      have hset := fun (B g cp : Nat) (W : World) (ho : OwnK encB 5 1 B W (some ⟨g, 0, none⟩) cp (oneB c)) => own_set ho K hKL Y
      have hcell1 := fun (B : Nat) (g cp : Nat) (W : World) (ho : OwnK encB 5 1 B W (some ⟨g, 0, none⟩) cp (oneB c)) => byteAt ho.ls hy1
      rw [hZb] at hset
      have hKI : (K : Int) < (L : Int) := by omega
      have hK0 : (0 : Int) ≤ (K : Int) := by omega
      have hsI : (s : Int) + (m : Int) = (K : Int) := by omega
      have hDI : (L : Int) - (s : Int) = (D : Int) := by omega
      have hL1 : (1 : Int) < (L : Int) := by omega
      have hDn : ¬ D = 0 := by omega
      have hLs : ¬ (L : Int) ≤ (s : Int) := by omega
      have hLL : (L : Int) ≤ 4130 := by omega
      have hwK := wrap_nat K (by omega)
      have hw2 := wrap_nat D (by omega)
      have HSET : Hid (∀ (B g cp : Nat) (W : World), OwnK encB 5 1 B W (some ⟨g, 0, none⟩) cp (oneB c) → W.cell? ⟨g, 1, none⟩ = some (.int .u8 (y.toNat : Int)) ∧ W.cell? ⟨g, K, none⟩ = some (.int .u8 (Zb.toNat : Int)) ∧ W.frozen? ⟨g, K, none⟩ = false ∧ OwnK encB 5 1 B (W.setCell ⟨g, K, none⟩ (.int .u8 (Y.toNat : Int))) (some ⟨g, 0, none⟩) cp ((oneB c).set K Y)) := hide (fun B g cp W ho => by
        obtain ⟨h1, h2, h3⟩ := hset B g cp W ho
        obtain ⟨b, off, hq, _, hc⟩ := hcell1 B g cp W ho
        injection hq with hq
        injection hq with e1 e2
        subst e1 e2
        exact ⟨hc, h2, h3, h1⟩)
      have HL0 : Hid (0 < (oneB c).length) := hide (by omega)
      have HM := hide hm
      have hen2 := hen
      simp only [hL] at hen2
      have HEN := hide hen2
      have hq0 := eqlC ⟨0, 0, ⟨#[]⟩⟩ ⟨0, 0, ⟨#[]⟩⟩
      rw [decide_eq_true rfl] at hq0
      clear hdn hY hZb hK hmm hs hD hy1 hml hm hKL hen hen2 hset hcell1 hx0 hD0
      rcases hys with ⟨hyl, rfl⟩ | ⟨hyl, rfl⟩
      · have g1 : (L : Int) - 2 = (D : Int) := by omega
        have g2 : (2 : Int) + (m : Int) = (K : Int) := by omega
        have g3 : (U : Int) % (D : Int) = (m : Int) := by rw [← hrem, Int.tmod_eq_emod_of_nonneg (by omega)]
        clear hsI hDI
        have hyi : (y.toNat : Int) < 128 := by omega
        have hyb : ¬ (128 : Int) ≤ (y.toNat : Int) := by omega
        clear hyl hsl
        by_cases hd : True
        · clear hd
          go_enter Try.func8, Try.ntmps8
          go_wp2_with (first
            | (go_at_call 9; refine hf.mono ?_; rintro e w1 ⟨rfl, b1⟩; obtain ⟨⟨d0, d1, d2⟩, _⟩ := cells3 ((b1.block _ (unhide HLT)).trans (unhide BLZ)); have B1 := hide ((unhide BZ).trans (b1.mono (unhide BZ).size)); clear b1)
            | (go_at_call 10; refine (unhide HEN _).mono ?_; rintro e w2 ⟨hE, b2⟩; rcases hE with ⟨_, q, cp, rfl, o2⟩ | ⟨hn, _⟩; rotate_left; exact absurd (unhide HM) hn; obtain ⟨g, rfl, hg1, hg2⟩ := own_some o2 (unhide HL0); obtain ⟨y1, zc, zf, o3⟩ := unhide HSET _ g cp w2 o2; have O3 := hide o3; have HG := hide hg1; have B2 := hide ((unhide B1).trans (b2.mono (unhide B1).size)); have S1 := hide (unhide B1).size; clear b2 o2 o3 hg1 hg2)
            | (go_at_call 22; refine (hdec _ _ _ (unhide O3).ls).mono ?_; rintro e w3 ⟨rfl, b3⟩; obtain ⟨⟨e0, e1, e2⟩, _⟩ := cells3 (heap_alloc_new w3 (.cells #[.int .i64 0, .int .i64 0, .string ⟨#[]⟩] 32)); have B3 := hide b3; clear b3))
          go_ret
          have X := (unhide B2).setCell (p := ⟨g, K, none⟩) (Nat.le_trans (unhide S1) (unhide HG)) (.int .u8 (Y.toNat : Int))
          have X2 := X.trans ((unhide B3).mono X.size)
          exact ⟨rfl, X2.alloc X2.size _⟩
        · exact absurd trivial hd
      · have g1 : (L : Int) - 3 = (D : Int) := by omega
        have g2 : (3 : Int) + (m : Int) = (K : Int) := by omega
        have g3 : (U : Int) % (D : Int) = (m : Int) := by rw [← hrem, Int.tmod_eq_emod_of_nonneg (by omega)]
        clear hsI hDI
        have hyi : ¬ (y.toNat : Int) < 128 := by omega
        have hyb : (128 : Int) ≤ (y.toNat : Int) := by omega
        clear hyl hsl
        by_cases hd : True
        · clear hd
          go_enter Try.func8, Try.ntmps8
          go_wp2_with (first
            | (go_at_call 9; refine hf.mono ?_; rintro e w1 ⟨rfl, b1⟩; obtain ⟨⟨d0, d1, d2⟩, _⟩ := cells3 ((b1.block _ (unhide HLT)).trans (unhide BLZ)); have B1 := hide ((unhide BZ).trans (b1.mono (unhide BZ).size)); clear b1)
            | (go_at_call 10; refine (unhide HEN _).mono ?_; rintro e w2 ⟨hE, b2⟩; rcases hE with ⟨_, q, cp, rfl, o2⟩ | ⟨hn, _⟩; rotate_left; exact absurd (unhide HM) hn; obtain ⟨g, rfl, hg1, hg2⟩ := own_some o2 (unhide HL0); obtain ⟨y1, zc, zf, o3⟩ := unhide HSET _ g cp w2 o2; have O3 := hide o3; have HG := hide hg1; have B2 := hide ((unhide B1).trans (b2.mono (unhide B1).size)); have S1 := hide (unhide B1).size; clear b2 o2 o3 hg1 hg2)
            | (go_at_call 22; refine (hdec _ _ _ (unhide O3).ls).mono ?_; rintro e w3 ⟨rfl, b3⟩; obtain ⟨⟨e0, e1, e2⟩, _⟩ := cells3 (heap_alloc_new w3 (.cells #[.int .i64 0, .int .i64 0, .string ⟨#[]⟩] 32)); have B3 := hide b3; clear b3))
          go_ret
          have X := (unhide B2).setCell (p := ⟨g, K, none⟩) (Nat.le_trans (unhide S1) (unhide HG)) (.int .u8 (Y.toNat : Int))
          have X2 := X.trans ((unhide B3).mono X.size)
          exact ⟨rfl, X2.alloc X2.size _⟩
        · exact absurd trivial hd
  · clear hU
    go_enter Try.func8, Try.ntmps8
    go_wp2_with (first
      | (go_at_call 9; refine hf.mono ?_; rintro e w1 ⟨rfl, b1⟩; obtain ⟨⟨d0, d1, d2⟩, _⟩ := cells3 ((b1.block _ (unhide HLT)).trans (unhide BLZ)); have B1 := hide ((unhide BZ).trans (b1.mono (unhide BZ).size)); clear b1)
      | (go_at_call 10; refine (hen _).mono ?_; rintro e w2 ⟨hE, b2⟩; rcases hE with ⟨hn, _⟩ | ⟨_, rfl⟩; exact absurd hn hm; have B2 := hide ((unhide B1).trans (b2.mono (unhide B1).size)); clear b2))
    go_ret
    exact ⟨rfl, unhide B2⟩
end Go.Proofs.Ytalicnifjgcldaa

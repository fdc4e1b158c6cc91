/- The reference's records. -/
import Derived.Test.YtalicnifjgcldaaRefEnc
import Derived.Deep.Cut
namespace Go.Proofs.Ytalicnifjgcldaa
open Go.RowKit Go.Sort Go.Shelf

set_option maxHeartbeats 1000000 in
set_option maxRecDepth 100000 in
theorem refOne (c : Ch) (hc : MayB c) (w : World) :
    Calls Try.prog 28 #[.agg #[.int .i64 c.kind, .int .i64 c.id, .string c.text]] w fun e w' => (∃ q cap, e = .returned (.slice q (oneB c).length cap) ∧ OwnK encB 5 1 w.heap.size w' q cap (oneB c)) ∧ Below w.heap.size w w' := by
  obtain ⟨k, n, hk, hn, hn2, ht⟩ := may_nums hc
  have hbl := body_len c hc
  obtain ⟨kind, id, text⟩ := c
  simp only at hk hn ht ⊢
  subst hk hn
  obtain ⟨body, hbody⟩ : ∃ b, bodyB ⟨(k : Int), (n : Int), text⟩ = b := ⟨_, rfl⟩
  have hbd : UInt8.ofNat k :: (vint n ++ text.data.toList) = body := hbody
  rw [hbody] at hbl
  rw [show oneB ⟨(k : Int), (n : Int), text⟩ = recB body by unfold oneB; rw [hbody]]
  have e1 := wrap8 k
  generalize hy : UInt8.ofNat k = y at hbd e1
  have hv9 := vint_len9 n hn2
  obtain ⟨z, hz⟩ : ∃ z, w.alloc (.cells #[.int .i64 (k : Int), .int .i64 (n : Int), .string text] 32) = z := ⟨_, rfl⟩
  have bz : Below w.heap.size w z := by rw [← hz]; exact (Below.refl _ _).alloc (Nat.le_refl _) _
  have blk : z.heap[w.heap.size]? = some (.cells #[.int .i64 (k : Int), .int .i64 (n : Int), .string text] 32 (0, 0)) := by rw [← hz]; exact heap_alloc_new _ _
  have hzs : z.heap.size = w.heap.size + 1 := by rw [← hz]; simp
  obtain ⟨⟨a0, a1, a2⟩, _⟩ := cells3 blk
  have keepS : ∀ W, Below z.heap.size z W → (W.cell? ⟨w.heap.size, 0, none⟩ = some (.int .i64 (k : Int)) ∧ W.cell? ⟨w.heap.size, 1, none⟩ = some (.int .i64 (n : Int))) ∧ W.cell? ⟨w.heap.size, 2, none⟩ = some (.string text) := fun W h => by
    obtain ⟨⟨h0, h1, h2⟩, _⟩ := cells3 ((h.block w.heap.size (by omega)).trans blk)
    exact ⟨⟨h0, h1⟩, h2⟩
  obtain ⟨V, hV⟩ : ∃ V, (vint n).length = V := ⟨_, rfl⟩
  obtain ⟨N1, hN1⟩ : ∃ N1, 1 + V = N1 := ⟨_, rfl⟩
  obtain ⟨N2, hN2⟩ : ∃ N2, N1 + text.size = N2 := ⟨_, rfl⟩
  have hbN : body.length = N2 := by rw [← hbd, ← hN2, ← hN1, ← hV]; have : text.data.size = text.size := rfl; simp; omega
  have hv := fun (W : World) => refVint n W hn2
  simp only [hV] at hv
  have hvA := hv (z.alloc (.cells #[.int .u8 (y.toNat : Int)] 5)).drew
  have hvB := hv z.drew
  have bA : Below z.heap.size z (z.alloc (.cells #[.int .u8 (y.toNat : Int)] 5)).drew := ((Below.refl _ _).alloc (Nat.le_refl _) _).drew
  have bB : Below z.heap.size z z.drew := (Below.refl _ _).drew
  have oA : OwnK encB 5 1 z.heap.size (z.alloc (.cells #[.int .u8 (y.toNat : Int)] 5)).drew (some ⟨z.heap.size, 0, none⟩) 1 [y] := ownA z z.heap.size [y] (Nat.le_refl _) (by unfold maxLen; simp)
  have HBD := hide (show [y] ++ vint n ++ text.data.toList = body from hbd)
  have HKS := hide keepS
  have HZS := hide hzs
  have BZ := hide bz
  have HV := hide hV
  have HN1 := hide hN1
  have HN2 := hide hN2
  have HBN := hide hbN
  have HA := hide bA
  have HBB := hide bB
  have HOA := hide oA
  have hN1b : N1 ≤ 10 := by omega
  have hN2b : N2 ≤ 4110 := by omega
  have hNW : Hid (([y] ++ vint n).length = N1) := hide (by rw [← hN1, ← hV]; simp; omega)
  clear hbody hy hbd hbl hc hv bz blk hzs keepS hV hN1 hN2 hbN bA bB oA hv9 ht
  go_enter Try.func28, Try.ntmps28
  go_wp2
  go_cut [3] from 4 (fun v V => ∃ q cap, v = .slice q N2 cap ∧ Hid (SlOf encB 1 V q cap body) ∧ Hid (Below z.heap.size z V))
  case first =>
    go_region_held3 (fun W => (W.cell? ⟨w.heap.size, 0, none⟩ = some (.int .i64 (k : Int)) ∧ W.cell? ⟨w.heap.size, 1, none⟩ = some (.int .i64 (n : Int))) ∧ W.cell? ⟨w.heap.size, 2, none⟩ = some (.string text))
      (first | exact unhide HKS _ (unhide C4) | exact unhide HKS _ (unhide C3) | exact unhide HKS _ (unhide C2) | exact unhide HKS _ (unhide C1) | exact unhide HKS _ (unhide HA) | exact unhide HKS _ (unhide HBB))
      ((first
        | (go_at_call 33; (with_reducible refine hvA.mono ?_); rintro e w2 ⟨⟨q2, c2, rfl, o2⟩, b2⟩; have O2 := hide o2.ls; have P2 := hide ((unhide HOA).below b2); have C2 := hide ((unhide HA).trans (b2.mono (unhide HA).size)); clear o2 b2)
        | (go_at_call 33; (with_reducible refine hvB.mono ?_); rintro e w2 ⟨⟨q2, c2, rfl, o2⟩, b2⟩; have O2 := hide (o2.ls.below ((Below.refl w2.heap.size w2).alloc (Nat.le_refl _) (.cells #[.int .u8 (y.toNat : Int)] 5))); have C2' := (unhide HBB).trans (b2.mono (unhide HBB).size); have C1 := hide C2'; have P2 := hide (ownA w2 z.heap.size [y] C2'.size (by unfold maxLen; simp)); have C2 := hide (C2'.alloc C2'.size (.cells #[.int .u8 (y.toNat : Int)] 5)); clear o2 b2 C2')
        | (refine step_app rowB (by rfl) (.tmp 7) (.tmp 10) (by rfl) z.heap.size (some ⟨z.heap.size, 0, none⟩) 1 [y] q2 c2 (vint n) 1 V N1 rfl (unhide HV) (unhide HN1) (by rfl) (by rfl) (unhide P2) (unhide O2).src (by unfold maxLen; omega) (by omega) (unhide C2).size ?_; intro q3 c3 w3 o3 b3 _ _; have O3 := hide o3; have C3 := hide ((unhide C2).trans b3); clear o3 b3)
        | (refine step_app rowB (by rfl) (.tmp 7) (.tmp 10) (by rfl) z.heap.size (some ⟨w2.heap.size, 0, none⟩) 1 [y] q2 c2 (vint n) 1 V N1 rfl (unhide HV) (unhide HN1) (by rfl) (by rfl) (unhide P2) (unhide O2).src (by unfold maxLen; omega) (by omega) (unhide C2).size ?_; intro q3 c3 w3 o3 b3 _ _; have O3 := hide o3; have C3 := hide ((unhide C2).trans b3); clear o3 b3)
        | (refine step_appS (by rfl) (.tmp 11) (.tmp 13) (by rfl) z.heap.size q3 c3 ([y] ++ vint n) text N1 N2 (unhide hNW) (unhide HN2) (by rfl) (by rfl) (unhide O3) (by omega) (unhide C3).size ?_; intro q4 c4 w4 o4 b4; have O4 := hide o4; have C4 := hide ((unhide C3).trans b4); clear o4 b4)))
    all_goals
      go_wp2
      go_meet
      exact ⟨q4, c4, rfl, hide (by have h := (unhide O4).ls; rw [unhide HBD] at h; exact h), C4⟩
  case rest =>
    clear hvA hvB a0 a1 a2 hz
    obtain ⟨q4, c4, rfl, HS4, C4⟩ := hcut
    obtain ⟨X, rfl⟩ : ∃ X, X = wc := ⟨_, rfl⟩
    have hb0 : Below X.heap.size X (X.alloc (.cells #[.int .u8 67] 5)) := (Below.refl _ _).alloc (Nat.le_refl _) _
    have hv := refVint N2 (X.alloc (.cells #[.int .u8 67] 5)) (by omega)
    have hoa := hide (ownA X X.heap.size [67] (Nat.le_refl _) (by unfold maxLen; simp))
    have HB0 := hide hb0
    have hv9 := vint_len9 N2 (by omega)
    obtain ⟨V2, hV2⟩ : ∃ V2, (vint N2).length = V2 := ⟨_, rfl⟩
    simp only [hV2] at hv
    obtain ⟨N3, hN3⟩ : ∃ N3, 1 + V2 = N3 := ⟨_, rfl⟩
    obtain ⟨N4, hN4⟩ : ∃ N4, N3 + N2 = N4 := ⟨_, rfl⟩
    have h67 : (([67] : List UInt8) ++ vint N2).length = N3 := by rw [← hN3, ← hV2]; simp; omega
    have hse := fun (q : Option Addr) (c : Nat) (W : World) (hW : SlOf encB 1 W q c ([67] ++ vint N2 ++ body)) => refSealed q c ([67] ++ vint N2 ++ body) W hW (by rw [List.length_append, h67, unhide HBN]; omega)
    rw [show (([67] : List UInt8) ++ vint N2 ++ body).length = N4 by rw [List.length_append, h67, unhide HBN, hN4], show sealB ([67] ++ vint N2 ++ body) = recB body by unfold recB; rw [unhide HBN]; rfl] at hse
    have HV2 := hide hV2
    have HN3 := hide hN3
    have HN4 := hide hN4
    have H67 := hide h67
    have hN4b : N4 ≤ 5000 := by omega
    have hN3b : N3 ≤ 10 := by omega
    clear hb0 hV2 hN3 hN4 h67 hv9
    go_wp2_with (first
      | (go_at_call 33; refine hv.mono ?_; rintro e w5 ⟨⟨q5, c5, rfl, o5⟩, b5⟩; have O5 := hide o5.ls; have P5 := hide ((unhide hoa).below b5); have B5 := hide (below_sub (unhide HB0) b5); clear o5 b5)
      | (at_builtin; refine wpList_app rowB rfl (.tmp 15) (.tmp 18) rfl X.heap.size (some ⟨X.heap.size, 0, none⟩) 1 [67] q5 c5 (vint N2) 1 V2 N3 rfl (unhide HV2) (unhide HN3) rfl rfl (unhide P5) (unhide O5).src (by unfold maxLen; omega) (by omega) (unhide B5).size ?_; intro q6 c6 w6 o6 b6 _ _; have O6 := hide o6; have B6 := hide ((unhide B5).trans b6); clear o6 b6)
      | (at_builtin; refine wpList_app rowB rfl (.tmp 19) (.tmp 20) rfl X.heap.size q6 c6 ([67] ++ vint N2) q4 c4 body N3 N2 N4 (unhide H67) (unhide HBN) (unhide HN4) rfl rfl (unhide O6) ((unhide HS4).below (unhide B6)).src (by unfold maxLen; omega) (by omega) (unhide B6).size ?_; intro q7 c7 w7 o7 b7 _ _; have O7 := hide o7.ls; have B7 := hide ((unhide B6).trans b7); clear o7 b7)
      | (go_at_call 32; refine (hse _ _ _ (unhide O7)).mono ?_; rintro e w8 ⟨⟨q8, c8, rfl, o8⟩, b8⟩; have O8 := hide o8; have B8 := hide ((unhide B7).trans (b8.mono (unhide B7).size)); have S7 := hide (unhide B7).size; clear o8 b8))
    go_ret
    have hzw : w.heap.size ≤ z.heap.size := by have := unhide HZS; omega
    have hbX := (unhide BZ).trans ((unhide C4).mono hzw)
    exact ⟨⟨q8, c8, rfl, (unhide O8).mono (Nat.le_trans hbX.size (unhide S7))⟩, hbX.trans ((unhide B8).mono hbX.size)⟩
end Go.Proofs.Ytalicnifjgcldaa

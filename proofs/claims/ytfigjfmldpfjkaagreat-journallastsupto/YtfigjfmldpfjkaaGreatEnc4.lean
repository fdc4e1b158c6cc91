/- The record of a change: what the program answers. -/
import Derived.Test.YtfigjfmldpfjkaaGreatEnc3
namespace Go.Proofs.YtfigjfmldpfjkaaGreat
open Go.RowKit Go.Sort

/-- The body of a change's record, and the record. -/
def bodyB (c : Ch) : List UInt8 := UInt8.ofNat c.kind.toNat :: (vint c.id.toNat ++ c.text.data.toList)
def recB (b : List UInt8) : List UInt8 := sealB (67 :: (vint b.length ++ b))
def oneB (c : Ch) : List UInt8 := recB (bodyB c)

theorem Tryz.info52s : (Tryz.prog.info? 113).map (·.size) = some 4 := by kernel_rfl
set_option maxHeartbeats 2000000 in
set_option maxRecDepth 100000 in
theorem write_any (c : Ch) (k n : Nat) (hk : c.kind = (k : Int)) (hn : c.id = (n : Int)) (hn2 : n ≤ 4611686018427387904) (ht : c.text.size ≤ 1000000000) (w : World) :
    Calls Tryz.prog 69 #[.agg #[.int .i64 c.kind, .int .i64 c.id, .string c.text]] w fun e w' => (∃ q cap, e = .returned (.agg #[.int .i64 c.kind, .int .i64 c.id, .string c.text, .slice q (oneB c).length cap]) ∧ OwnK encB 5 1 w.heap.size w' q cap (oneB c)) ∧ Below w.heap.size w w' := by
  obtain ⟨kind, id, text⟩ := c
  simp only at hk hn ht ⊢
  subst hk hn
  have hv9 := vint_len9 n hn2
  obtain ⟨body, hbody⟩ : ∃ b, bodyB ⟨(k : Int), (n : Int), text⟩ = b := ⟨_, rfl⟩
  have hbl : UInt8.ofNat k :: (vint n ++ text.data.toList) = body := hbody
  have hblen : body.length ≤ 1000000010 := by
    rw [← hbl]; simp; have : text.data.size = text.size := rfl; omega
  rw [show oneB ⟨(k : Int), (n : Int), text⟩ = recB body by unfold oneB; rw [hbody]]
  have e1 := wrap8 k
  generalize hy : UInt8.ofNat k = y at hbl e1
  have hv9b := vint_len9 body.length (by omega)
  have HBL := hide hbl
  have HBN := hide hblen
  clear hbody hy hbl
  obtain ⟨z1, hz1⟩ : ∃ z1, w.alloc (.cells #[.int .i64 (k : Int), .int .i64 (n : Int), .string text] 63) = z1 := ⟨_, rfl⟩
  obtain ⟨z2, hz2⟩ : ∃ z2, z1.alloc (.cells #[.int .i64 0, .int .i64 0, .string ⟨#[]⟩, .slice none 0 0] 113) = z2 := ⟨_, rfl⟩
  have s1 : z1.heap.size = w.heap.size + 1 := by rw [← hz1]; simp
  have s2 : z2.heap.size = w.heap.size + 2 := by rw [← hz2]; simp [s1]
  have b1 : Below w.heap.size w z1 := by rw [← hz1]; exact (Below.refl _ _).alloc (Nat.le_refl _) _
  have b12 : Below z1.heap.size z1 z2 := by rw [← hz2]; exact (Below.refl _ _).alloc (Nat.le_refl _) _
  have b2 : Below w.heap.size w z2 := below_sub b1 b12
  have blk1 : z2.heap[w.heap.size]? = some (.cells #[.int .i64 (k : Int), .int .i64 (n : Int), .string text] 63 (0, 0)) := by
    rw [b12.block _ (by omega), ← hz1]; exact heap_alloc_new _ _
  have blk2 : z2.heap[z1.heap.size]? = some (.cells #[.int .i64 0, .int .i64 0, .string ⟨#[]⟩, .slice none 0 0] 113 (0, 0)) := by
    rw [← hz2]; exact heap_alloc_new _ _
  have a0 : z2.cell? ⟨w.heap.size, 0, none⟩ = some (.int .i64 (k : Int)) := by unfold World.cell?; rw [blk1]; rfl
  have a1 : z2.cell? ⟨w.heap.size, 1, none⟩ = some (.int .i64 (n : Int)) := by unfold World.cell?; rw [blk1]; rfl
  have a2 : z2.cell? ⟨w.heap.size, 2, none⟩ = some (.string text) := by unfold World.cell?; rw [blk1]; rfl
  have keepS : ∀ W, Below z1.heap.size z2 W → (W.cell? ⟨w.heap.size, 0, none⟩ = some (.int .i64 (k : Int)) ∧ W.cell? ⟨w.heap.size, 1, none⟩ = some (.int .i64 (n : Int))) ∧ W.cell? ⟨w.heap.size, 2, none⟩ = some (.string text) := fun W h =>
    ⟨⟨(h.cell (p := ⟨w.heap.size, 0, none⟩) (by show w.heap.size < _; omega)).trans a0, (h.cell (p := ⟨w.heap.size, 1, none⟩) (by show w.heap.size < _; omega)).trans a1⟩, (h.cell (p := ⟨w.heap.size, 2, none⟩) (by show w.heap.size < _; omega)).trans a2⟩
  have hv : ∀ W, OwnK encB 5 1 z2.heap.size W (some ⟨z2.heap.size, 0, none⟩) 1 [y] → z2.heap.size ≤ W.heap.size → Calls Tryz.prog 99 #[.slice (some ⟨z2.heap.size, 0, none⟩) 1 1, .int .i64 (n : Int)] W fun e w' => (∃ q' cap', e = .returned (.slice q' ([y] ++ vint n).length cap') ∧ OwnK encB 5 1 z2.heap.size w' q' cap' ([y] ++ vint n)) ∧ Below z2.heap.size W w' := fun W h1 h2 => vint_any z2.heap.size _ 1 [y] n W h1 h2 (by simp) hn2
  have hoa := ownA z2 z2.heap.size [y] (Nat.le_refl _) (by unfold maxLen; simp)
  have HB2 := hide b2
  have HKS := hide keepS
  obtain ⟨N1, hN1⟩ : ∃ N1, ([y] ++ vint n).length = N1 := ⟨_, rfl⟩
  have hN1b : N1 ≤ 10 := by rw [← hN1]; simp; omega
  obtain ⟨N2, hN2⟩ : ∃ N2, body.length = N2 := ⟨_, rfl⟩
  have hN12 : Hid (N1 + text.size = N2) := hide (by rw [← hN1, ← hN2, ← unhide HBL]; have : text.data.size = text.size := rfl; simp; omega)
  have hN2b : N2 ≤ 1000000010 := by omega
  rw [hN1] at hv
  have hvA := hv (z2.alloc (.cells #[.int .u8 (y.toNat : Int)] 5)).drew hoa (by simp)
  have HN1 := hide hN1
  have HN2 := hide hN2
  have hle12 : z1.heap.size ≤ z2.heap.size := by omega
  have set4 : ∀ W, Below z2.heap.size z2 W → ∀ v0 v1 v2 v3 : Value, Below z1.heap.size z2 ((((W.setCell ⟨z1.heap.size, 0, none⟩ v0).setCell ⟨z1.heap.size, 1, none⟩ v1).setCell ⟨z1.heap.size, 2, none⟩ v2).setCell ⟨z1.heap.size, 3, none⟩ v3) := fun W h v0 v1 v2 v3 => ((((h.mono hle12).setCell (p := ⟨z1.heap.size, 0, none⟩) (Nat.le_refl _) v0).setCell (p := ⟨z1.heap.size, 1, none⟩) (Nat.le_refl _) v1).setCell (p := ⟨z1.heap.size, 2, none⟩) (Nat.le_refl _) v2).setCell (p := ⟨z1.heap.size, 3, none⟩) (Nat.le_refl _) v3
  have S1 := hide s1
  have S2 := hide s2
  clear blk1 b12 b1 b2 keepS hN1 hN2 s1 s2
  go_enter Tryz.func69, Tryz.ntmps69
  go_wp2
  clear hz1 hz2
  go_region_held3 (fun W => (W.cell? ⟨w.heap.size, 0, none⟩ = some (.int .i64 (k : Int)) ∧ W.cell? ⟨w.heap.size, 1, none⟩ = some (.int .i64 (n : Int))) ∧ W.cell? ⟨w.heap.size, 2, none⟩ = some (.string text))
    (first | exact unhide HKS _ ((unhide C3).mono hle12) | exact unhide HKS _ ((unhide C2).mono hle12) | exact unhide HKS _ ((Below.refl _ _).alloc hle12 _) | exact unhide HKS _ ((Below.refl _ _).alloc hle12 _).drew | exact unhide HKS _ (Below.refl _ _).drew | exact unhide HKS _ (Below.refl _ _))
    ((first
      | (go_at_call 99; refine hvA.mono ?_; rintro e w2 ⟨⟨q2, c2, rfl, o2⟩, b2⟩; have O2 := hide o2; have C2 := hide ((((Below.refl z2.heap.size z2).alloc (Nat.le_refl _) (.cells #[.int .u8 (y.toNat : Int)] 5)).drew).trans b2); clear o2 b2)
      | (refine step_appS (by rfl) (.tmp 11) (.tmp 13) (by rfl) z2.heap.size q2 c2 ([y] ++ vint n) text N1 N2 (unhide HN1) (unhide hN12) (by rfl) (by rfl) (unhide O2) (by omega) (unhide C2).size ?_; intro q3 c3 w3 o3 b3; have O3 := hide o3; have C3 := hide ((unhide C2).trans b3); clear o3 b3)))
  have OA2 := hide (ownA w3 w3.heap.size [67] (Nat.le_refl _) (by unfold maxLen; simp))
  obtain ⟨N3, hN3⟩ : ∃ N3, ([67] ++ vint N2).length = N3 := ⟨_, rfl⟩
  have hN3b : N3 ≤ 10 := by rw [← hN3]; have := vint_len9 N2 (by omega); simp; omega
  have hv3 := vint_any w3.heap.size _ 1 [67] N2 _ (unhide OA2) (by simp) (by simp) (by omega)
  rw [hN3] at hv3
  have HN3 := hide hN3
  clear hN3
  go_wp2_with (go_at_call 99; refine hv3.mono ?_; rintro e w4 ⟨⟨q4, c4, rfl, o4⟩, b4⟩; have O4 := hide o4; have C4 := hide (((Below.refl w3.heap.size w3).alloc (Nat.le_refl _) (.cells #[.int .u8 67] 5)).trans b4); clear o4 b4)
  have hb4 : Below z2.heap.size z2 w4 := (unhide C3).trans ((unhide C4).mono (unhide C3).size)
  obtain ⟨⟨d0, d1⟩, d2⟩ := unhide HKS _ (hb4.mono hle12)
  obtain ⟨N4, hN4⟩ : ∃ N4, N3 + N2 = N4 := ⟨_, rfl⟩
  have HN4 := hide hN4
  have hN4b : N4 ≤ 1000000020 := by omega
  have e0 := (hb4.block z1.heap.size (by have := unhide S1; have := unhide S2; omega)).trans blk2
  have O4d := hide ((unhide O4).below (Below.refl w4.heap.size w4).drew)
  have O3b : OwnK encB 5 1 z2.heap.size w3 q3 c3 body := by
    have := unhide O3
    rw [show [y] ++ vint n ++ text.data.toList = body from unhide HBL] at this
    exact this
  have P4d := hide (((O3b.below (unhide C4)).below (Below.refl w4.heap.size w4).drew).ls.src)
  have hs5 : ∀ (q5 : Option Addr) (c5 : Nat) (W : World), OwnK encB 5 1 w3.heap.size W q5 c5 ([67] ++ vint N2 ++ body) → w3.heap.size ≤ W.heap.size → Calls Tryz.prog 100 #[.slice q5 N4 c5] W fun e w' => (∃ q' cap', e = .returned (.slice q' (recB body).length cap') ∧ OwnK encB 5 1 w3.heap.size w' q' cap' (recB body)) ∧ Below w3.heap.size W w' := fun q5 c5 W h1 h2 => by
    have hl : ([67] ++ vint N2 ++ body).length = N4 := by rw [List.length_append, unhide HN3, unhide HN2, unhide HN4]
    have h := sealed_any w3.heap.size q5 c5 ([67] ++ vint N2 ++ body) W h1 h2 (by omega)
    rw [hl, show sealB ([67] ++ vint N2 ++ body) = recB body by unfold recB; rw [unhide HN2]; rfl] at h
    exact h
  have wr4 : ∀ (W : World), W.heap[z1.heap.size]? = some (.cells #[.int .i64 0, .int .i64 0, .string ⟨#[]⟩, .slice none 0 0] 113 (0, 0)) → (W.cell? ⟨z1.heap.size, 0, none⟩ = some (.int .i64 0) ∧ W.cell? ⟨z1.heap.size, 1, none⟩ = some (.int .i64 0) ∧ W.cell? ⟨z1.heap.size, 2, none⟩ = some (.string ⟨#[]⟩) ∧ W.cell? ⟨z1.heap.size, 3, none⟩ = some (.slice none 0 0)) ∧ ∀ o, W.frozen? ⟨z1.heap.size, o, none⟩ = false := fun W h => by
    refine ⟨⟨?_, ?_, ?_, ?_⟩, fun o => frozen_free h⟩ <;> (unfold World.cell?; rw [h]; rfl)
  have hlt1 : z1.heap.size < z2.heap.size := by have := unhide S1; have := unhide S2; omega
  have hlt2 : z2.heap.size ≤ w3.heap.size := (unhide C3).size
  have HS5 := hide hs5
  clear hs5 O3b
  have C4d := hide (unhide C4).drew
  have hb4d := hb4.drew
  clear hN4 blk2 a0 a1 a2 hv hvA hv3 hoa
  go_region_held3 (fun W => (W.cell? ⟨w.heap.size, 0, none⟩ = some (.int .i64 (k : Int)) ∧ W.cell? ⟨w.heap.size, 1, none⟩ = some (.int .i64 (n : Int))) ∧ W.cell? ⟨w.heap.size, 2, none⟩ = some (.string text))
    (first | exact unhide HKS _ (set4 _ (unhide C6) _ _ _ _) | exact unhide HKS _ ((unhide C6).mono hle12) | exact unhide HKS _ ((unhide C5).mono hle12) | exact unhide HKS _ (hb4.mono hle12).drew | exact unhide HKS _ (hb4.mono hle12))
    ((first
      | (refine step_app rowB (by rfl) (.tmp 20) (.tmp 21) (by rfl) w3.heap.size q4 c4 ([67] ++ vint N2) q3 c3 body N3 N2 N4 (unhide HN3) (unhide HN2) (unhide HN4) (by rfl) (by rfl) (unhide O4d) (unhide P4d) (by unfold maxLen; omega) (by omega) (unhide C4d).size ?_; intro q5 c5 w5 o5 b5 _ _; have O5 := hide o5; have D5 := hide ((unhide C4d).trans b5); have C5 := hide (hb4d.trans (b5.mono (unhide C3).size)); have E5 := hide (((b5.mono hlt2).block z1.heap.size hlt1).trans e0); clear o5 b5)
      | (go_at_call 100; refine (unhide HS5 q5 c5 w5 (unhide O5) (unhide D5).size).mono ?_; rintro e w6 ⟨⟨q6, c6, rfl, o6⟩, b6⟩; have O6 := hide o6; have C6 := hide ((unhide C5).trans (b6.mono (unhide C3).size)); have E6 := hide (((b6.mono hlt2).block z1.heap.size hlt1).trans (unhide E5)); obtain ⟨⟨x0, x1, x2, x3⟩, xf⟩ := wr4 w6 (unhide E6); have xf0 := xf 0; have xf1 := xf 1; have xf2 := xf 2; have xf3 := xf 3; clear o6 b6)))
  have hO6 := (unhide O6).mono (unhide C3).size
  have hblk : ∀ v0 v1 v2 v3 : Value, ((((w6.setCell ⟨z1.heap.size, 0, none⟩ v0).setCell ⟨z1.heap.size, 1, none⟩ v1).setCell ⟨z1.heap.size, 2, none⟩ v2).setCell ⟨z1.heap.size, 3, none⟩ v3).heap[z1.heap.size]? = some (.cells #[v0, v1, v2, v3] 113 (0, 0)) := fun v0 v1 v2 v3 => by
    have h0 := heap_setCell_same w6 z1.heap.size 0 _ 113 v0 (unhide E6)
    have h1 := heap_setCell_same _ z1.heap.size 1 _ 113 v1 h0
    have h2 := heap_setCell_same _ z1.heap.size 2 _ 113 v2 h1
    have h3 := heap_setCell_same _ z1.heap.size 3 _ 113 v3 h2
    exact h3
  have hrow : ∀ (W : World) (p : Nat) (v : Value), OwnK encB 5 1 z2.heap.size W q6 c6 (recB body) → OwnK encB 5 1 z2.heap.size (W.setCell ⟨z1.heap.size, p, none⟩ v) q6 c6 (recB body) := fun W p v h => by
    refine ⟨h.1, ?_⟩
    rcases h.2 with h0 | ⟨g, cp, cur, hv, hB, hblk, hr⟩
    · exact Or.inl h0
    · exact Or.inr ⟨g, cp, cur, hv, hB, (Below.heap_setCell _ _ _ _ (fun e => by have e' : g = z1.heap.size := e; omega)).trans hblk, hr⟩
  have hfin := hrow _ 3 (.slice q6 (recB body).length c6) (hrow _ 2 (.string text) (hrow _ 1 (.int .i64 (n : Int)) (hrow _ 0 (.int .i64 (k : Int)) hO6)))
  have hres := hblk (.int .i64 (k : Int)) (.int .i64 (n : Int)) (.string text) (.slice q6 (recB body).length c6)
  have hbel := set4 _ (unhide C6) (.int .i64 (k : Int)) (.int .i64 (n : Int)) (.string text) (.slice q6 (recB body).length c6)
  generalize ((((w6.setCell ⟨z1.heap.size, 0, none⟩ (.int .i64 (k : Int))).setCell ⟨z1.heap.size, 1, none⟩ (.int .i64 (n : Int))).setCell ⟨z1.heap.size, 2, none⟩ (.string text)).setCell ⟨z1.heap.size, 3, none⟩ (.slice q6 (recB body).length c6)) = W7 at hfin hres hbel ⊢
  have HF := hide hfin
  have HR := hide hres
  have HL := hide hbel
  clear hfin hbel hrow hblk hO6 x0 x1 x2 x3 xf xf0 xf1 xf2 xf3 d0 d1 d2 e0 set4 wr4
  go_wp2
  refine bodyPost_ret (results_cell_row rfl _ _ z1.heap.size 113 _ (0, 0) _ rfl (unhide HR) Tryz.underlying113 rfl Tryz.info52s) rfl ?_
  refine ⟨⟨q6, c6, rfl, (unhide HF).mono (by have := unhide S2; omega)⟩, ?_⟩
  have h1 := unhide S1
  exact (unhide HB2).trans ((unhide HL).mono (by omega))
end Go.Proofs.YtfigjfmldpfjkaaGreat

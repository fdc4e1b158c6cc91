/- The law ValueLeast, walked: it returns true at every list of values. -/
import Derived.Test.YtojeihchkdkkgaaDoorLeastLaw
namespace Go.Proofs.YtojeihchkdkkgaaDoor
open Go.RowKit

theorem seven_news {w : World} {t : TypeId} : ∀ (j : Nat) (u : Value), [Value.int .i64 7, Value.int .i64 0, Value.string ⟨#[]⟩][j]? = some u → (w.alloc (.cells #[.int .i64 7, .int .i64 0, .string ⟨#[]⟩] t)).cell? ((⟨w.heap.size, 0, none⟩ : Addr).add j) = some u :=
  World.news_of_block (cs := #[.int .i64 7, .int .i64 0, .string ⟨#[]⟩]) (heap_alloc_new _ _)
theorem seven_one : ∀ u ∈ [Value.int .i64 7, Value.int .i64 0, Value.string ⟨#[]⟩], u.oneCell' = true := by
  intro u hu
  simp only [List.mem_cons, List.not_mem_nil, or_false] at hu
  rcases hu with rfl | rfl | rfl <;> rfl
/-- Behind the two appends: the copy's form, what it holds, and that nothing old has turned. -/
structure Copied (w0 w2 : World) (v : Value) (n : Nat) (f : Nat → Val) : Prop where
  form : ∃ g cap, v = .slice (some ⟨g, 0, none⟩) (n + 1) cap ∧ n + 1 ≤ cap ∧ g < w2.heap.size ∧ ValsAt w2 g 0 n f ∧ w2.cell? ⟨g, n * 3, none⟩ = some (.int .i64 7)
  below : Below w0.heap.size w0 w2
theorem copied_of {w0 w1 w2 : World} {v1 v2 : Value} {n : Nat} {f : Nat → Val} {o o2 : Obj} {c : Nat}
    (h1 : w1.ownsRow w0.heap.size 23 3 v1 n (flat f n)) (g1 : (w0.alloc o).grownBy w1 (Value.slice (some ⟨w0.heap.size, 0, none⟩) 0 c).ownBlock)
    (h2 : w2.ownsRow w0.heap.size 23 3 v2 (n + 1) (flat f n ++ [.int .i64 7, .int .i64 0, .string ⟨#[]⟩])) (g2 : (w1.alloc o2).grownBy w2 v1.ownBlock) : Copied w0 w2 v2 n f := by
  have hb1 : Below w0.heap.size w0 w1 := ((Below.refl _ _).alloc (Nat.le_refl _) _).grown g1 (by simp) (fun k hk => by simp [Value.ownBlock] at hk; omega)
  have hb2 : Below w0.heap.size w0 w2 := (hb1.alloc hb1.size _).grown g2 (by have := hb1.size; simp; omega) (fun k hk => (h1.lt k hk).1)
  rcases h2.2 with ⟨_, h0⟩ | ⟨g, cap, cur, rfl, hg, hblk, hc, _, _, _⟩
  · omega
  · refine ⟨⟨g, cap, rfl, hc, (Array.getElem?_eq_some_iff.1 hblk).1, vals_row h2 (by omega), ?_⟩, hb2⟩
    rw [h2.cellAt (n * 3) (by omega), List.getElem?_append_right (by rw [flat_len]; omega), flat_len]
    simp

set_option maxRecDepth 100000 in
set_option maxHeartbeats 1000000 in
theorem valueLeast_pos (b off n cap : Nat) (f : Nat → Val) (w : World) (hG : G w) (hn : 0 < n) (hmax : n ≤ 4398046510976) (hbw : b < w.heap.size) (hf : ValsAt w b off n f) (hsz : ∀ j, j < n → (f j).s.size ≤ maxLen) :
    Calls Tryd.prog 8 #[.slice (some ⟨b, off, none⟩) n cap] w fun e w' => e = .returned (.bool true) ∧ Below w.heap.size w w' := by
  obtain ⟨i0, hi, hz0, hz1, hz2⟩ := info_parts Tryd.info23
  have hfx := fixed_any w hG
  have hF := hide hf
  have hS := hide hsz
  clear hf hsz
  go_enter Tryd.func8, Tryd.ntmps8
  have hsame := neqV (minTo f (n - 1)).k (minTo f (n - 1)).n (minTo f (n - 1)).s (minTo f (n - 1)).k (minTo f (n - 1)).n (minTo f (n - 1)).s
  rw [show sameV (minTo f (n - 1)).k (minTo f (n - 1)).n (minTo f (n - 1)).s (minTo f (n - 1)).k (minTo f (n - 1)).n (minTo f (n - 1)).s = true by simp [sameV]] at hsame
  have hls := fun (g cap2 : Nat) (W : World) h1 h2 => least_any g 0 n cap2 f W hn (by omega) h1 h2
  have hrl := fun (W : World) h1 h2 => refLeast_any b off n cap f W hn (by omega) h1 h2 (unhide hS)
  have HMn := hide (cmpW_refl_min f (n - 1))
  generalize minTo f (n - 1) = M at hsame hls hrl HMn
  have n0 : (0 : Int) ≤ (n : Int) := by omega
  have n1 : (n : Int) < (n : Int) + 1 := by omega
  go_wp2_with (first
    | (go_at_call 9; refine hfx.mono ?_; rintro e w0 ⟨rfl, b0⟩; have B0 := hide b0; have F0 := hide ((unhide hF).below b0 hbw); have hb0 : b < w0.heap.size := Nat.lt_of_lt_of_le hbw b0.size; clear b0)
    | (at_builtin; refine wpList_append_own _ rfl (.tmp 12) (.tmp 13) 38 rfl w0.heap.size 23 i0 (.agg #[.int .i64 0, .int .i64 0, .string ⟨#[]⟩]) 3 32 Tryd.underlying38 hi hz0 hz1 hz2 rfl (by decide) _ _ _ rfl (World.ownsRow_made (e := 23) (size := 3) w0 #[] 0 (Nat.le_refl _) (by unfold maxLen; omega) rfl) ⟨b, off, none⟩ n cap (flat f n) rfl (flat_len f n) (flat_cells ((unhide F0).below ((Below.refl _ _).alloc (Nat.le_refl _) _) hb0)) (flat_one f n) (by unfold maxLen; omega) (by omega) (by simp) ?_; intro v1 w1 hown1 hgrow1 hn1; simp only [Nat.zero_add, List.nil_append] at hown1; have hs1 : w0.heap.size ≤ w1.heap.size := (by have := hgrow1.size; simp at this; omega))
    | (at_builtin; refine wpList_append_own _ rfl (.tmp 14) (.tmp 16) 38 rfl w0.heap.size 23 i0 (.agg #[.int .i64 0, .int .i64 0, .string ⟨#[]⟩]) 3 32 Tryd.underlying38 hi hz0 hz1 hz2 rfl (by decide) _ n (flat f n) rfl (hown1.alloc _) ⟨_, 0, none⟩ 1 1 [.int .i64 7, .int .i64 0, .string ⟨#[]⟩] rfl rfl seven_news seven_one (by unfold maxLen; omega) (by omega) (by simp; omega) ?_; intro v2 w2 hown2 hgrow2 hn2; obtain ⟨⟨g, cap2, rfl, hcap, hg, hv, h7⟩, hbel⟩ := copied_of hown1 hgrow1 hown2 hgrow2; have V2 := hide hv; have B2 := hide (below_sub (unhide B0) hbel); have F2 := hide ((unhide F0).below hbel hb0); have hb2 : b < w2.heap.size := Nat.lt_of_lt_of_le hb0 hbel.size; clear hown1 hgrow1 hn1 hown2 hgrow2 hn2 hv hbel; have hc2 : (n : Int) ≤ (cap2 : Int) := (by omega))
    | (go_at_call 23; refine (hls g cap2 _ hg (unhide V2)).mono ?_; rintro e w3 ⟨rfl, b3⟩; have B3 := hide ((below_sub (unhide B2) b3).alloc (below_sub (unhide B2) b3).size (.cells #[.int .i64 M.k, .int .i64 M.n, .string M.s] 23)); have K3 := hide (Box.new w3 M 23); have V3 := hide (((unhide V2).below b3 hg).below ((Below.refl _ _).alloc (Nat.le_refl _) (.cells #[.int .i64 M.k, .int .i64 M.n, .string M.s] 23)) (Nat.lt_of_lt_of_le hg b3.size)); have F3 := hide (((unhide F2).below b3 hb2).below ((Below.refl _ _).alloc (Nat.le_refl _) (.cells #[.int .i64 M.k, .int .i64 M.n, .string M.s] 23)) (Nat.lt_of_lt_of_le hb2 b3.size)); have h7c := (b3.cell (p := ⟨g, n * 3, none⟩) hg).trans h7; have hg3 : g < w3.heap.size := Nat.lt_of_lt_of_le hg b3.size; have hb3 : b < w3.heap.size := Nat.lt_of_lt_of_le hb2 b3.size; clear b3)
    | (go_at_call 24; refine (hrl _ (by simp; omega) (unhide F3)).mono ?_; rintro e w4 ⟨rfl, b4⟩; have B4 := hide ((below_sub (unhide B3) b4).alloc (below_sub (unhide B3) b4).size (.cells #[.int .i64 M.k, .int .i64 M.n, .string M.s] 23)); have K4 := hide ((unhide K3).below b4); obtain ⟨c0, c1, c2, _, z4⟩ := unhide K4; have V4 := hide ((unhide V3).below b4 (by simp; omega)); have F4 := hide ((unhide F3).below b4 (by simp; omega)); have h7d : w4.cell? ⟨g, n * 3, none⟩ = some (.int .i64 7) := (by rw [b4.cell (by simp; omega)]; rw [World.cell?_alloc_past _ _ _ (by simpa using hg3)]; exact h7c); have hg4 : g < w4.heap.size := (by have := b4.size; simp at this; omega); have hb4 : b < w4.heap.size := (by have := b4.size; simp at this; omega); clear b4))
  have O5 : Below w4.heap.size w4 (w4.alloc (.cells #[.int .i64 M.k, .int .i64 M.n, .string M.s] 23)) := (Below.refl _ _).alloc (Nat.le_refl _) _
  have V5 := hide ((unhide V4).below O5 hg4)
  have F5 := hide ((unhide F4).below O5 hb4)
  have K5 := hide ((unhide K4).below O5)
  have hg5 : g < (w4.alloc (.cells #[.int .i64 M.k, .int .i64 M.n, .string M.s] 23)).heap.size := Nat.lt_of_lt_of_le hg4 O5.size
  have hb5 : b < (w4.alloc (.cells #[.int .i64 M.k, .int .i64 M.n, .string M.s] 23)).heap.size := Nat.lt_of_lt_of_le hb4 O5.size
  have Hz := hide (And.intro hg5 hb5)
  clear V4 F4 K4 O5 hg5 hb5 h7d h7c h7 c0 c1 c2 V3 F3 K3 B3 V2 F2 B2 F0 B0 hls hrl hsame hfx
  go_loopw [50] (fun i wr => ∃ k : Nat, k ≤ n ∧ i = .int .i64 k ∧ Below (w4.alloc (.cells #[.int .i64 M.k, .int .i64 M.n, .string M.s] 23)).heap.size (w4.alloc (.cells #[.int .i64 M.k, .int .i64 M.n, .string M.s] 23)) wr) (fun i _ => n - (intOf i).toNat)
  case atStart => exact ⟨0, by omega, rfl, Below.refl _ _⟩
  case round =>
    obtain ⟨k, hk, rfl, hbr⟩ := hrel
    have HB := hide hbr
    by_cases hlt : k < n
    · obtain ⟨g0, g1, g2⟩ := (unhide F5).below hbr (unhide Hz).2 k hlt
      obtain ⟨v0, v1', v2'⟩ := (unhide V5).below hbr (unhide Hz).1 k hlt
      obtain ⟨m0, m1, m2, _, mz⟩ := (unhide K5).below hbr
      have hcm := unhide HMn k (by omega)
      have hgz : g < wr.heap.size := Nat.lt_of_lt_of_le (unhide Hz).1 hbr.size
      have hbz : b < wr.heap.size := Nat.lt_of_lt_of_le (unhide Hz).2 hbr.size
      obtain ⟨F, hF2⟩ : ∃ F, F = f k := ⟨_, rfl⟩
      rw [← hF2] at g0 g1 g2 v0 v1' v2' hcm
      have hcm1 : 0 ≤ cmpV F.k F.n F.s M.k M.n M.s := hcm
      have hcm2 : ¬ cmpV F.k F.n F.s M.k M.n M.s < 0 := by omega
      clear hcm1
      have hsf := neqV F.k F.n F.s F.k F.n F.s
      rw [show sameV F.k F.n F.s F.k F.n F.s = true by simp [sameV]] at hsf
      have hcp := fun W => compare_any F.k F.n F.s M.k M.n M.s W
      generalize cmpV F.k F.n F.s M.k M.n M.s = C at hcp hcm2
      have hC : decide (C < 0) = false := by simpa using hcm2
      have k0 : (0 : Int) ≤ (k : Int) := by omega
      have k1 : (k : Int) < (n : Int) := by omega
      have k2 : (k : Int) < (n : Int) + 1 := by omega
      simp only [Nat.zero_add] at v0 v1' v2'
      obtain ⟨x0, x1, x2, _, xz⟩ := Box.new wr F 23
      have XB : Below wr.heap.size wr (wr.alloc (.cells #[.int .i64 F.k, .int .i64 F.n, .string F.s] 23)) := (Below.refl _ _).alloc (Nat.le_refl _) _
      have y0 := (XB.cell (p := ⟨g, k * 3, none⟩) hgz).trans v0
      have y1 := (XB.cell (p := ⟨g, k * 3 + 1, none⟩) hgz).trans v1'
      have y2 := (XB.cell (p := ⟨g, k * 3 + 2, none⟩) hgz).trans v2'
      have u0 := (XB.cell (p := ⟨w3.heap.size, 0, none⟩) mz).trans m0
      have u1 := (XB.cell (p := ⟨w3.heap.size, 1, none⟩) mz).trans m1
      have u2 := (XB.cell (p := ⟨w3.heap.size, 2, none⟩) mz).trans m2
      have gz2 : g < (wr.alloc (.cells #[.int .i64 F.k, .int .i64 F.n, .string F.s] 23)).heap.size := Nat.lt_of_lt_of_le hgz XB.size
      have mz2 : w3.heap.size < (wr.alloc (.cells #[.int .i64 F.k, .int .i64 F.n, .string F.s] 23)).heap.size := Nat.lt_of_lt_of_le mz XB.size
      have HX := hide (And.intro y0 (And.intro y1 (And.intro y2 (And.intro u0 (And.intro u1 (And.intro u2 (And.intro x0 (And.intro x1 (And.intro x2 (And.intro gz2 (And.intro mz2 xz)))))))))))
      clear y0 y1 y2 u0 u1 u2 x0 x1 x2 gz2 mz2 xz XB hcm hcm2 hF2 hbr v0 v1' v2' m0 m1 m2
      go_wp2
      obtain ⟨y0, y1, y2, u0, u1, u2, x0, x1, x2, gz2, mz2, xz⟩ := unhide HX
      generalize hWW : wr.alloc (.cells #[.int .i64 F.k, .int .i64 F.n, .string F.s] 23) = WW at y0 y1 y2 u0 u1 u2 x0 x1 x2 gz2 mz2 xz ⊢
      have HWW := hide hWW
      clear hWW g0 g1 g2 HX
      go_region_held3 (fun w' => w'.cell? ⟨g, k * 3, none⟩ = some (.int .i64 F.k) ∧ w'.cell? ⟨g, k * 3 + 1, none⟩ = some (.int .i64 F.n) ∧ w'.cell? ⟨g, k * 3 + 2, none⟩ = some (.string F.s) ∧ w'.cell? ⟨wr.heap.size, 0, none⟩ = some (.int .i64 F.k) ∧ w'.cell? ⟨wr.heap.size, 1, none⟩ = some (.int .i64 F.n) ∧ w'.cell? ⟨wr.heap.size, 2, none⟩ = some (.string F.s) ∧ w'.cell? ⟨w3.heap.size, 0, none⟩ = some (.int .i64 M.k) ∧ w'.cell? ⟨w3.heap.size, 1, none⟩ = some (.int .i64 M.n) ∧ w'.cell? ⟨w3.heap.size, 2, none⟩ = some (.string M.s))
        (first | go_keep | exact ⟨(hb2.cell (by exact gz2)).trans y0, (hb2.cell (by exact gz2)).trans y1, (hb2.cell (by exact gz2)).trans y2, (hb2.cell (by exact xz)).trans x0, (hb2.cell (by exact xz)).trans x1, (hb2.cell (by exact xz)).trans x2, (hb2.cell (by exact mz2)).trans u0, (hb2.cell (by exact mz2)).trans u1, (hb2.cell (by exact mz2)).trans u2⟩)
        ((go_at_call 15; refine (hcp _).mono ?_; rintro e w6 ⟨rfl, hb2⟩))
      all_goals
        have hstep := hide (show Below (w4.alloc (.cells #[.int .i64 M.k, .int .i64 M.n, .string M.s] 23)).heap.size (w4.alloc (.cells #[.int .i64 M.k, .int .i64 M.n, .string M.s] 23)) w6 from below_sub (by rw [← unhide HWW]; exact (unhide HB).alloc (unhide HB).size _) (below_undrew hb2))
        go_wp2
        go_roundw
        case rel => exact ⟨k + 1, by omega, by go_num, unhide hstep⟩
        case measure => simp [intOf]; omega
    · go_wp2
      go_ret
      exact ⟨rfl, below_sub (unhide B4) hbr⟩
end Go.Proofs.YtojeihchkdkkgaaDoor

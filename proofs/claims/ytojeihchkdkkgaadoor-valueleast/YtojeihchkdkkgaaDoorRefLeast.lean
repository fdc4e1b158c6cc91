/- What the reference's Least returns: what the program's does. -/
import Derived.Test.YtojeihchkdkkgaaDoorRef
import Derived.Test.YtojeihchkdkkgaaDoorLeast
namespace Go.Proofs.YtojeihchkdkkgaaDoor
open Go.RowKit

/-- The first of the values 0 .. k-1; the zero value, if there is none. -/
def minUp (f : Nat → Val) : Nat → Val
  | 0 => ⟨0, 0, ⟨#[]⟩⟩
  | k + 1 => minTo f k

set_option maxRecDepth 100000 in
set_option maxHeartbeats 1000000 in
theorem refLeast_any (b off n cap : Nat) (f : Nat → Val) (w : World) (hn : 0 < n) (hmax : n ≤ 4398046511104) (hbw : b < w.heap.size) (hf : ValsAt w b off n f) (hsz : ∀ j, j < n → (f j).s.size ≤ maxLen) :
    Calls Tryd.prog 24 #[.slice (some ⟨b, off, none⟩) n cap] w fun e w' => e = .returned (.tuple #[.agg #[.int .i64 (minTo f (n - 1)).k, .int .i64 (minTo f (n - 1)).n, .string (minTo f (n - 1)).s], .bool true]) ∧ Below w.heap.size w w' := by
  have hn0 : (0 : Int) < (n : Int) := by omega
  have hF := hide hf
  clear hf
  go_enter Tryd.func24, Tryd.ntmps24
  go_wp2
  go_loopw [5] (fun i wr => ∃ k : Nat, k ≤ n ∧ i = .int .i64 k ∧ Below w.heap.size w wr ∧ Box wr (w.heap.size + 1) (minUp f k) ∧ Box wr w.heap.size ⟨0, 0, ⟨#[]⟩⟩) (fun i _ => n - (intOf i).toNat)
  case atStart =>
    refine ⟨0, by omega, rfl, ((Below.refl _ _).alloc (Nat.le_refl _) _).alloc (by simp) _, ?_, ?_⟩
    · have := Box.new (w.alloc (.cells #[.int .i64 0, .int .i64 0, .string ⟨#[]⟩] 23)) ⟨0, 0, ⟨#[]⟩⟩ 23
      simpa [minUp] using this
    · exact (Box.new w ⟨0, 0, ⟨#[]⟩⟩ 23).alloc _
  case round =>
    obtain ⟨k, hk, rfl, hb, bm, br⟩ := hrel
    have Hm := hide bm
    have Hr := hide br
    by_cases hlt : k < n
    · have Hs := hide (hsz k hlt)
      obtain ⟨g0, g1, g2⟩ := (unhide hF).below hb hbw k hlt
      have hbr : b < wr.heap.size := Nat.lt_of_lt_of_le hbw hb.size
      have ki0 : (0 : Int) ≤ (k : Int) := by omega
      have ki1 : (k : Int) < (n : Int) := by omega
      by_cases hk0 : k = 0
      · subst hk0
        simp only [Nat.zero_mul, Nat.add_zero] at g0 g1 g2
        obtain ⟨m0, m1, m2, fr1, sz1⟩ := bm
        simp only [minUp] at m0 m1 m2
        go_wp2
        go_quiet (fail)
        go_wp2
        go_roundw
        case rel =>
          refine ⟨1, by omega, by go_num, (below_drewN hb _).trans (below_put3 _ (w.heap.size + 1) (f 0) (by omega)), ?_, ?_⟩
          · show Box (put3 (wr.drewN nq) (w.heap.size + 1) (f 0)) (w.heap.size + 1) (f 0)
            exact ((unhide Hm).below (below_drewN (Below.refl _ _) nq)).put (f 0)
          · exact ((unhide Hr).below (below_drewN (Below.refl _ _) nq)).belowAt (below_put3 _ (w.heap.size + 1) (f 0) (Nat.le_refl _)) (by omega)
        case measure => simp [intOf]; omega
      · obtain ⟨j, rfl⟩ : ∃ j, k = j + 1 := ⟨k - 1, by omega⟩
        have Hm' : Hid (Box wr (w.heap.size + 1) (minTo f j)) := unhide Hm
        obtain ⟨m0, m1, m2, fr1, sz1⟩ := unhide Hm'
        have k0 : (((j + 1 : Nat) : Int) == 0) = false := by simp; omega
        obtain ⟨M, hM⟩ : ∃ M, M = minTo f j := ⟨_, rfl⟩
        obtain ⟨F, hFk⟩ : ∃ F, F = f (j + 1) := ⟨_, rfl⟩
        obtain ⟨K, hK⟩ : ∃ K, K = j + 1 := ⟨_, rfl⟩
        rw [← hM] at m0 m1 m2
        rw [← hFk] at g0 g1 g2 Hs
        rw [← hK] at g0 g1 g2 k0 ki0 ki1 hlt hk ⊢
        have HM := hide hM
        have HFk := hide hFk
        have HK := hide hK
        clear hM hFk hK hk0 bm Hm
        go_wp2
        go_region_held3 (fun w' => w'.cell? ⟨b, off + K * 3, none⟩ = some (.int .i64 F.k) ∧ w'.cell? ⟨b, off + K * 3 + 1, none⟩ = some (.int .i64 F.n) ∧ w'.cell? ⟨b, off + K * 3 + 2, none⟩ = some (.string F.s) ∧ w'.cell? ⟨w.heap.size + 1, 0, none⟩ = some (.int .i64 M.k) ∧ w'.cell? ⟨w.heap.size + 1, 1, none⟩ = some (.int .i64 M.n) ∧ w'.cell? ⟨w.heap.size + 1, 2, none⟩ = some (.string M.s))
          (first | go_keep | exact ⟨(hb2.cell (by exact hbr)).trans g0, (hb2.cell (by exact hbr)).trans g1, (hb2.cell (by exact hbr)).trans g2, (hb2.cell (by exact sz1)).trans m0, (hb2.cell (by exact sz1)).trans m1, (hb2.cell (by exact sz1)).trans m2⟩)
          ((go_at_call 16; refine (refCompare_any F.k F.n F.s M.k M.n M.s _ (unhide Hs)).mono ?_; rintro e w2 ⟨rfl, hb2⟩))
        have hb2 := below_undrew hb2
        have bm2 := (unhide Hm').below hb2
        have br2 := hide ((unhide Hr).below hb2)
        have hbn := hide (hb.trans (hb2.mono hb.size))
        have hg2 := (unhide hF).below (unhide hbn) hbw K (by omega)
        rw [show f K = F by rw [unhide HK, unhide HFk]] at hg2
        rw [← unhide HM] at bm2
        have Hm2 := hide bm2
        obtain ⟨n0, n1, n2, nf, nz⟩ := bm2
        obtain ⟨q0, q1, q2⟩ := hg2
        clear g0 g1 g2 m0 m1 m2 fr1 hb2 br
        by_cases hcm : cmpV F.k F.n F.s M.k M.n M.s < 0
        · have hmin := hide (show minTo f (j + 1) = F by
            rw [minTo_yes (f := f) (k := j + 1) (by omega) (by rw [← unhide HFk, Nat.add_sub_cancel, ← unhide HM]; exact hcm), ← unhide HFk])
          go_wp2
          go_roundw
          case rel =>
            refine ⟨K + 1, by omega, by go_num, (unhide hbn).trans (below_put3 w2 (w.heap.size + 1) F (by omega)), ?_, (unhide br2).belowAt (below_put3 w2 (w.heap.size + 1) F (Nat.le_refl _)) (by omega)⟩
            show Box (put3 w2 (w.heap.size + 1) F) (w.heap.size + 1) (minTo f K)
            rw [unhide HK, unhide hmin]; exact (unhide Hm2).put F
          case measure => simp [intOf]; omega
        · have hmin := hide (show minTo f (j + 1) = M by
            rw [minTo_no (f := f) (k := j + 1) (by omega) (by rw [← unhide HFk, Nat.add_sub_cancel, ← unhide HM]; exact hcm), Nat.add_sub_cancel, ← unhide HM])
          go_wp2
          go_roundw
          case rel =>
            refine ⟨K + 1, by omega, by go_num, unhide hbn, ?_, unhide br2⟩
            show Box w2 (w.heap.size + 1) (minTo f K)
            rw [unhide HK, unhide hmin]; exact unhide Hm2
          case measure => simp [intOf]; omega
    · obtain rfl : k = n := by omega
      obtain ⟨j, rfl⟩ : ∃ j, k = j + 1 := ⟨k - 1, by omega⟩
      have Hm' : Hid (Box wr (w.heap.size + 1) (minTo f j)) := unhide Hm
      obtain ⟨m0, m1, m2, fr1, sz1⟩ := unhide Hm'
      obtain ⟨r0, r1, r2, fr0, sz0⟩ := br
      simp only at r0 r1 r2
      clear bm Hm
      go_wp2
      simp only [Nat.add_sub_cancel]
      refine bodyPost_ret (v := .tuple #[.agg #[.int .i64 (minTo f j).k, .int .i64 (minTo f j).n, .string (minTo f j).s], .bool true]) (by simp [results, Tryd.results24, go_sem, r0, r1, r2]) rfl ⟨rfl, ?_⟩
      exact hb.trans (below_put3 wr w.heap.size (minTo f j) (Nat.le_refl _))
end Go.Proofs.YtojeihchkdkkgaaDoor

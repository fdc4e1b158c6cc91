/- What value.Least returns, for every list. -/
import Derived.Test.YtojeihchkdkkgaaDoorText
namespace Go.Proofs.YtojeihchkdkkgaaDoor
open Go.RowKit

/-- A value's three parts. -/
structure Val where
  k : Int
  n : Int
  s : ByteArray
def cmpW (a b : Val) : Int := cmpV a.k a.n a.s b.k b.n b.s
/-- The first of the values 0 .. j. -/
def minTo (f : Nat → Val) : Nat → Val
  | 0 => f 0
  | j + 1 => if cmpW (f (j + 1)) (minTo f j) < 0 then f (j + 1) else minTo f j
/-- The block b holds the values f 0 .. f (n-1) from off on. -/
def ValsAt (w : World) (b off n : Nat) (f : Nat → Val) : Prop :=
  ∀ j, j < n → w.cell? ⟨b, off + j * 3, none⟩ = some (.int .i64 (f j).k) ∧ w.cell? ⟨b, off + j * 3 + 1, none⟩ = some (.int .i64 (f j).n) ∧ w.cell? ⟨b, off + j * 3 + 2, none⟩ = some (.string (f j).s)
theorem ValsAt.below {w w' : World} {b off n : Nat} {f : Nat → Val} (h : ValsAt w b off n f) (hb : Below w.heap.size w w') (hn : b < w.heap.size) : ValsAt w' b off n f := fun j hj => by
  obtain ⟨h1, h2, h3⟩ := h j hj
  exact ⟨(hb.cell (by exact hn)).trans h1, (hb.cell (by exact hn)).trans h2, (hb.cell (by exact hn)).trans h3⟩

/-- The block b holds one value, and may be written. -/
def Box (w : World) (b : Nat) (x : Val) : Prop :=
  w.cell? ⟨b, 0, none⟩ = some (.int .i64 x.k) ∧ w.cell? ⟨b, 1, none⟩ = some (.int .i64 x.n) ∧ w.cell? ⟨b, 2, none⟩ = some (.string x.s) ∧ (∀ o, w.frozen? ⟨b, o, none⟩ = false) ∧ b < w.heap.size
theorem Box.below {w w' : World} {b : Nat} {x : Val} (h : Box w b x) (hb : Below w.heap.size w w') : Box w' b x := by
  obtain ⟨h1, h2, h3, h4, h5⟩ := h
  exact ⟨(hb.cell (by exact h5)).trans h1, (hb.cell (by exact h5)).trans h2, (hb.cell (by exact h5)).trans h3, fun o => (hb.frozen (by exact h5)).trans (h4 o), Nat.lt_of_lt_of_le h5 hb.size⟩
theorem Box.belowAt {B : Nat} {w w' : World} {b : Nat} {x : Val} (h : Box w b x) (hb : Below B w w') (hB : b < B) : Box w' b x := by
  obtain ⟨h1, h2, h3, h4, h5⟩ := h
  exact ⟨(hb.cell (by exact hB)).trans h1, (hb.cell (by exact hB)).trans h2, (hb.cell (by exact hB)).trans h3, fun o => (hb.frozen (by exact hB)).trans (h4 o), Nat.lt_of_lt_of_le h5 hb.size⟩
/-- The value y stored into the block b. -/
def put3 (w : World) (b : Nat) (y : Val) : World := ((w.setCell ⟨b, 0, none⟩ (.int .i64 y.k)).setCell ⟨b, 1, none⟩ (.int .i64 y.n)).setCell ⟨b, 2, none⟩ (.string y.s)
theorem below_put3 {B : Nat} (w : World) (b : Nat) (y : Val) (h : B ≤ b) : Below B w (put3 w b y) :=
  (((Below.refl _ _).setCell h _).setCell h _).setCell h _
theorem Box.put {w : World} {b : Nat} {x : Val} (h : Box w b x) (y : Val) : Box (put3 w b y) b y := by
  obtain ⟨h1, h2, h3, h4, h5⟩ := h
  unfold put3
  refine ⟨?_, ?_, ?_, fun o => ?_, ?_⟩
  · go_simp
  · go_simp
  · go_simp
  · go_simp
  · simpa [World.setCell] using h5
theorem below_undrew {w w' : World} (h : Below w.drew.heap.size w.drew w') : Below w.heap.size w w' := ⟨h.os, h.tape, h.output, h.size, h.block⟩
theorem minTo_yes {f : Nat → Val} {k : Nat} (hk : 1 ≤ k) (h : cmpV (f k).k (f k).n (f k).s (minTo f (k - 1)).k (minTo f (k - 1)).n (minTo f (k - 1)).s < 0) : minTo f k = f k := by
  match k, hk with
  | j + 1, _ => unfold minTo; rw [if_pos]; exact h
theorem minTo_no {f : Nat → Val} {k : Nat} (hk : 1 ≤ k) (h : ¬ cmpV (f k).k (f k).n (f k).s (minTo f (k - 1)).k (minTo f (k - 1)).n (minTo f (k - 1)).s < 0) : minTo f k = minTo f (k - 1) := by
  match k, hk with
  | j + 1, _ => conv => lhs; unfold minTo; rw [if_neg (by exact h)]
                rfl
theorem Box.new (w : World) (x : Val) (t : TypeId) : Box (w.alloc (.cells #[.int .i64 x.k, .int .i64 x.n, .string x.s] t)) w.heap.size x := by
  refine ⟨?_, ?_, ?_, fun o => ?_, by simp⟩ <;> simp
theorem Box.alloc {w : World} {b : Nat} {x : Val} (h : Box w b x) (o : Obj) : Box (w.alloc o) b x := h.below ((Below.refl _ _).alloc (Nat.le_refl _) _)

set_option maxHeartbeats 1000000 in
theorem minFunc_any (b off n cap : Nat) (f : Nat → Val) (w : World) (hn : 0 < n) (hmax : n ≤ 4398046511104) (hbw : b < w.heap.size) (hf : ValsAt w b off n f) :
    Calls Tryd.prog 37 #[.slice (some ⟨b, off, none⟩) n cap, .func (.func 15) #[] #[]] w fun e w' => e = .returned (.agg #[.int .i64 (minTo f (n - 1)).k, .int .i64 (minTo f (n - 1)).n, .string (minTo f (n - 1)).s]) ∧ Below w.heap.size w w' := by
  obtain ⟨h0, h1, h2⟩ := hf 0 hn
  simp only [Nat.zero_mul, Nat.add_zero] at h0 h1 h2
  have hn1 : (1 : Int) ≤ (n : Int) := by omega
  have hn0 : (0 : Int) < (n : Int) := by omega
  have hF := hide hf
  clear hf
  go_enter Tryd.func37, Tryd.ntmps37
  go_wp2
  go_loopw [6] (fun i wr => ∃ k : Nat, 1 ≤ k ∧ k ≤ n ∧ i = .int .i64 k ∧ Below w.heap.size w wr ∧ Box wr (w.heap.size + 1) (minTo f (k - 1)) ∧ Box wr w.heap.size ⟨0, 0, ⟨#[]⟩⟩) (fun i _ => n - (intOf i).toNat)
  case atStart =>
    refine ⟨1, by omega, by omega, rfl, ((Below.refl _ _).alloc (Nat.le_refl _) _).alloc (by simp) _, ?_, ?_⟩
    · have := Box.new (w.alloc (.cells #[.int .i64 0, .int .i64 0, .string ⟨#[]⟩] 23)) (f 0) 23
      simpa [minTo] using this
    · exact (Box.new w ⟨0, 0, ⟨#[]⟩⟩ 23).alloc _
  case round =>
    obtain ⟨k, hk1, hk, rfl, hb, bm, br⟩ := hrel
    have Hm := hide bm
    have Hr := hide br
    obtain ⟨m0, m1, m2, fr1, sz1⟩ := bm
    by_cases hlt : k < n
    · obtain ⟨g0, g1, g2⟩ := (unhide hF).below hb hbw k hlt
      have hbr : b < wr.heap.size := Nat.lt_of_lt_of_le hbw hb.size
      have ki0 : (0 : Int) ≤ (k : Int) := by omega
      have ki1 : (k : Int) < (n : Int) := by omega
      obtain ⟨M, hM⟩ : ∃ M, M = minTo f (k - 1) := ⟨_, rfl⟩
      obtain ⟨F, hFk⟩ : ∃ F, F = f k := ⟨_, rfl⟩
      rw [← hM] at m0 m1 m2
      rw [← hFk] at g0 g1 g2
      have HM := hide hM
      have HFk := hide hFk
      clear hM hFk
      go_wp2
      go_region_held3 (fun w' => w'.cell? ⟨b, off + k * 3, none⟩ = some (.int .i64 F.k) ∧ w'.cell? ⟨b, off + k * 3 + 1, none⟩ = some (.int .i64 F.n) ∧ w'.cell? ⟨b, off + k * 3 + 2, none⟩ = some (.string F.s) ∧ w'.cell? ⟨w.heap.size + 1, 0, none⟩ = some (.int .i64 M.k) ∧ w'.cell? ⟨w.heap.size + 1, 1, none⟩ = some (.int .i64 M.n) ∧ w'.cell? ⟨w.heap.size + 1, 2, none⟩ = some (.string M.s))
        (first | go_keep | exact ⟨(hb2.cell (by exact hbr)).trans g0, (hb2.cell (by exact hbr)).trans g1, (hb2.cell (by exact hbr)).trans g2, (hb2.cell (by exact sz1)).trans m0, (hb2.cell (by exact sz1)).trans m1, (hb2.cell (by exact sz1)).trans m2⟩)
        ((go_at_call 15; refine (compare_any F.k F.n F.s M.k M.n M.s _).mono ?_; rintro e w2 ⟨rfl, hb2⟩))
      have hb2 := below_undrew hb2
      have bm2 := (unhide Hm).below hb2
      have br2 := hide ((unhide Hr).below hb2)
      have hbn := hide (hb.trans (hb2.mono hb.size))
      have hg2 := (unhide hF).below (unhide hbn) hbw k hlt
      rw [← unhide HFk] at hg2
      rw [← unhide HM] at bm2
      have Hm2 := hide bm2
      obtain ⟨n0, n1, n2, nf, nz⟩ := bm2
      obtain ⟨q0, q1, q2⟩ := hg2
      clear g0 g1 g2 m0 m1 m2 fr1 hb2 br
      by_cases hcm : cmpV F.k F.n F.s M.k M.n M.s < 0
      · have hmin := hide (minTo_yes (f := f) hk1 (by rw [← unhide HFk, ← unhide HM]; exact hcm))
        go_wp2
        go_roundw
        case rel =>
          refine ⟨k + 1, by omega, by omega, by go_num, ?_, ?_, ?_⟩
          · exact (unhide hbn).trans (below_put3 w2 (w.heap.size + 1) F (by omega))
          · show Box (put3 w2 (w.heap.size + 1) F) (w.heap.size + 1) (minTo f k)
            rw [unhide hmin, ← unhide HFk]; exact (unhide Hm2).put F
          · exact (unhide br2).belowAt (below_put3 w2 (w.heap.size + 1) F (Nat.le_refl _)) (by omega)
        case measure => simp [intOf]; omega
      · have hmin := hide (minTo_no (f := f) hk1 (by rw [← unhide HFk, ← unhide HM]; exact hcm))
        go_wp2
        go_roundw
        case rel =>
          refine ⟨k + 1, by omega, by omega, by go_num, unhide hbn, ?_, unhide br2⟩
          show Box w2 (w.heap.size + 1) (minTo f k)
          rw [unhide hmin, ← unhide HM]; exact unhide Hm2
        case measure => simp [intOf]; omega
    · obtain rfl : k = n := by omega
      obtain ⟨r0, r1, r2, fr0, sz0⟩ := br
      simp only at r0 r1 r2
      go_wp2
      have hb3 := (unhide Hr).put (minTo f (k - 1))
      obtain ⟨z0, z1, z2, _, _⟩ := hb3
      unfold put3 at z0 z1 z2
      refine bodyPost_ret (v := .agg #[.int .i64 (minTo f (k - 1)).k, .int .i64 (minTo f (k - 1)).n, .string (minTo f (k - 1)).s]) (by simp [results, Tryd.results37, go_sem, r0, r1, r2]) rfl ⟨rfl, ?_⟩
      exact hb.trans (below_put3 wr w.heap.size (minTo f (k - 1)) (Nat.le_refl _))

set_option maxHeartbeats 400000 in
theorem least_any (b off n cap : Nat) (f : Nat → Val) (w : World) (hn : 0 < n) (hmax : n ≤ 4398046511104) (hbw : b < w.heap.size) (hf : ValsAt w b off n f) :
    Calls Tryd.prog 23 #[.slice (some ⟨b, off, none⟩) n cap] w fun e w' => e = .returned (.tuple #[.agg #[.int .i64 (minTo f (n - 1)).k, .int .i64 (minTo f (n - 1)).n, .string (minTo f (n - 1)).s], .bool true]) ∧ Below w.heap.size w w' := by
  have hn' : ((n : Int) == 0) = false := by simp; omega
  have hm := fun w1 h1 h2 => minFunc_any b off n cap f w1 hn hmax h1 h2
  have hF := hide hf
  clear hf
  generalize minTo f (n - 1) = M at hm ⊢
  go_enter Tryd.func23, Tryd.ntmps23
  go_wp2_with (go_at_call 37; refine (hm _ (by simp; omega) (by exact (unhide hF).below ((Below.refl _ _).alloc (Nat.le_refl _) _) hbw)).mono ?_; rintro e w1 ⟨rfl, hb⟩; obtain ⟨hcell, hfr⟩ := bcell hb; simp at hcell hfr)
  refine bodyPost_ret (v := .tuple #[.agg #[.int .i64 M.k, .int .i64 M.n, .string M.s], .bool true]) (by simp [results, Tryd.results23, go_sem, hcell]) rfl ⟨rfl, ?_⟩
  exact below_st3 hb _ _ _
end Go.Proofs.YtojeihchkdkkgaaDoor

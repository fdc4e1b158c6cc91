/- The law ConjOrder: the order of predicates is total, and 0 just for the same. -/
import Derived.Test.YtimklglliffpcaaGreatQCjFix
import Derived.Test.YtimklglliffpcaaGreatQSamePred
namespace Go.Proofs.YtimklglliffpcaaGreat
open Go.RowKit Go.Sort Go.Shelf

def Pd.big (p : Pd) : Prop := p.ints.length ≤ 100000000000000 ∧ p.words.length ≤ 100000000000000
set_option maxHeartbeats 4000000 in
set_option maxRecDepth 100000 in
/-- conj.Compare of predicates as great as the form reaches. -/
theorem compareBig (u v : Pv) (p r : Pd) (w : World) (hu : PdIn w u p) (hv : PdIn w v r) (hs : p.big) : Calls Tryz.prog 20 #[u.val, v.val] w fun e w' => e = .returned (.int .i64 (cmpD p r)) ∧ Below w.heap.size w w' := by
  have mixed : Tryz.prog.follows .mixedOrders = true := by kernel_rfl
  obtain ⟨X, HX, bX, sX, x8, x9⟩ := two_boxes w u v
  have HCX : ∀ W', Below X.heap.size X W' → (W'.cell? ⟨w.heap.size, 0, none⟩ = some (.int .i64 u.kind) ∧ W'.cell? ⟨w.heap.size, 1, none⟩ = some (.string u.attr) ∧ W'.cell? ⟨w.heap.size, 2, none⟩ = some (.slice u.qi u.ni u.ci) ∧ W'.cell? ⟨w.heap.size, 3, none⟩ = some (.slice u.qw u.nw u.cw) ∧ W'.cell? ⟨w.heap.size, 4, none⟩ = some (.int .i64 u.lo) ∧ W'.cell? ⟨w.heap.size, 5, none⟩ = some (.int .i64 u.hi) ∧ W'.cell? ⟨w.heap.size + 1, 0, none⟩ = some (.int .i64 v.kind) ∧ W'.cell? ⟨w.heap.size + 1, 1, none⟩ = some (.string v.attr) ∧ W'.cell? ⟨w.heap.size + 1, 2, none⟩ = some (.slice v.qi v.ni v.ci) ∧ W'.cell? ⟨w.heap.size + 1, 3, none⟩ = some (.slice v.qw v.nw v.cw) ∧ W'.cell? ⟨w.heap.size + 1, 4, none⟩ = some (.int .i64 v.lo) ∧ W'.cell? ⟨w.heap.size + 1, 5, none⟩ = some (.int .i64 v.hi)) := fun W' hW => by
    obtain ⟨a0, a1, a2, a3, a4, a5⟩ := of6C ((hW.block w.heap.size (by omega)).trans x8)
    obtain ⟨b0, b1, b2, b3, b4, b5⟩ := of6C ((hW.block (w.heap.size + 1) (by omega)).trans x9)
    exact ⟨a0, a1, a2, a3, a4, a5, b0, b1, b2, b3, b4, b5⟩
  obtain ⟨a0, a1, a2, a3, a4, a5, b0, b1, b2, b3, b4, b5⟩ := HCX X (Below.refl _ _)
  have hA : ∀ W, Below X.heap.size X W → Calls Tryz.prog 68 #[.agg #[.int .i64 u.kind, .string u.attr, .slice u.qi u.ni u.ci, .slice u.qw u.nw u.cw, .int .i64 u.lo, .int .i64 u.hi], .agg #[.int .i64 v.kind, .string v.attr, .slice v.qi v.ni v.ci, .slice v.qw v.nw v.cw, .int .i64 v.lo, .int .i64 v.hi]] W fun e w' => e = .returned (.int .i64 (cmpB u.attr v.attr)) ∧ Below W.heap.size W w' := fun W _ => byAttr_any u v W
  have hI := fun (W : World) (hW : Below X.heap.size X W) => slCmpI u.qi u.ci p.ints v.qi v.ci r.ints W (hu.2.2.2.2.2.2.1.below (below_sub bX hW)) (hv.2.2.2.2.2.2.1.below (below_sub bX hW)) (by have := hs.1; omega)
  have hS := fun (W : World) (hW : Below X.heap.size X W) => slCmpS u.qw u.cw p.words v.qw v.cw r.words W (hu.2.2.2.2.2.2.2.below (below_sub bX hW)) (hv.2.2.2.2.2.2.2.below (below_sub bX hW)) (by have := hs.2; omega)
  rw [← hu.2.2.1, ← hv.2.2.1] at hI
  rw [← hu.2.2.2.1, ← hv.2.2.2.1] at hS
  have HE := hide (show fst0 [cmpB u.attr v.attr, cmpI u.kind v.kind, cmpL cmpI p.ints r.ints, cmpL cmpB p.words r.words, cmpI u.lo v.lo, cmpI u.hi v.hi] = cmpD p r by
    unfold cmpD
    rw [hu.1, hv.1, hu.2.1, hv.2.1, hu.2.2.2.2.1, hv.2.2.2.2.1, hu.2.2.2.2.2.1, hv.2.2.2.2.2.1])
  have BX := hide bX
  unfold Pv.val
  obtain ⟨z3, hz3⟩ : ∃ z, cmpL cmpI p.ints r.ints = z := ⟨_, rfl⟩
  obtain ⟨z4, hz4⟩ : ∃ z, cmpL cmpB p.words r.words = z := ⟨_, rfl⟩
  rw [hz3] at hI HE
  rw [hz4] at hS HE
  clear hz3 hz4 bX x8 x9 hu hv hs
  go_enter Tryz.func20, Tryz.ntmps20
  go_wp2
  go_region_held3 (fun W' => W'.cell? ⟨w.heap.size, 0, none⟩ = some (.int .i64 u.kind) ∧ W'.cell? ⟨w.heap.size, 1, none⟩ = some (.string u.attr) ∧ W'.cell? ⟨w.heap.size, 2, none⟩ = some (.slice u.qi u.ni u.ci) ∧ W'.cell? ⟨w.heap.size, 3, none⟩ = some (.slice u.qw u.nw u.cw) ∧ W'.cell? ⟨w.heap.size, 4, none⟩ = some (.int .i64 u.lo) ∧ W'.cell? ⟨w.heap.size, 5, none⟩ = some (.int .i64 u.hi) ∧ W'.cell? ⟨w.heap.size + 1, 0, none⟩ = some (.int .i64 v.kind) ∧ W'.cell? ⟨w.heap.size + 1, 1, none⟩ = some (.string v.attr) ∧ W'.cell? ⟨w.heap.size + 1, 2, none⟩ = some (.slice v.qi v.ni v.ci) ∧ W'.cell? ⟨w.heap.size + 1, 3, none⟩ = some (.slice v.qw v.nw v.cw) ∧ W'.cell? ⟨w.heap.size + 1, 4, none⟩ = some (.int .i64 v.lo) ∧ W'.cell? ⟨w.heap.size + 1, 5, none⟩ = some (.int .i64 v.hi)) (first | exact HCX _ (Below.refl _ _) | exact HCX _ (Below.refl _ _).drew | exact HCX _ (Below.refl _ _).drew.drew | exact HCX _ (unhide B1) | exact HCX _ (unhide B1).drew | exact HCX _ (unhide B1).drew.drew | exact HCX _ ((unhide B1).alloc (unhide B1).size _) | exact HCX _ ((unhide B1).drew.alloc (unhide B1).size _) | exact HCX _ ((unhide B1).alloc (unhide B1).size _).drew | go_keep) (first
    | (go_at_call 68; (with_reducible refine (hA _ (by first | exact (Below.refl _ _).drew | exact Below.refl _ _)).mono ?_); rintro e w1 ⟨rfl, b1⟩; have B1 := hide (show Below X.heap.size X w1 by first | exact b1 | exact below_undrew b1); clear b1)
    | (go_at_call 69; (with_reducible refine (compareI _ _ _).mono ?_); rintro e w2 ⟨rfl, rfl⟩)
    | (go_at_call 70; (with_reducible refine (hI _ (by first | exact unhide B1 | exact (unhide B1).drew | exact (unhide B1).drew.drew | exact Below.refl _ _ | exact (Below.refl _ _).drew)).mono ?_); rintro e w2 ⟨rfl, rfl⟩)
    | (go_at_call 71; (with_reducible refine (hS _ (by first | exact unhide B1 | exact (unhide B1).drew | exact (unhide B1).drew.drew | exact Below.refl _ _ | exact (Below.refl _ _).drew)).mono ?_); rintro e w2 ⟨rfl, rfl⟩)
    | (go_at_call 67; (with_reducible refine (orIw6 _ _ _ _ _ _ _ _ (World.alloc_heap_new _ _)).mono ?_); rintro e w2 ⟨rfl, rfl⟩))
  all_goals
    go_wp2
    go_ret
    first
      | exact ⟨ret_int (unhide HE), below_sub (unhide BX) ((unhide B1).alloc (unhide B1).size _)⟩
      | exact ⟨ret_int (unhide HE), below_sub (unhide BX) ((unhide B1).alloc (unhide B1).size _).drew⟩
      | exact ⟨ret_int (unhide HE), below_sub (unhide BX) ((unhide B1).drew.alloc (unhide B1).size _)⟩
theorem sameQ_pd (p r : Pd) : sameQ p.kind p.attr p.ints p.words p.lo p.hi r.kind r.attr r.ints r.words r.lo r.hi = decide (p = r) := by
  unfold sameQ
  obtain ⟨a, b, c, d, e, f⟩ := p
  obtain ⟨a', b', c', d', e', f'⟩ := r
  simp only [Pd.mk.injEq]
  congr 1
  simp only [eq_iff_iff]
  constructor <;> (rintro ⟨h1, h2, h3, h4, h5, h6⟩; refine ⟨?_, ?_, ?_, ?_, ?_, ?_⟩ <;> first | assumption | (subst h2; rfl) | exact ba_ext (by simpa [ByteArray.toList_eq] using h2))
/-- trommelmem.SamePred. -/
theorem samePd (u v : Pv) (p r : Pd) (w : World) (hu : PdIn w u p) (hv : PdIn w v r) (hs : p.big) : Calls Tryz.prog 18 #[.agg #[.int .i64 u.kind, .string u.attr, .slice u.qi u.ni u.ci, .slice u.qw u.nw u.cw, .int .i64 u.lo, .int .i64 u.hi], .agg #[.int .i64 v.kind, .string v.attr, .slice v.qi v.ni v.ci, .slice v.qw v.nw v.cw, .int .i64 v.lo, .int .i64 v.hi]] w fun e w' => e = .returned (.bool (decide (p = r))) ∧ Below w.heap.size w w' := by
  obtain ⟨a1, a2, a3, a4, a5, a6, a7, a8⟩ := hu
  obtain ⟨b1, b2, b3, b4, b5, b6, b7, b8⟩ := hv
  rw [a1, a2, a3, a4, a5, a6, b1, b2, b3, b4, b5, b6, ← sameQ_pd]
  exact samePred_any _ _ _ _ _ _ _ _ _ _ _ _ _ _ _ _ _ _ _ _ w a7 b7 a8 b8 hs.1 hs.2
set_option maxHeartbeats 4000000 in
set_option maxRecDepth 100000 in
theorem conjOrder_law (u v t : Pv) (p r s : Pd) (w : World) (hu : PdIn w u p) (hv : PdIn w v r) (ht : PdIn w t s) (sp : p.big) (sr : r.big) :
    Calls Tryz.prog 10 #[.agg #[.int .i64 u.kind, .string u.attr, .slice u.qi u.ni u.ci, .slice u.qw u.nw u.cw, .int .i64 u.lo, .int .i64 u.hi], .agg #[.int .i64 v.kind, .string v.attr, .slice v.qi v.ni v.ci, .slice v.qw v.nw v.cw, .int .i64 v.lo, .int .i64 v.hi], .agg #[.int .i64 t.kind, .string t.attr, .slice t.qi t.ni t.ci, .slice t.qw t.nw t.cw, .int .i64 t.lo, .int .i64 t.hi]] w fun e w' => e = .returned (.bool true) ∧ Below w.heap.size w w' := by
  have mixed : Tryz.prog.follows .mixedOrders = true := by kernel_rfl
  obtain ⟨X, HX⟩ : ∃ X, ((w.alloc (.cells #[.int .i64 u.kind, .string u.attr, .slice u.qi u.ni u.ci, .slice u.qw u.nw u.cw, .int .i64 u.lo, .int .i64 u.hi] 26)).alloc (.cells #[.int .i64 v.kind, .string v.attr, .slice v.qi v.ni v.ci, .slice v.qw v.nw v.cw, .int .i64 v.lo, .int .i64 v.hi] 26)).alloc (.cells #[.int .i64 t.kind, .string t.attr, .slice t.qi t.ni t.ci, .slice t.qw t.nw t.cw, .int .i64 t.lo, .int .i64 t.hi] 26) = X := ⟨_, rfl⟩
  obtain ⟨Y, HY⟩ : ∃ Y, (w.alloc (.cells #[.int .i64 u.kind, .string u.attr, .slice u.qi u.ni u.ci, .slice u.qw u.nw u.cw, .int .i64 u.lo, .int .i64 u.hi] 26)).alloc (.cells #[.int .i64 v.kind, .string v.attr, .slice v.qi v.ni v.ci, .slice v.qw v.nw v.cw, .int .i64 v.lo, .int .i64 v.hi] 26) = Y := ⟨_, rfl⟩
  have HX0 := HX
  rw [HY] at HX0
  obtain ⟨yA, yB, bY, sY⟩ := twoM HY
  have bYX : Below Y.heap.size Y X := by rw [← HX0]; exact (Below.refl _ _).alloc (Nat.le_refl _) _
  have xA := blk_on yA bYX
  have xB := blk_on yB bYX
  have xC : X.heap[w.heap.size + 1 + 1]? = some (.cells #[.int .i64 t.kind, .string t.attr, .slice t.qi t.ni t.ci, .slice t.qw t.nw t.cw, .int .i64 t.lo, .int .i64 t.hi] 26 (0, 0)) := by
    have := World.alloc_heap_new Y (.cells #[.int .i64 t.kind, .string t.attr, .slice t.qi t.ni t.ci, .slice t.qw t.nw t.cw, .int .i64 t.lo, .int .i64 t.hi] 26)
    rw [HX0, sY] at this
    exact this
  have bX : Below w.heap.size w X := below_sub bY bYX
  have HK : ∀ W', Below X.heap.size X W' → (W'.cell? ⟨w.heap.size, 0, none⟩ = some (.int .i64 u.kind) ∧ W'.cell? ⟨w.heap.size, 1, none⟩ = some (.string u.attr) ∧ W'.cell? ⟨w.heap.size, 2, none⟩ = some (.slice u.qi u.ni u.ci) ∧ W'.cell? ⟨w.heap.size, 3, none⟩ = some (.slice u.qw u.nw u.cw) ∧ W'.cell? ⟨w.heap.size, 4, none⟩ = some (.int .i64 u.lo) ∧ W'.cell? ⟨w.heap.size, 5, none⟩ = some (.int .i64 u.hi) ∧ W'.cell? ⟨w.heap.size + 1, 0, none⟩ = some (.int .i64 v.kind) ∧ W'.cell? ⟨w.heap.size + 1, 1, none⟩ = some (.string v.attr) ∧ W'.cell? ⟨w.heap.size + 1, 2, none⟩ = some (.slice v.qi v.ni v.ci) ∧ W'.cell? ⟨w.heap.size + 1, 3, none⟩ = some (.slice v.qw v.nw v.cw) ∧ W'.cell? ⟨w.heap.size + 1, 4, none⟩ = some (.int .i64 v.lo) ∧ W'.cell? ⟨w.heap.size + 1, 5, none⟩ = some (.int .i64 v.hi) ∧ W'.cell? ⟨w.heap.size + 1 + 1, 0, none⟩ = some (.int .i64 t.kind) ∧ W'.cell? ⟨w.heap.size + 1 + 1, 1, none⟩ = some (.string t.attr) ∧ W'.cell? ⟨w.heap.size + 1 + 1, 2, none⟩ = some (.slice t.qi t.ni t.ci) ∧ W'.cell? ⟨w.heap.size + 1 + 1, 3, none⟩ = some (.slice t.qw t.nw t.cw) ∧ W'.cell? ⟨w.heap.size + 1 + 1, 4, none⟩ = some (.int .i64 t.lo) ∧ W'.cell? ⟨w.heap.size + 1 + 1, 5, none⟩ = some (.int .i64 t.hi)) := fun W' hW => by
    obtain ⟨a0, a1, a2, a3, a4, a5⟩ := of6C (blk_on xA hW)
    obtain ⟨b0, b1, b2, b3, b4, b5⟩ := of6C (blk_on xB hW)
    obtain ⟨c0, c1, c2, c3, c4, c5⟩ := of6C (blk_on xC hW)
    exact ⟨a0, a1, a2, a3, a4, a5, b0, b1, b2, b3, b4, b5, c0, c1, c2, c3, c4, c5⟩
  have hF := fixed_any X
  have h1 := fun (W : World) (hW : Below X.heap.size X W) => compareBig u v p r W (hu.keep (below_sub bX hW)) (hv.keep (below_sub bX hW)) sp
  have h2 := fun (W : World) (hW : Below X.heap.size X W) => compareBig v t r s W (hv.keep (below_sub bX hW)) (ht.keep (below_sub bX hW)) sr
  have h3 := fun (W : World) (hW : Below X.heap.size X W) => compareBig u t p s W (hu.keep (below_sub bX hW)) (ht.keep (below_sub bX hW)) sp
  have h4 := fun (W : World) (hW : Below X.heap.size X W) => compareBig v u r p W (hv.keep (below_sub bX hW)) (hu.keep (below_sub bX hW)) sr
  have h5 := fun (W : World) (hW : Below X.heap.size X W) => samePd u v p r W (hu.keep (below_sub bX hW)) (hv.keep (below_sub bX hW)) sp
  obtain ⟨x, hx⟩ : ∃ x, cmpD p r = x := ⟨_, rfl⟩
  obtain ⟨y, hy⟩ : ∃ y, cmpD r s = y := ⟨_, rfl⟩
  obtain ⟨z, hz⟩ : ∃ z, cmpD p s = z := ⟨_, rfl⟩
  obtain ⟨x', hx'⟩ : ∃ x', cmpD r p = x' := ⟨_, rfl⟩
  unfold Pv.val at h1 h2 h3 h4
  rw [hx] at h1
  rw [hy] at h2
  rw [hz] at h3
  rw [hx'] at h4
  have hr := isCmp_D.rng p r
  have hn := isCmp_D.neg p r
  have he := isCmp_D.eq p r
  have hr2 := isCmp_D.rng r s
  have hn2 := isCmp_D.neg r s
  have hr3 := isCmp_D.rng p s
  have hn3 := isCmp_D.neg p s
  have he2 := isCmp_D.eq r s
  have he3 := isCmp_D.eq p s
  have htr := isCmp_D.trans p r s
  have htr2 := isCmp_D.trans s r p
  have htr3 := isCmp_D.trans s p r
  have htr4 := isCmp_D.trans r s p
  have HCS := hide (show x = 1 ∨ (x = -1 ∧ y = 1) ∨ (x = 0 ∧ y = 1) ∨ (x = 0 ∧ y = 0 ∧ z = 0) ∨ (x = 0 ∧ y = -1 ∧ z = -1) ∨ (x = -1 ∧ y = 0 ∧ z = -1) ∨ (x = -1 ∧ y = -1 ∧ z = -1) by
    rw [hx] at hr hn he htr
    rw [hy] at hr2 hn2 he2 htr
    rw [hz] at hr3 hn3 he3 htr
    rcases hr with rfl | rfl | rfl
    · rcases hr2 with rfl | rfl | rfl
      · rcases hr3 with rfl | rfl | rfl
        · simp
        · have := he3.1 rfl
          subst this
          rw [hx] at hn2
          omega
        · have := htr (by omega) (by omega)
          omega
      · have := he2.1 rfl
        subst this
        rw [hx] at hz
        subst hz
        simp
      · simp
    · have := he.1 rfl
      subst this
      rw [hy] at hz
      subst hz
      rcases hr2 with rfl | rfl | rfl <;> simp
    · simp)
  rw [hx] at hr hn he
  rw [hx'] at hn
  have e1 : decide (x < -1) = false := decide_eq_false (by omega)
  have e2 : decide (1 < x) = false := decide_eq_false (by omega)
  have e3 : IntKind.i64.wrap (-x') = x := by
    have h9 : -x' = x := by omega
    rw [h9]
    rcases hr with rfl | rfl | rfl <;> decide
  have e4 : decide (p = r) = (x == 0) := by
    by_cases h : p = r
    · rw [decide_eq_true h, he.2 h]; rfl
    · rw [decide_eq_false h]
      have : ¬ x = 0 := fun e => h (he.1 e)
      simp [this]
  simp only [e4] at h5
  have HKH := hide HK
  have BX := hide bX
  obtain ⟨a0, a1, a2, a3, a4, a5, b0, b1, b2, b3, b4, b5, c0, c1, c2, c3, c4, c5⟩ := HK X (Below.refl _ _)
  clear hr hn he hr2 hn2 hr3 hn3 he2 he3 htr htr2 htr3 htr4 hx hy hz hx' e4 bX xA xB xC yA yB bY bYX sY HX0 HY Y HK hu hv ht sp sr
  go_enter Tryz.func10, Tryz.ntmps10
  go_upto_region 3 with (go_at_call 11; refine hF.mono ?_; rintro e w1 ⟨rfl, b1⟩; have B1 := hide b1; clear b1)
  clear a0 a1 a2 a3 a4 a5 b0 b1 b2 b3 b4 b5 c0 c1 c2 c3 c4 c5
  obtain ⟨a0, a1, a2, a3, a4, a5, b0, b1, b2, b3, b4, b5, c0, c1, c2, c3, c4, c5⟩ := unhide HKH w1 (unhide B1)
  go_region_held3 (fun W' => W'.cell? ⟨w.heap.size, 0, none⟩ = some (.int .i64 u.kind) ∧ W'.cell? ⟨w.heap.size, 1, none⟩ = some (.string u.attr) ∧ W'.cell? ⟨w.heap.size, 2, none⟩ = some (.slice u.qi u.ni u.ci) ∧ W'.cell? ⟨w.heap.size, 3, none⟩ = some (.slice u.qw u.nw u.cw) ∧ W'.cell? ⟨w.heap.size, 4, none⟩ = some (.int .i64 u.lo) ∧ W'.cell? ⟨w.heap.size, 5, none⟩ = some (.int .i64 u.hi) ∧ W'.cell? ⟨w.heap.size + 1, 0, none⟩ = some (.int .i64 v.kind) ∧ W'.cell? ⟨w.heap.size + 1, 1, none⟩ = some (.string v.attr) ∧ W'.cell? ⟨w.heap.size + 1, 2, none⟩ = some (.slice v.qi v.ni v.ci) ∧ W'.cell? ⟨w.heap.size + 1, 3, none⟩ = some (.slice v.qw v.nw v.cw) ∧ W'.cell? ⟨w.heap.size + 1, 4, none⟩ = some (.int .i64 v.lo) ∧ W'.cell? ⟨w.heap.size + 1, 5, none⟩ = some (.int .i64 v.hi) ∧ W'.cell? ⟨w.heap.size + 1 + 1, 0, none⟩ = some (.int .i64 t.kind) ∧ W'.cell? ⟨w.heap.size + 1 + 1, 1, none⟩ = some (.string t.attr) ∧ W'.cell? ⟨w.heap.size + 1 + 1, 2, none⟩ = some (.slice t.qi t.ni t.ci) ∧ W'.cell? ⟨w.heap.size + 1 + 1, 3, none⟩ = some (.slice t.qw t.nw t.cw) ∧ W'.cell? ⟨w.heap.size + 1 + 1, 4, none⟩ = some (.int .i64 t.lo) ∧ W'.cell? ⟨w.heap.size + 1 + 1, 5, none⟩ = some (.int .i64 t.hi)) (first | exact unhide HKH _ (unhide B4) | exact unhide HKH _ (unhide B4).drew | exact unhide HKH _ (unhide B3) | exact unhide HKH _ (unhide B3).drew | exact unhide HKH _ (unhide B2) | exact unhide HKH _ (unhide B2).drew | exact unhide HKH _ (unhide B1) | exact unhide HKH _ (unhide B1).drew | go_keep)
    (first
      | (go_at_call 20; (with_reducible refine (h1 _ (by first | exact unhide B1 | exact (unhide B1).drew | exact (unhide B1).drew.drew)).mono ?_); rintro e w2 ⟨rfl, b2⟩; have B2 := hide (show Below X.heap.size X w2 by first | exact below_sub (unhide B1) b2 | exact below_sub (unhide B1).drew b2 | exact below_sub (unhide B1).drew.drew b2); clear b2)
      | (go_at_call 20; (with_reducible refine (h2 _ (by first | exact unhide B2 | exact (unhide B2).drew | exact (unhide B2).drew.drew)).mono ?_); rintro e w3 ⟨rfl, b3⟩; have B3 := hide (show Below X.heap.size X w3 by first | exact below_sub (unhide B2) b3 | exact below_sub (unhide B2).drew b3 | exact below_sub (unhide B2).drew.drew b3); clear b3)
      | (go_at_call 20; (with_reducible refine (h3 _ (by first | exact unhide B3 | exact (unhide B3).drew | exact (unhide B3).drew.drew)).mono ?_); rintro e w4 ⟨rfl, b4⟩; have B4 := hide (show Below X.heap.size X w4 by first | exact below_sub (unhide B3) b4 | exact below_sub (unhide B3).drew b4 | exact below_sub (unhide B3).drew.drew b4); clear b4))
  all_goals
    clear a0 a1 a2 a3 a4 a5 b0 b1 b2 b3 b4 b5 c0 c1 c2 c3 c4 c5
    obtain ⟨a0, a1, a2, a3, a4, a5, b0, b1, b2, b3, b4, b5, c0, c1, c2, c3, c4, c5⟩ := unhide HKH w4 (unhide B4)
    go_upto_region 6 with (first
      | (go_at_call 20; refine (h4 _ (unhide B4)).mono ?_; rintro e w5 ⟨rfl, b5⟩; have B5 := hide (below_sub (unhide B4) b5); clear b5; obtain ⟨da0, da1, da2, da3, da4, da5, db0, db1, db2, db3, db4, db5, dc0, dc1, dc2, dc3, dc4, dc5⟩ := unhide HKH w5 (unhide B5))
      | (go_at_call 18; refine (h5 _ (unhide B5)).mono ?_; rintro e w6 ⟨rfl, b6⟩; have B6 := hide (below_sub (unhide B5) b6); clear b6))
    have BF := hide (below_sub (unhide BX) (unhide B6))
    clear a0 a1 a2 a3 a4 a5 b0 b1 b2 b3 b4 b5 c0 c1 c2 c3 c4 c5 da0 da1 da2 da3 da4 da5 db0 db1 db2 db3 db4 db5 dc0 dc1 dc2 dc3 dc4 dc5 h1 h2 h3 h4 h5 hF e1 e2 e3
    rcases unhide HCS with rfl | ⟨rfl, rfl⟩ | ⟨rfl, rfl⟩ | ⟨rfl, rfl, rfl⟩ | ⟨rfl, rfl, rfl⟩ | ⟨rfl, rfl, rfl⟩ | ⟨rfl, rfl, rfl⟩
    all_goals
      go_wp2
      go_ret
      exact ⟨rfl, unhide BF⟩
end Go.Proofs.YtimklglliffpcaaGreat

/- The statement's world after a crash. -/
import Derived.Test.YtfigjfmldpfjkaaGreatZan
import Derived.Test.YtfigjfmldpfjkaaGreatQC
import Derived.Deep.RegionWith
namespace Go.Proofs.YtfigjfmldpfjkaaGreat
open Go.RowKit Go.Sort Go.Shelf

section
variable {B P : Nat → Prop} {w w' : World} {gw d g : Nat} {j0 s0 : Option Nat} {r r' : Rk} {s : JS} {M A : Nat}
/-- What a call of the statement's world leaves, where it may have taken other disks. -/
def KX (B P : Nat → Prop) (w : World) (gw g : Nat) (s' : JS) (M A : Nat) (w' : World) : Prop := ∃ d' g', (g' = g ∨ w.heap.size ≤ g') ∧ KE B P w gw g d' g' s' M A w'
/-- The disk has crashed. -/
def C1 (B : Nat → Prop) (w : World) (s' : JS) (gf : Nat) (W : World) : Prop := ∃ N, w.heap.size ≤ N ∧ N ≤ W.heap.size ∧ JAt (· < N) W gf s' ∧ Kpt B w W
theorem C1.below {s' : JS} {gf : Nat} {W W' : World} (h : C1 B w s' gf W) (hb : Below W.heap.size W W') : C1 B w s' gf W' := by
  obtain ⟨N, h1, h2, h3, h4⟩ := h
  exact ⟨N, h1, Nat.le_trans h2 hb.size, h3.below hb, h4.trans (Kpt.of hb)⟩
/-- Both disks have crashed. -/
structure C2 (B : Nat → Prop) (w : World) (s' : JS) (gw g gf g' M : Nat) (W : World) : Prop where
  w1 : ∃ (W1 : World) (N : Nat), w.heap.size ≤ N ∧ N ≤ W1.heap.size ∧ g' = W1.heap.size ∧ JAt (· < N) W1 gf s' ∧ Kpt B w W1 ∧ W1.grownBy W (some g)
  rn : ∃ rn, RelJ s' rn M ∧ RAt (fun i => g' < i) W g' rn
theorem C2.below {s' : JS} {gf g' : Nat} {W W' : World} (h : C2 B w s' gw g gf g' M W) (hb : Below W.heap.size W W') : C2 B w s' gw g gf g' M W' := by
  obtain ⟨⟨W1, N, h1, h2, h3, h4, h5, h6⟩, rn, h7, h8⟩ := h
  refine ⟨⟨W1, N, h1, h2, h3, h4, h5, hb.os.trans h6.os, hb.tape.trans h6.tape, hb.output.trans h6.output, Nat.le_trans h6.size hb.size, fun i hi hn => (hb.block i (Nat.lt_of_lt_of_le hi h6.size)).trans (h6.block i hi hn)⟩, rn, h7, h8.below hb⟩
theorem C2.box {s' : JS} {gf g' : Nat} {W : World} (h : C2 B w s' gw g gf g' M W) (hk : KM B P w gw d g j0 s0 r) : W.heap[gw]? = some (.cells #[.pointer (some ⟨d, 0, none⟩), ptrO j0, .pointer (some ⟨g, 0, none⟩), ptrO s0] 34 (0, 0)) := by
  obtain ⟨⟨W1, N, h1, h2, h3, h4, h5, h6⟩, _⟩ := h
  have hwl := hk.lt
  exact (h6.block gw (by omega) (by intro e; injection e with e; exact hk.wg e)).trans ((h5.block gw hk.bw hk.lt).trans hk.box)
theorem C2.fin {s' : JS} {gf g' : Nat} {W W3 : World} (h : C2 B w s' gw g gf g' M W) (hk : KM B P w gw d g j0 s0 r) (hg : W.grownBy W3 (some gw)) (hb : W3.heap[gw]? = some (.cells #[.pointer (some ⟨gf, 0, none⟩), ptrO j0, .pointer (some ⟨g', 0, none⟩), ptrO s0] 34 (0, 0))) :
    w.heap.size ≤ g' ∧ ∃ B' P' rn, KM B' P' W3 gw gf g' j0 s0 rn ∧ JAt B' W3 gf s' ∧ RelJ s' rn M ∧ (∀ i, B i → B' i) ∧ Kpt (fun i => B i ∧ i ≠ g ∧ i ≠ gw) w W3 ∧ (∀ i, P' i → w.heap.size ≤ i) ∧ w.heap.size ≤ W3.heap.size ∧ W3.cell? ⟨gw, 3, none⟩ = w.cell? ⟨gw, 3, none⟩ := by
  obtain ⟨⟨W1, N, h1, h2, h3, h4, h5, h6⟩, rn, h7, h8⟩ := h
  have hwl := hk.lt
  have hgl := hk.gl
  have hgl2 : g' < W.heap.size := by obtain ⟨_, _, h9⟩ := h8; exact h9.glt
  refine ⟨by omega, moreB (· < N) W1 W, fun i => g' < i ∧ i < W.heap.size, rn, ⟨?_, hb, Or.inl (by omega), Or.inr ⟨by omega, hgl2⟩, fun i hi => Or.inr ⟨by omega, hi.2⟩, fun hi => by omega, by omega, ?_⟩, ?_, h7, fun i hi => Or.inl (Nat.lt_of_lt_of_le (hk.sub i hi) h1), ?_, fun i hi => by omega, Nat.le_trans h5.size (Nat.le_trans h6.size hg.size), (cellsW hb).1.2.2.2.trans (cellsW hk.box).1.2.2.2.symm⟩
  · exact (moreB_sub (fun i hi => Nat.lt_of_lt_of_le hi h2) h6.size).trans hg.size
  · obtain ⟨q, c, h9⟩ := h8
    refine ⟨q, c, (h9.mono (P' := fun i => g' < i ∧ i < W.heap.size) (fun i hi hl => ⟨hi, hl⟩) (fun h => by omega)).kept hg.size fun i hi hl => hg.block i hl ?_⟩
    intro e
    injection e with e
    rcases hi with hi | hi
    · omega
    · omega
  · exact (h4.wide h6 (show g < N by omega)).other hg (Or.inl (show gw < N by omega))
  · refine ⟨hg.os.trans (h6.os.trans h5.os), hg.tape.trans (h6.tape.trans h5.tape), hg.output.trans (h6.output.trans h5.output), Nat.le_trans h5.size (Nat.le_trans h6.size hg.size), fun i hi hl => ?_⟩
    have l1 := Nat.lt_of_lt_of_le hl h5.size
    exact (hg.block i (Nat.lt_of_lt_of_le l1 h6.size) (by intro e; injection e with e; exact hi.2.2 e)).trans ((h6.block i l1 (by intro e; injection e with e; exact hi.2.1 e)).trans (h5.block i hi.1 hl))
set_option maxHeartbeats 4000000 in
set_option maxRecDepth 100000 in
theorem wcrash_any (h : KM B P w gw d g j0 s0 r) (hd : JAt B w d s) (hr : RelJ s r M) (hs : Sz s M A) (h20 : 20 ≤ M) (hM : M ≤ 25000000000) (hA : A ≤ 5000) (p : Option Addr) (k : Nat) (cs : List Int) (hc : SlIn encI 1 (fun i => B i ∧ i ≠ g ∧ i ≠ gw) w p k cs) (hcl : cs.length ≤ 25000000000) :
    Calls Tryz.prog 28 #[.pointer (some ⟨gw, 0, none⟩), .slice p cs.length k] w fun e w' => e = .returned (.bool true) ∧ KX B P w gw g (openM (crashM s cs)).2 M 4 w' := by
  have hs1 := hs.1
  have hs2 := hs.2.1
  have hs3 := hs.2.2
  have hsz := sz_crash hs cs
  obtain ⟨s', hs'⟩ : ∃ s', crashM s cs = s' := ⟨_, rfl⟩
  have nbd : ¬ B d := by obtain ⟨n, _, m, _, q, c, hi⟩ := hd; exact hi.bg
  have h15 : ∀ W, Below w.heap.size w W → Calls Tryz.prog 15 #[.pointer (some ⟨d, 0, none⟩), .slice p cs.length k] W fun e V => ∃ gf, e = .returned (.pointer (some ⟨gf, 0, none⟩)) ∧ C1 B w s' gf V := fun W hb => by
    have hw := hd.below hb
    have hbs := hb.size
    have hcw := hc.kept hb.size fun i _ hl => hb.block i hl
    refine (crashJ_any hw (h.sub.trans hb.size) (by omega) (by omega) (by omega) p k cs hcw.1 (by omega) (fun h0 b off hq e => ?_)).mono ?_
    · exact nbd (e ▸ (hc.2 h0 _ hq).1)
    · rintro e V ⟨⟨gf, h1, h2⟩, _, h4⟩
      rw [hs'] at h2
      exact ⟨gf, h1, W.heap.size, hb.size, h4.size, h2, (Kpt.of hb).trans h4⟩
  have h54 : ∀ gf W1, C1 B w s' gf W1 → Calls Tryz.prog 54 #[.pointer (some ⟨g, 0, none⟩), .slice p cs.length k] W1 fun e V => ∃ g', e = .returned (.pointer (some ⟨g', 0, none⟩)) ∧ C2 B w s' gw g gf g' M V := fun gf W1 hc1 => by
    obtain ⟨N, h1, h2, h3, h4⟩ := hc1
    obtain ⟨q, c, hi⟩ := (h.prog h4).ref
    have hcw := hc.kept h4.size fun i hi' hl => h4.block i hi'.1 hl
    refine (rcrashJ hi hr (by omega) p k cs hcw.1 (fun h0 a ha => (hc.2 h0 a ha).2.1) (by omega)).mono ?_
    rintro e V ⟨h5, ⟨rn, h6, h7⟩, h8⟩
    rw [hs'] at h6
    exact ⟨_, h5, ⟨W1, N, h1, h2, rfl, h3, h4, h8⟩, rn, h6, h7⟩
  have hcells : ∀ gf W1, C1 B w s' gf W1 → (W1.cell? ⟨gw, 0, none⟩ = some (.pointer (some ⟨d, 0, none⟩)) ∧ W1.cell? ⟨gw, 1, none⟩ = some (ptrO j0) ∧ W1.cell? ⟨gw, 2, none⟩ = some (.pointer (some ⟨g, 0, none⟩)) ∧ W1.cell? ⟨gw, 3, none⟩ = some (ptrO s0)) ∧ ∀ o, W1.frozen? ⟨gw, o, none⟩ = false := fun gf W1 hc1 => by
    obtain ⟨N, h1, h2, h3, h4⟩ := hc1
    exact cellsW (h.prog h4).box
  have hcells2 : ∀ gf g' W2, C2 B w s' gw g gf g' M W2 → (W2.cell? ⟨gw, 0, none⟩ = some (.pointer (some ⟨d, 0, none⟩)) ∧ W2.cell? ⟨gw, 1, none⟩ = some (ptrO j0) ∧ W2.cell? ⟨gw, 2, none⟩ = some (.pointer (some ⟨g, 0, none⟩)) ∧ W2.cell? ⟨gw, 3, none⟩ = some (ptrO s0)) ∧ ∀ o, W2.frozen? ⟨gw, o, none⟩ = false := fun gf g' W2 hc2 => cellsW (hc2.box h)
  have hfin : ∀ gf g' W2 W3, C2 B w s' gw g gf g' M W2 → W3 = (W2.setCell ⟨gw, 0, none⟩ (.pointer (some ⟨gf, 0, none⟩))).setCell ⟨gw, 2, none⟩ (.pointer (some ⟨g', 0, none⟩)) → Calls Tryz.prog 8 #[.pointer (some ⟨gw, 0, none⟩)] W3 fun e w' => e = .returned (.bool true) ∧ KX B P w gw g (openM s').2 M 4 w' := fun gf g' W2 W3 hc2 e3 => by
    have k2 := heap_setCell_same W2 gw 0 _ 34 (.pointer (some ⟨gf, 0, none⟩)) (hc2.box h)
    have k3 := heap_setCell_same _ gw 2 _ 34 (.pointer (some ⟨g', 0, none⟩)) k2
    have hg3 : W2.grownBy W3 (some gw) := by rw [e3]; exact grown_trans (grown_set _ _ _ _) (grown_set _ _ _ _)
    rw [← e3] at k3
    obtain ⟨h1, B', P', rn, h2, h3, h4, h5, h6, h61, h62, h63⟩ := hc2.fin h hg3 k3
    rw [hs'] at hsz
    refine (wopen_any h2 h3 h4 hsz h20 hM (by omega)).mono ?_
    rintro e w' ⟨h7, B'', P'', h8, h9, h10, h11, h12⟩
    refine ⟨h7, gf, g', Or.inr h1, B'', P'', h8, fun i hi => h9 i (h5 i hi), (h6.mono fun i hi => ⟨hi.1, hi.2.1, hi.2.2.1⟩).trans (h10.mono fun i hi => ⟨h5 i hi.1, ?_, hi.2.2.1, fun e => hi.2.2.2 (h63 ▸ e)⟩), fun i hi => ?_, fun gs h20 => ?_⟩
    case refine_2 => exact Or.inr ((h11 i hi).elim (h61 i) (Nat.le_trans h62))
    case refine_3 => exact (h12 gs h20).elim (fun h => Or.inl (Nat.le_trans h62 h)) (fun h => Or.inr (h63 ▸ h))
    have := h.sub i hi.1
    omega
  rw [hs']
  obtain ⟨⟨c0, c1, c2, c3⟩, fz⟩ := cellsW h.box
  have H15 := hide h15
  have H54 := hide h54
  have HC1 := hide hcells
  have HC2 := hide hcells2
  have HFIN := hide hfin
  clear h hd hr hs hs1 hs2 hs3 hsz hs' nbd h15 h54 hcells hcells2 hfin hc
  go_enter Tryz.func28, Tryz.ntmps28
  go_wp2_with fail
  go_region_with (first
    | (go_at_call 15; refine (unhide H15 _ (by first | exact Below.refl _ _ | exact (Below.refl _ _).drew | exact (Below.refl _ _).drew.drew | exact (Below.refl _ _).drew.drew.drew)).mono ?_; rintro e w1 ⟨gf, rfl, x1⟩; have X1 := hide x1; (obtain ⟨⟨c0, c1, c2, c3⟩, fz⟩ := unhide HC1 _ _ x1); clear x1)
    | (go_at_call 54; refine (unhide H54 gf _ (by first | exact unhide X1 | exact (unhide X1).below (Below.refl _ _).drew | exact (unhide X1).below (Below.refl _ _).drew.drew)).mono ?_; rintro e w2 ⟨g2, rfl, x2⟩; have X2 := hide x2; (obtain ⟨⟨c0, c1, c2, c3⟩, fz⟩ := unhide HC2 _ _ _ x2); have f0 := fz 0; have f2 := fz 2; clear x2))
  all_goals
    go_wp2_with (go_at_call 8; refine (unhide HFIN gf g2 _ _ (by first | exact unhide X2 | exact (unhide X2).below (Below.refl _ _).drew | exact (unhide X2).below (Below.refl _ _).drew.drew) rfl).mono ?_; rintro e w9 ⟨rfl, x9⟩; have X9 := hide x9; clear x9)
    go_ret
    exact ⟨rfl, unhide X9⟩
end
end Go.Proofs.YtfigjfmldpfjkaaGreat

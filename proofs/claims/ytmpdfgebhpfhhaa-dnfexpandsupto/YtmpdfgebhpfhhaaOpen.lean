/- What the rows list of the library's variables gives the walks of the tree layer; how lists and predicates among the arguments are opened. -/
import Derived.Test.YtmpdfgebhpfhhaaMemNode
import Derived.Test.YtmpdfgebhpfhhaaKept
import Derived.Test.YtmpdfgebhpfhhaaLeaves
import Derived.Lib.QuietBelow
import Derived.BigQuiet
import Derived.Shelf.Abstract
import Derived.Test.YtmpdfgebhpfhhaaDnfFixed
import Derived.Test.YtmpdfgebhpfhhaaDnfRefExp
import Derived.Test.YtmpdfgebhpfhhaaRefSums
import Derived.Test.YtmpdfgebhpfhhaaMemNodeAt
import Derived.Test.YtmpdfgebhpfhhaaClone
import Derived.ProofKit
import Derived.LaidMore
import Derived.OpenShut
import Derived.Stop.Joined
import Derived.Stop.LaidErr
import Derived.Deep.Slices
import Derived.Deep.Strs
import Derived.Deep.DeepHandedRow
import Derived.Deep.DeepWitnessRowRef
import Derived.Lib.SmallJoins
import Derived.Lib.LaidTab
import Derived.SizedLaws
namespace Go.Proofs.Ytmpdfgebhpfhhaa
open Go.RowKit Go.Sort

theorem spAt {w : World} {g : Nat} {l : List Nv} {j : Nat} {v : Nv} (h : LsOf encV 8 w (some ⟨g, 0, none⟩) l) (hj : l[j]? = some v) : g < w.heap.size ∧ w.cell? ⟨g, j * 8, none⟩ = some (.int .i64 v.kind) ∧ w.cell? ⟨g, j * 8 + 1, none⟩ = some (.string v.attr) ∧ w.cell? ⟨g, j * 8 + 2, none⟩ = some (.slice v.qi v.ni v.ci) ∧ w.cell? ⟨g, j * 8 + 3, none⟩ = some (.slice v.qw v.nw v.cw) ∧ w.cell? ⟨g, j * 8 + 4, none⟩ = some (.int .i64 v.lo) ∧ w.cell? ⟨g, j * 8 + 5, none⟩ = some (.int .i64 v.hi) ∧ w.cell? ⟨g, j * 8 + 6, none⟩ = some (.int .i64 v.op) ∧ w.cell? ⟨g, j * 8 + 7, none⟩ = some (.slice v.qk v.nk v.ck) := by
  obtain ⟨b, off, hq, hB, hc⟩ := h.at hj
  cases hq
  have := cells8 hc
  simp only [Nat.zero_add] at this
  exact ⟨hB, this⟩
def KeptP (x : Nd) : Prop := ∀ (B : Nat) (v v' : Nv) (w : World), SpIn w B v x → NdIn w v' x → wtN x ≤ 1000000000 → Calls Try.prog 9 #[v.val, v'.val] w fun e w' => e = .returned (.bool true) ∧ Below w.heap.size w w'
set_option maxRecDepth 100000 in
set_option maxHeartbeats 4000000 in
theorem kept_at (kind : Int) (attr : ByteArray) (ints : List Int) (words : List ByteArray) (lo hi op : Int) (kids : List Nd) (B g1 k1 g2 k2 g3 k3 : Nat) (vs : List Nv) (qi : Option Addr) (ci : Nat) (qw : Option Addr) (cw : Nat) (qk : Option Addr) (ck : Nat) (w : World)
    (s1 : LsOf encI 1 w (some ⟨g1, 0, none⟩) (ints ++ spI)) (r1 : ints.length + 2 ≤ k1) (z1 : k1 ≤ maxLen) (t1 : LsOf encS 1 w (some ⟨g2, 0, none⟩) (words ++ spS)) (r2 : words.length + 2 ≤ k2) (z2 : k2 ≤ maxLen) (u1 : LsOf encV 8 w (some ⟨g3, 0, none⟩) (vs ++ [spV])) (r3 : kids.length + 1 ≤ k3) (_ : k3 ≤ maxLen) (hl : vs.length = kids.length) (hs : ∀ (j : Nat) (v : Nv) (x : Nd), vs[j]? = some v → kids[j]? = some x → SpIn w B v x)
    (s2 : SlOf encI 1 w qi ci ints) (t2 : SlOf encS 1 w qw cw words) (n2 : NdsOf w qk ck kids) (ih : ∀ x ∈ kids, KeptP x) (l1 : ints.length ≤ 1000000000) (l2 : words.length ≤ 1000000000) (l3 : wtL kids ≤ 1000000000) :
    Calls Try.prog 9 #[.agg #[.int .i64 kind, .string attr, .slice (some ⟨g1, 0, none⟩) ints.length k1, .slice (some ⟨g2, 0, none⟩) words.length k2, .int .i64 lo, .int .i64 hi, .int .i64 op, .slice (some ⟨g3, 0, none⟩) kids.length k3], .agg #[.int .i64 kind, .string attr, .slice qi ints.length ci, .slice qw words.length cw, .int .i64 lo, .int .i64 hi, .int .i64 op, .slice qk kids.length ck]] w fun e w' => e = .returned (.bool true) ∧ Below w.heap.size w w' := by
  have hlen := Nat.le_trans (Nat.le_trans (len_size kids) (sizeL_wt kids)) l3
  obtain ⟨X, HX⟩ : ∃ X, (w.alloc (.cells #[.int .i64 kind, .string attr, .slice (some ⟨g1, 0, none⟩) ints.length k1, .slice (some ⟨g2, 0, none⟩) words.length k2, .int .i64 lo, .int .i64 hi, .int .i64 op, .slice (some ⟨g3, 0, none⟩) kids.length k3] 28)).alloc (.cells #[.int .i64 kind, .string attr, .slice qi ints.length ci, .slice qw words.length cw, .int .i64 lo, .int .i64 hi, .int .i64 op, .slice qk kids.length ck] 28) = X := ⟨_, rfl⟩
  obtain ⟨hX0, hX1, hwX, hXs⟩ := twoM HX
  obtain ⟨x0, x1, x2, x3, x4, x5, x6, x7⟩ := of8' hX0
  obtain ⟨y0, y1, y2, y3, y4, y5, y6, y7⟩ := of8' hX1
  have HX0 := hide hX0
  have HX1 := hide hX1
  have HWX := hide hwX
  have eq0 : (op != op) = false := by simp
  have eq1 : ((kids.length : Int) != (kids.length : Int)) = false := by simp
  have a0 : (kids.length : Int) ≤ 1000000000 := by omega
  have a1 : (0 : Int) ≤ (kids.length : Int) := by omega
  have a2 : (kids.length : Int) + 1 ≤ (k3 : Int) := by omega
  have a3 : (kids.length : Int) < (kids.length : Int) + 1 := by omega
  have c0 := keptPred_any kind attr ints words lo hi g1 k1 g2 k2 qi ci qw cw X (s1.below hwX) r1 z1 (s2.below hwX) (t1.below hwX) r2 z2 (t2.below hwX) (by omega) (by omega)
  have U1 := hide u1
  have N2 := hide n2
  have IH := hide ih
  have HS := hide hs
  have HL := hide hl
  have mixed : Try.prog.follows .mixedOrders = true := by kernel_rfl
  have en20 : ∀ args w, (callFunc 9 args).run Try.prog w = .ok (.enter 9 args) w := enters_of Try.func9 (by kernel_rfl) rfl
  clear hwX hX0 hX1 s1 s2 t1 t2 n2 u1 hs ih hl
  go_enter Try.func9, Try.ntmps9
  go_wp2_with (go_at_call 26; refine c0.mono ?_; rintro e u1 ⟨rfl, b1⟩; obtain ⟨d0, d1, d2, d3, d4, d5, d6, d7⟩ := of8' ((b1.block _ (heap_lt (unhide HX0))).trans (unhide HX0)); obtain ⟨e0, e1, e2, e3, e4, e5, e6, e7⟩ := of8' ((b1.block _ (heap_lt (unhide HX1))).trans (unhide HX1)); obtain ⟨gl, p0, p1, p2, p3, p4, p5, p6, p7⟩ := spAt (j := kids.length) (v := spV) ((unhide U1).below (below_sub (unhide HWX) b1)) (by rw [List.getElem?_append_right (by have := unhide HL; omega), unhide HL, Nat.sub_self]; rfl); simp only [spV] at p6; have B1 := hide b1; clear b1 p0 p1 p2 p3 p4 p5 p7)
  go_loopw [47] (fun i wr => ∃ k : Nat, k ≤ kids.length ∧ i = .int .i64 k ∧ Below X.heap.size X wr) (fun i _ => kids.length - (intOf i).toNat)
  case atStart => exact ⟨0, by omega, rfl, unhide B1⟩
  case round =>
    obtain ⟨k, hk, rfl, hbel⟩ := hrel
    clear d0 d1 d2 d3 d4 d5 d6 d7 e0 e1 e2 e3 e4 e5 e6 e7 x0 x1 x2 x3 x4 x5 x6 x7 y0 y1 y2 y3 y4 y5 y6 y7 p6
    obtain ⟨f0, f1, f2, f3, f4, f5, f6, f7⟩ := of8' ((hbel.block _ (heap_lt (unhide HX0))).trans (unhide HX0))
    obtain ⟨j0, j1, j2, j3, j4, j5, j6, j7⟩ := of8' ((hbel.block _ (heap_lt (unhide HX1))).trans (unhide HX1))
    have HB := hide hbel
    by_cases hlt : k < kids.length
    · obtain ⟨y, hy, _⟩ := get_at hlt
      obtain ⟨v1, hv1, _⟩ := get_at (l := vs) (k := k) (by have := unhide HL; omega)
      have hw := below_sub (unhide HWX) hbel
      obtain ⟨gl2, q0, q1, q2, q3, q4, q5, q6, q7⟩ := spAt (j := k) (v := v1) ((unhide U1).below hw) (by rw [List.getElem?_append_left (by have := unhide HL; omega)]; exact hv1)
      obtain ⟨b', off', v2, hq', hb', hin2, z0, z1, z2, z3, z4, z5, z6, z7⟩ := (unhide N2).cells hy hw
      subst hq'
      have hin1 := (unhide HS k v1 y hv1 hy).keep hw
      have ki0 : (0 : Int) ≤ (k : Int) := by omega
      have ki1 : (k : Int) < (kids.length : Int) := by omega
      have hxm : y ∈ kids := List.mem_of_getElem? hy
      have q20 := fun (n : Nat) (os : Array Obj) => unhide IH y hxm B v1 v2 (grow (redrawn wr n) os) (hin1.keep (below_regrown wr n os)) (hin2.keep (below_regrown wr n os)) (Nat.le_trans (wtL_mem hxm) l3)
      simp only [Nv.val] at q20
      have F7 : ∀ n os, (grow (redrawn wr n) os).cell? ⟨w.heap.size, 7, none⟩ = some _ := cell_regrown f7
      have J7 : ∀ n os, (grow (redrawn wr n) os).cell? ⟨w.heap.size + 1, 7, none⟩ = some _ := cell_regrown j7
      have G0 : ∀ n os, (grow (redrawn wr n) os).cell? ⟨g3, k * 8, none⟩ = some _ := cell_regrown q0
      have G1 : ∀ n os, (grow (redrawn wr n) os).cell? ⟨g3, k * 8 + 1, none⟩ = some _ := cell_regrown q1
      have G2 : ∀ n os, (grow (redrawn wr n) os).cell? ⟨g3, k * 8 + 2, none⟩ = some _ := cell_regrown q2
      have G3 : ∀ n os, (grow (redrawn wr n) os).cell? ⟨g3, k * 8 + 3, none⟩ = some _ := cell_regrown q3
      have G4 : ∀ n os, (grow (redrawn wr n) os).cell? ⟨g3, k * 8 + 4, none⟩ = some _ := cell_regrown q4
      have G5 : ∀ n os, (grow (redrawn wr n) os).cell? ⟨g3, k * 8 + 5, none⟩ = some _ := cell_regrown q5
      have G6 : ∀ n os, (grow (redrawn wr n) os).cell? ⟨g3, k * 8 + 6, none⟩ = some _ := cell_regrown q6
      have G7 : ∀ n os, (grow (redrawn wr n) os).cell? ⟨g3, k * 8 + 7, none⟩ = some _ := cell_regrown q7
      have Z0 : ∀ n os, (grow (redrawn wr n) os).cell? ⟨b', off' + k * 8, none⟩ = some _ := cell_regrown z0
      have Z1 : ∀ n os, (grow (redrawn wr n) os).cell? ⟨b', off' + k * 8 + 1, none⟩ = some _ := cell_regrown z1
      have Z2 : ∀ n os, (grow (redrawn wr n) os).cell? ⟨b', off' + k * 8 + 2, none⟩ = some _ := cell_regrown z2
      have Z3 : ∀ n os, (grow (redrawn wr n) os).cell? ⟨b', off' + k * 8 + 3, none⟩ = some _ := cell_regrown z3
      have Z4 : ∀ n os, (grow (redrawn wr n) os).cell? ⟨b', off' + k * 8 + 4, none⟩ = some _ := cell_regrown z4
      have Z5 : ∀ n os, (grow (redrawn wr n) os).cell? ⟨b', off' + k * 8 + 5, none⟩ = some _ := cell_regrown z5
      have Z6 : ∀ n os, (grow (redrawn wr n) os).cell? ⟨b', off' + k * 8 + 6, none⟩ = some _ := cell_regrown z6
      have Z7 : ∀ n os, (grow (redrawn wr n) os).cell? ⟨b', off' + k * 8 + 7, none⟩ = some _ := cell_regrown z7
      clear hin1 hin2 hw f0 f1 f2 f3 f4 f5 f6 j0 j1 j2 j3 j4 j5 j6 q0 q1 q2 q3 q4 q5 q6 q7 z0 z1 z2 z3 z4 z5 z6 z7 hv1 hy hbel hxm
      go_wp2
      refine wp_region_quiet_below (by assumption) (by kernel_rfl) ?_
      repeat (go_big_quiet_step (first
        | (go_at_fn 9; refine Calls.regrown_of (q20 _ _))))
      refine wpQuiet_nil ?_
      intro _ hw'
      obtain ⟨⟨dq, osq⟩, hw''⟩ := hw'
      subst hw''
      go_wp2
      exact ⟨⟨k + 1, by omega, congrArg (Value.int .i64) (by omega), below_sub (unhide HB) (below_regrown _ _ _)⟩, by simp [intOf]; omega⟩
    · have ki1 : ¬ (k : Int) < (kids.length : Int) := by omega
      go_wp2
      go_ret
      exact ⟨rfl, below_sub (unhide HWX) (unhide HB)⟩
theorem kept_any : ∀ x, KeptP x := by
  intro x
  induction x using Nd.ind with
  | h kind attr ints words lo hi op kids ih =>
    intro B v v' w hsp hin hwt
    obtain ⟨qi, ci, qw, cw, qk, ck, rfl, h1, h2, hk⟩ := hin.parts
    simp only [wtN] at hwt
    have hwl := words_len words
    cases hsp with
    | mk a1 a2 a3 b1 b2 b3 c1 c2 c3 hl hr d1 d2 d3 => exact kept_at kind attr ints words lo hi op kids B _ _ _ _ _ _ _ qi ci qw cw qk ck w a1 a2 a3 b1 b2 b3 c1 c2 c3 hl hr h1 h2 hk ih (by omega) (by omega) (by omega)
end Go.Proofs.Ytmpdfgebhpfhhaa
namespace Go.Proofs.Ytmpdfgebhpfhhaa
open Go.RowKit Go.Sort

theorem exp_small (t : Nd) (m : Int) (hwt : wtN t ≤ 100000000) : (∀ ls ∈ expC t m, litBound ls ∧ ls.length ≤ 1000000000) ∧ (expC t m).length ≤ 1000000000 := by
  by_cases h : expE t m = 0
  · obtain ⟨hc, h1, h2, h3, _, h5⟩ := exp_yes h
    rw [h5]
    have hw := wt_down t false hc
    refine ⟨fun ls hl => ?_, by omega⟩
    obtain ⟨a, b⟩ := cj_small _ ls hl
    exact ⟨fun l hm => ⟨by have := (b l hm).1; omega, by have := (b l hm).2; omega⟩, by omega⟩
  · rw [exp_none h]
    exact ⟨fun ls hl => by simp at hl, by simp⟩
set_option maxRecDepth 100000 in
set_option maxHeartbeats 8000000 in
theorem dnfExpands_any (t : Nd) (v : Nv) (m : Int) (w : World) (hin : NdIn w v t) (hwt : wtN t ≤ 100000000) :
    Calls Try.prog 3 #[v.val, .int .i64 m] w fun e w' => e = .returned (.bool true) ∧ Below w.heap.size w w' := by
  obtain ⟨X, HX⟩ : ∃ X, w.alloc (.cells #[.int .i64 v.kind, .string v.attr, .slice v.qi v.ni v.ci, .slice v.qw v.nw v.cw, .int .i64 v.lo, .int .i64 v.hi, .int .i64 v.op, .slice v.qk v.nk v.ck] 28) = X := ⟨_, rfl⟩
  have bX : Below w.heap.size w X := by rw [← HX]; exact (Below.refl _ _).alloc (Nat.le_refl _) _
  have x8 : X.heap[w.heap.size]? = some (.cells #[.int .i64 v.kind, .string v.attr, .slice v.qi v.ni v.ci, .slice v.qw v.nw v.cw, .int .i64 v.lo, .int .i64 v.hi, .int .i64 v.op, .slice v.qk v.nk v.ck] 28 (0, 0)) := by rw [← HX]; exact box_nw _ _
  obtain ⟨c0, c1, c2, c3, c4, c5, c6, c7⟩ := of8' x8
  have hlt8 := heap_lt x8
  have X8 := hide x8
  have BX := hide bX
  have HIN := hide (hin.keep bX)
  have hfx := fixed8_any X
  have hM := hide (fun (W : World) (hW : Below X.heap.size X W) => node_any t v W ((unhide HIN).keep hW) (by omega))
  have hE := hide (fun (u : Nv) (W : World) (hu : NdIn W u t) => expand_any t m u W hu (by omega))
  have hR := hide (fun (W : World) (hW : Below X.heap.size X W) => refExp_any t m v W ((unhide HIN).keep hW) (by omega))
  have hK := hide (fun (B : Nat) (u : Nv) (W : World) (hs : SpIn W B u t) (hW : Below X.heap.size X W) => kept_any t B u v W hs ((unhide HIN).keep hW) (by omega))
  obtain ⟨hs1, hs2⟩ := exp_small t m hwt
  have hS := hide (fun (q : Option Addr) (c : Nat) (q' : Option Addr) (c' : Nat) (W : World) (h1 : CjsOf W q c (expC t m)) (h2 : CjsOf W q' c' (expC t m)) => sameCj_eq q c q' c' (expC t m) W h1 h2 hs1 hs2)
  obtain ⟨CC, hCC⟩ : ∃ CC, expC t m = CC := ⟨_, rfl⟩
  obtain ⟨EE, hEE⟩ : ∃ EE, expE t m = EE := ⟨_, rfl⟩
  rw [hCC, hEE] at hE hR
  rw [hCC] at hS
  simp only [Nv.val] at hM hE hR hK ⊢
  clear hin bX x8 hs1 hs2 hCC hEE
  go_enter Try.func3, Try.ntmps3
  go_wp2_with (first
    | (go_at_call 4; refine hfx.mono ?_; rintro e w1 ⟨rfl, b1⟩; (obtain ⟨d0, d1, d2, d3, d4, d5, d6, d7⟩ := of8' ((b1.block _ hlt8).trans (unhide X8))); have B1 := hide b1; clear b1)
    | (go_at_call 5; refine (unhide hM _ (unhide B1)).mono ?_; rintro e w2 ⟨⟨u, rfl, hu⟩, b2⟩; simp only; have HU := hide hu; have B2 := hide (below_sub (unhide B1) b2); clear hu b2; have oY := (Below.refl w2.heap.size w2).alloc (Nat.le_refl _) (.cells #[.int .i64 u.kind, .string u.attr, .slice u.qi u.ni u.ci, .slice u.qw u.nw u.cw, .int .i64 u.lo, .int .i64 u.hi, .int .i64 u.op, .slice u.qk u.nk u.ck] 28); have OY := hide oY; have hNY := hide ((unhide HU).keep oY); have yb := box_nw w2 (.cells #[.int .i64 u.kind, .string u.attr, .slice u.qi u.ni u.ci, .slice u.qw u.nw u.cw, .int .i64 u.lo, .int .i64 u.hi, .int .i64 u.op, .slice u.qk u.nk u.ck] 28); (obtain ⟨y0, y1, y2, y3, y4, y5, y6, y7⟩ := of8' yb); have YB := hide yb; clear oY yb)
    | (go_at_call 6; refine (unhide hE u _ (unhide hNY).toIn).mono ?_; rintro e w3 ⟨⟨q3, k3, rfl, cj3⟩, b3⟩; simp only; have HC3 := hide cj3.of; have B3 := hide b3; have hy3 : w2.heap.size < w3.heap.size := Nat.lt_of_lt_of_le (by simp) b3.size; have BB3 := hide (below_sub (unhide B2) (below_sub (unhide OY) b3)); (obtain ⟨f0, f1, f2, f3, f4, f5, f6, f7⟩ := of8' (((unhide BB3).block _ hlt8).trans (unhide X8))); have YB3 := hide ((b3.block w2.heap.size (by simp)).trans (unhide YB)); have SP3 := hide ((unhide hNY).keep b3); clear cj3 b3)
    | (go_at_call 7; refine (unhide hR _ (unhide BB3)).mono ?_; rintro e w4 ⟨⟨q4, k4, rfl, cj4⟩, b4⟩; simp only; have B4 := hide b4; have HC4 := hide cj4; have HC34 := hide ((unhide HC3).below b4); have hS4 := unhide hS q3 k3 q4 k4 w4 (unhide HC34) cj4; have YB4 := hide ((b4.block w2.heap.size hy3).trans (unhide YB3)); have BB4 := hide (below_sub (unhide BB3) b4); have SP4 := hide ((unhide SP3).keep b4); have s4 := b4.size; clear cj4 b4)
    | (go_at_call 8; refine hS4.mono ?_; rintro e w5 ⟨rfl, b5⟩; have BB5 := hide (below_sub (unhide BB4) b5); (obtain ⟨g0, g1, g2, g3, g4, g5, g6, g7⟩ := of8' ((b5.block w2.heap.size (by omega)).trans (unhide YB4))); (obtain ⟨i0, i1, i2, i3, i4, i5, i6, i7⟩ := of8' (((unhide BB5).block _ hlt8).trans (unhide X8))); have hK5 := unhide hK _ u w5 ((unhide SP4).keep b5) (unhide BB5); clear b5)
    | (go_at_call 9; refine hK5.mono ?_; rintro e w6 ⟨rfl, b6⟩; have BB6 := hide (below_sub (unhide BB5) b6); clear b6))
  go_ret
  exact ⟨ret_bool (by simp), below_sub (unhide BX) (unhide BB6)⟩
end Go.Proofs.Ytmpdfgebhpfhhaa
namespace Go.Proofs.Ytmpdfgebhpfhhaa
open Go.ChangeShapes Go.WideShapes Go.ChangeAt Go.RowKit Go.Joins

theorem Try.laidOut : laidOutB Try.prog = true := by kernel_rfl
theorem Try.own : ownKnob Try.prog.godebug = none := by kernel_rfl
theorem Try.cells3 : Try.prog.cellsOf 3 = 1 := by kernel_rfl
theorem Try.cells9 : Try.prog.cellsOf 9 = 1 := by kernel_rfl
theorem Try.cells22 : Try.prog.cellsOf 22 = 1 := by kernel_rfl
theorem Try.cells23 : Try.prog.cellsOf 23 = 1 := by kernel_rfl
theorem Try.cells25 : Try.prog.cellsOf 25 = 6 := by kernel_rfl
theorem cell_spot {w : World} {a : Addr} {v : Value} (h : w.cell? a = some v) : a.spot = Option.none ∧ a.block < w.heap.size := by
  unfold World.cell? at h
  split at h
  · next hc =>
    refine ⟨?_, (Array.getElem?_eq_some_iff.1 hc).1⟩
    split at h
    · cases h
    · next hs => simpa using hs
  · cases h
theorem range_at {α : Type} {f : Nat → α} {n j : Nat} {x : α} (h : ((List.range n).map f)[j]? = some x) : j < n ∧ x = f j := by
  obtain ⟨hj, e⟩ := List.getElem?_eq_some_iff.1 h
  simp at hj e
  exact ⟨hj, e.symm⟩
/-- The cells of a row, one by one. -/
theorem flat_get {α : Type} [Inhabited α] {enc : α → List Value} {k : Nat} (hk : 0 < k) {l : List α} {j : Nat} {u : Value} (h : (Sort.flatK enc k l.toArray).toList[j]? = some u) : ∃ x, l[j / k]? = some x ∧ u = (enc x)[j % k]! := by
  have hs := (List.getElem?_eq_some_iff.1 h).1
  have hlt : j < l.length * k := by simpa using hs
  have hq : j / k < l.length := (Nat.div_lt_iff_lt_mul hk).2 hlt
  obtain ⟨x, hx, _⟩ := get_at hq
  have h2 := flat_at (enc := enc) (k := k) hx (j % k) (Nat.mod_lt _ hk)
  rw [show j / k * k + j % k = j from by rw [Nat.mul_comm]; exact Nat.div_add_mod j k, h] at h2
  exact ⟨x, hx, Option.some.inj h2⟩
theorem dec_int {H : Type} {enc : TypeId × Value → H} {W : World} {base : Nat} {sp : Nat → Bool} {held : Bool} (fuel : Nat) (cs : List Value) (x : DataW H × List MemPlace) (h : DataW.trod enc Try.prog W base sp held fuel 3 cs = some x) (_ : cs.length = 1) : ∃ y : Int, ∀ c, c < 1 → cs[c]? = some ((encI y)[c]!) := by
  obtain ⟨a, e0, _, _⟩ := DataW.trod_int Try.underlying3 h
  exact ⟨a, fun c hc => by
    have h0 : c = 0 := (by omega)
    rw [h0, e0]; rfl⟩
theorem trod_six {H : Type} {enc : TypeId × Value → H} {P : Program} {w : World} {base : Nat} {spare : Nat → Bool} {held : Bool} {t : TypeId} {f0 f1 f2 f3 f4 f5 : Field} {fuel : Nat} {cs : List Value} {x : DataW H × List MemPlace} (ht : P.underlying t = some (.struct #[f0, f1, f2, f3, f4, f5])) (h : DataW.trod enc P w base spare held fuel t cs = some x) :
    ∃ y0 y1 y2 y3 y4 y5 n, x.1 = .agg [y0.1, y1.1, y2.1, y3.1, y4.1, y5.1] ∧ DataW.trod enc P w base spare held n f0.type ((cs.drop f0.offset).take (P.cellsOf f0.type)) = some y0 ∧ DataW.trod enc P w base spare held n f1.type ((cs.drop f1.offset).take (P.cellsOf f1.type)) = some y1 ∧ DataW.trod enc P w base spare held n f2.type ((cs.drop f2.offset).take (P.cellsOf f2.type)) = some y2 ∧ DataW.trod enc P w base spare held n f3.type ((cs.drop f3.offset).take (P.cellsOf f3.type)) = some y3 ∧ DataW.trod enc P w base spare held n f4.type ((cs.drop f4.offset).take (P.cellsOf f4.type)) = some y4 ∧ DataW.trod enc P w base spare held n f5.type ((cs.drop f5.offset).take (P.cellsOf f5.type)) = some y5 := by
  obtain ⟨xs, n, _, rfl, hl, hlen, hf⟩ := DataW.trod_struct ht h
  match xs, hlen with
  | [y0, y1, y2, y3, y4, y5], _ => exact ⟨y0, y1, y2, y3, y4, y5, n, by simp, by simpa using hf 0 f0 rfl, by simpa using hf 1 f1 rfl, by simpa using hf 2 f2 rfl, by simpa using hf 3 f3 rfl, by simpa using hf 4 f4 rfl, by simpa using hf 5 f5 rfl⟩
end Go.Proofs.Ytmpdfgebhpfhhaa

/- The reference's nth of any pushed tree, and its Expand. -/
import Derived.Test.YtmpdfgebhpfhhaaRefDown
import Derived.Test.YtmpdfgebhpfhhaaDnfNth
import Derived.Test.YtmpdfgebhpfhhaaDnfNthAnd
namespace Go.Proofs.Ytmpdfgebhpfhhaa
open Go.RowKit Go.Sort

set_option maxRecDepth 100000 in
set_option maxHeartbeats 4000000 in
theorem rdown_not (kind : Int) (attr : ByteArray) (qi : Option Addr) (ci : Nat) (ints : List Int) (qw : Option Addr) (cw : Nat) (words : List ByteArray) (lo hi : Int) (qk : Option Addr) (ck : Nat) (x : Nd) (neg : Bool) (w0 w : World) (hk : NdsOf w0 qk ck [x]) (hb0 : Below w0.heap.size w0 w) (ih : RDownP x) (hc : chkN x = true) (l3 : wtN x ≤ 1000000000) :
    Calls Try.prog 45 #[.agg #[.int .i64 kind, .string attr, .slice qi ints.length ci, .slice qw words.length cw, .int .i64 lo, .int .i64 hi, .int .i64 2, .slice qk 1 ck], .bool neg] w fun e w' => (∃ u, e = .returned u.val ∧ Foot w0.heap.size w.heap.size w' u (downN x (!neg))) ∧ Below w.heap.size w w' := by
  obtain ⟨X, HX⟩ : ∃ X, (w.alloc (.cells #[.int .i64 kind, .string attr, .slice qi ints.length ci, .slice qw words.length cw, .int .i64 lo, .int .i64 hi, .int .i64 2, .slice qk 1 ck] 28)).alloc (.cells #[.int .i64 0, .string ⟨#[]⟩, .slice none 0 0, .slice none 0 0, .int .i64 0, .int .i64 0, .int .i64 0, .slice none 0 0] 28) = X := ⟨_, rfl⟩
  obtain ⟨hX0, hX1, hwX, hXs⟩ := twoM HX
  obtain ⟨x0, x1, x2, x3, x4, x5, x6, x7⟩ := of8' hX0
  obtain ⟨y0, y1, y2, y3, y4, y5, y6, y7⟩ := of8' hX1
  have yf : ∀ o, X.frozen? ⟨w.heap.size + 1, o, none⟩ = false := fun o => frozen_free hX1
  have hz1 : w.heap.size + 1 < X.heap.size := by omega
  have HWX := hide hwX
  obtain ⟨b, off, v, hq, hbb, hin, g0, g1, g2, g3, g4, g5, g6, g7⟩ := hk.at (j := 0) (x := x) rfl
  subst hq
  simp only [Nat.zero_mul, Nat.add_zero] at g0 g1 g2 g3 g4 g5 g6 g7
  have b0X := below_sub hb0 hwX
  have k0 := (b0X.cell (p := ⟨b, off, none⟩) hbb).trans g0
  have k1 := (b0X.cell (p := ⟨b, off + 1, none⟩) hbb).trans g1
  have k2 := (b0X.cell (p := ⟨b, off + 2, none⟩) hbb).trans g2
  have k3 := (b0X.cell (p := ⟨b, off + 3, none⟩) hbb).trans g3
  have k4 := (b0X.cell (p := ⟨b, off + 4, none⟩) hbb).trans g4
  have k5 := (b0X.cell (p := ⟨b, off + 5, none⟩) hbb).trans g5
  have k6 := (b0X.cell (p := ⟨b, off + 6, none⟩) hbb).trans g6
  have k7 := (b0X.cell (p := ⟨b, off + 7, none⟩) hbb).trans g7
  have hL := ih (!neg) v w0 X hin b0X hc l3
  simp only [Nv.val] at hL
  have h00 := hb0.size
  clear hk ih hwX hX0 hX1 hin g0 g1 g2 g3 g4 g5 g6 g7 b0X hb0
  go_enter Try.func45, Try.ntmps45
  go_wp2_with (go_at_call 45; refine hL.mono ?_; rintro e w1 ⟨⟨u, rfl, hu⟩, b1⟩; simp only; obtain ⟨r0, r1, r2, r3, r4, r5, r6, r7⟩ : w1.cell? ⟨w.heap.size + 1, 0, none⟩ = some (.int .i64 0) ∧ w1.cell? ⟨w.heap.size + 1, 1, none⟩ = some (.string ⟨#[]⟩) ∧ w1.cell? ⟨w.heap.size + 1, 2, none⟩ = some (.slice none 0 0) ∧ w1.cell? ⟨w.heap.size + 1, 3, none⟩ = some (.slice none 0 0) ∧ w1.cell? ⟨w.heap.size + 1, 4, none⟩ = some (.int .i64 0) ∧ w1.cell? ⟨w.heap.size + 1, 5, none⟩ = some (.int .i64 0) ∧ w1.cell? ⟨w.heap.size + 1, 6, none⟩ = some (.int .i64 0) ∧ w1.cell? ⟨w.heap.size + 1, 7, none⟩ = some (.slice none 0 0) := ⟨(b1.cell (by exact hz1)).trans y0, (b1.cell (by exact hz1)).trans y1, (b1.cell (by exact hz1)).trans y2, (b1.cell (by exact hz1)).trans y3, (b1.cell (by exact hz1)).trans y4, (b1.cell (by exact hz1)).trans y5, (b1.cell (by exact hz1)).trans y6, (b1.cell (by exact hz1)).trans y7⟩; have rf : ∀ o, w1.frozen? ⟨w.heap.size + 1, o, none⟩ = false := (fun o => (b1.frozen (by exact hz1)).trans (yf o)); have rz : w.heap.size + 1 < w1.heap.size := (by have := b1.size; omega); have HU := hide hu; have B1 := hide b1; clear hu b1)
  refine bodyPost_ret (v := .agg #[.int .i64 u.kind, .string u.attr, .slice u.qi u.ni u.ci, .slice u.qw u.nw u.cw, .int .i64 u.lo, .int .i64 u.hi, .int .i64 u.op, .slice u.qk u.nk u.ck]) (by simp [results, Try.results45, go_sem, *]) rfl ⟨⟨u, rfl, (foot_set8 (gg := w.heap.size + 1) (unhide HU) (by omega) (by omega) _ _ _ _ _ _ _ _).mono (by omega)⟩, set8_below (g := w.heap.size + 1) (below_sub (unhide HWX) (unhide B1)) (Nat.le_succ _) _ _ _ _ _ _ _ _⟩
set_option maxRecDepth 100000 in
set_option maxHeartbeats 4000000 in
theorem rdown_pos (kind : Int) (attr : ByteArray) (qi : Option Addr) (ci : Nat) (ints : List Int) (qw : Option Addr) (cw : Nat) (words : List ByteArray) (lo hi : Int) (qk : Option Addr) (ck : Nat) (w0 w : World) (hin : NdIn w0 ⟨kind, attr, qi, ints.length, ci, qw, words.length, cw, lo, hi, 1, qk, 0, ck⟩ (.mk kind attr ints words lo hi 1 [])) (hb0 : Below w0.heap.size w0 w) :
    Calls Try.prog 45 #[.agg #[.int .i64 kind, .string attr, .slice qi ints.length ci, .slice qw words.length cw, .int .i64 lo, .int .i64 hi, .int .i64 1, .slice qk 0 ck], .bool false] w fun e w' => (∃ u, e = .returned u.val ∧ Foot w0.heap.size w.heap.size w' u (.mk kind attr ints words lo hi 1 [])) ∧ Below w.heap.size w w' := by
  obtain ⟨X, HX⟩ : ∃ X, (w.alloc (.cells #[.int .i64 kind, .string attr, .slice qi ints.length ci, .slice qw words.length cw, .int .i64 lo, .int .i64 hi, .int .i64 1, .slice qk 0 ck] 28)).alloc (.cells #[.int .i64 0, .string ⟨#[]⟩, .slice none 0 0, .slice none 0 0, .int .i64 0, .int .i64 0, .int .i64 0, .slice none 0 0] 28) = X := ⟨_, rfl⟩
  obtain ⟨hX0, hX1, hwX, hXs⟩ := twoM HX
  obtain ⟨x0, x1, x2, x3, x4, x5, x6, x7⟩ := of8' hX0
  obtain ⟨y0, y1, y2, y3, y4, y5, y6, y7⟩ := of8' hX1
  have yf : ∀ o, X.frozen? ⟨w.heap.size + 1, o, none⟩ = false := fun o => frozen_free hX1
  have hz1 : w.heap.size + 1 < X.heap.size := by omega
  have HWX := hide hwX
  have BF := hide (set8_below (g := w.heap.size + 1) hwX (Nat.le_succ _) (.int .i64 kind) (.string attr) (.slice qi ints.length ci) (.slice qw words.length cw) (.int .i64 lo) (.int .i64 hi) (.int .i64 1) (.slice qk 0 ck))
  have FF := hide (Foot.of (B1 := w.heap.size) hin (below_sub hb0 (unhide BF)))
  clear hin hb0 hwX hX0 hX1
  go_enter Try.func45, Try.ntmps45
  go_wp2
  refine bodyPost_ret (v := .agg #[.int .i64 kind, .string attr, .slice qi ints.length ci, .slice qw words.length cw, .int .i64 lo, .int .i64 hi, .int .i64 1, .slice qk 0 ck]) (by simp [results, Try.results45, go_sem, *]) rfl ⟨⟨_, rfl, unhide FF⟩, unhide BF⟩
set_option maxRecDepth 100000 in
set_option maxHeartbeats 4000000 in
theorem rdown_neg (kind : Int) (attr : ByteArray) (qi : Option Addr) (ci : Nat) (ints : List Int) (qw : Option Addr) (cw : Nat) (words : List ByteArray) (lo hi : Int) (qk : Option Addr) (ck : Nat) (w0 w : World) (hin : NdIn w0 ⟨kind, attr, qi, ints.length, ci, qw, words.length, cw, lo, hi, 1, qk, 0, ck⟩ (.mk kind attr ints words lo hi 1 [])) (hb0 : Below w0.heap.size w0 w) :
    Calls Try.prog 45 #[.agg #[.int .i64 kind, .string attr, .slice qi ints.length ci, .slice qw words.length cw, .int .i64 lo, .int .i64 hi, .int .i64 1, .slice qk 0 ck], .bool true] w fun e w' => (∃ u, e = .returned u.val ∧ Foot w0.heap.size w.heap.size w' u (notT (.mk kind attr ints words lo hi 1 []))) ∧ Below w.heap.size w w' := by
  obtain ⟨X, HX⟩ : ∃ X, (w.alloc (.cells #[.int .i64 kind, .string attr, .slice qi ints.length ci, .slice qw words.length cw, .int .i64 lo, .int .i64 hi, .int .i64 1, .slice qk 0 ck] 28)).alloc (.cells #[.int .i64 0, .string ⟨#[]⟩, .slice none 0 0, .slice none 0 0, .int .i64 0, .int .i64 0, .int .i64 0, .slice none 0 0] 28) = X := ⟨_, rfl⟩
  obtain ⟨hX0, hX1, hwX, hXs⟩ := twoM HX
  obtain ⟨x0, x1, x2, x3, x4, x5, x6, x7⟩ := of8' hX0
  obtain ⟨y0, y1, y2, y3, y4, y5, y6, y7⟩ := of8' hX1
  have yf : ∀ o, X.frozen? ⟨w.heap.size + 1, o, none⟩ = false := fun o => frozen_free hX1
  have hz1 : w.heap.size + 1 < X.heap.size := by omega
  have HWX := hide hwX
  have BF := hide ((set8_below (g := w.heap.size + 1) hwX (Nat.le_succ _) (.int .i64 0) (.string ⟨#[]⟩) (.slice none 0 0) (.slice none 0 0) (.int .i64 0) (.int .i64 0) (.int .i64 2) (.slice (some ⟨w.heap.size + 2, 0, none⟩) 1 1)).alloc (by simp only [World.size_setCell]; omega) (.cells #[.int .i64 kind, .string attr, .slice qi ints.length ci, .slice qw words.length cw, .int .i64 lo, .int .i64 hi, .int .i64 1, .slice qk 0 ck] 28))
  have FF := hide (Foot.of (B1 := w.heap.size) hin (below_sub hb0 (unhide BF)))
  have hsz : ((((((((X.setCell ⟨w.heap.size + 1, 0, none⟩ (.int .i64 0)).setCell ⟨w.heap.size + 1, 1, none⟩ (.string ⟨#[]⟩)).setCell ⟨w.heap.size + 1, 2, none⟩ (.slice none 0 0)).setCell ⟨w.heap.size + 1, 3, none⟩ (.slice none 0 0)).setCell ⟨w.heap.size + 1, 4, none⟩ (.int .i64 0)).setCell ⟨w.heap.size + 1, 5, none⟩ (.int .i64 0)).setCell ⟨w.heap.size + 1, 6, none⟩ (.int .i64 2)).setCell ⟨w.heap.size + 1, 7, none⟩ (.slice (some ⟨w.heap.size + 2, 0, none⟩) 1 1)).heap.size = w.heap.size + 2 := by simp only [World.size_setCell]; exact hXs
  have NB := box_nw ((((((((X.setCell ⟨w.heap.size + 1, 0, none⟩ (.int .i64 0)).setCell ⟨w.heap.size + 1, 1, none⟩ (.string ⟨#[]⟩)).setCell ⟨w.heap.size + 1, 2, none⟩ (.slice none 0 0)).setCell ⟨w.heap.size + 1, 3, none⟩ (.slice none 0 0)).setCell ⟨w.heap.size + 1, 4, none⟩ (.int .i64 0)).setCell ⟨w.heap.size + 1, 5, none⟩ (.int .i64 0)).setCell ⟨w.heap.size + 1, 6, none⟩ (.int .i64 2)).setCell ⟨w.heap.size + 1, 7, none⟩ (.slice (some ⟨w.heap.size + 2, 0, none⟩) 1 1)) (.cells #[.int .i64 kind, .string attr, .slice qi ints.length ci, .slice qw words.length cw, .int .i64 lo, .int .i64 hi, .int .i64 1, .slice qk 0 ck] 28)
  rw [hsz] at NB
  have NF := hide (foot_not (M := w.heap.size + 2) (B1 := w.heap.size) (v := ⟨kind, attr, qi, ints.length, ci, qw, words.length, cw, lo, hi, 1, qk, 0, ck⟩) NB (by omega) (unhide FF))
  clear hin hb0 hwX hX0 hX1 hsz NB
  go_enter Try.func45, Try.ntmps45
  go_wp2
  refine bodyPost_ret (v := .agg #[.int .i64 0, .string ⟨#[]⟩, .slice none 0 0, .slice none 0 0, .int .i64 0, .int .i64 0, .int .i64 2, .slice (some ⟨w.heap.size + 2, 0, none⟩) 1 1]) (by simp [results, Try.results45, go_sem, *]) rfl ⟨⟨_, rfl, unhide NF⟩, unhide BF⟩
theorem rdown_any : ∀ x, RDownP x := by
  intro t
  induction t using Nd.ind with
  | h kind attr ints words lo hi op kids ih =>
    intro neg v w0 w hin hb hc hwt
    obtain ⟨qi, ci, qw, cw, qk, ck, rfl, h1, h2, hk⟩ := hin.parts
    simp only [wtN] at hwt
    rcases chk_parts hc with ⟨rfl, rfl, _⟩ | ⟨rfl, ⟨x, rfl, hx⟩, _⟩ | ⟨ho, _, hl, _⟩
    · cases neg
      · have := rdown_pos kind attr qi ci ints qw cw words lo hi qk ck w0 w hin hb
        simpa [downN, litT, Nv.val] using this
      · have := rdown_neg kind attr qi ci ints qw cw words lo hi qk ck w0 w hin hb
        simpa [downN, litT, Nv.val] using this
    · have := rdown_not kind attr qi ci ints qw cw words lo hi qk ck x neg w0 w hk hb (ih x (by simp)) hx (by simp only [wtL] at hwt; omega)
      simpa [downN, downH, Nv.val] using this
    · have := rdown_many kind attr qi ci ints qw cw words lo hi op _ qk ck kids neg w0 w hk hb ih (chkL_all hl) (by omega) ho rfl
      rw [down_34 ho]
      have e : (if neg = true then otherI op else op) = (if neg = true then 7 - op else op) := by rcases ho with rfl | rfl <;> cases neg <;> rfl
      rw [e]
      simpa only [Nv.val] using this
end Go.Proofs.Ytmpdfgebhpfhhaa
namespace Go.Proofs.Ytmpdfgebhpfhhaa
open Go.RowKit Go.Sort

theorem zero_in (w : World) : NdIn w ⟨0, ⟨#[]⟩, none, 0, 0, none, 0, 0, 0, 0, 0, none, 0, 0⟩ zeroT :=
  NdIn.make (ints := []) (words := []) (kids := []) (SlOf.none _) (SlOf.none _) ⟨[], SlOf.none _, rfl, fun j v x h => by simp at h⟩
set_option maxRecDepth 100000 in
set_option maxHeartbeats 4000000 in
theorem refPush_any (x : Nd) (v : Nv) (w : World) (hin : NdIn w v x) (hwt : wtN x ≤ 1000000000) :
    Calls Try.prog 23 #[.agg #[.int .i64 v.kind, .string v.attr, .slice v.qi v.ni v.ci, .slice v.qw v.nw v.cw, .int .i64 v.lo, .int .i64 v.hi, .int .i64 v.op, .slice v.qk v.nk v.ck]] w fun e w' => (∃ v', e = .returned (.tuple #[v'.val, .int .i64 (code (chkN x))]) ∧ NdIn w' v' (PushT x)) ∧ Below w.heap.size w w' := by
  obtain ⟨X, HX⟩ : ∃ X, (w.alloc (.cells #[.int .i64 v.kind, .string v.attr, .slice v.qi v.ni v.ci, .slice v.qw v.nw v.cw, .int .i64 v.lo, .int .i64 v.hi, .int .i64 v.op, .slice v.qk v.nk v.ck] 28)).alloc (.cells #[.int .i64 0, .string ⟨#[]⟩, .slice none 0 0, .slice none 0 0, .int .i64 0, .int .i64 0, .int .i64 0, .slice none 0 0] 28) = X := ⟨_, rfl⟩
  obtain ⟨hX0, hX1, hwX, hXs⟩ := twoM HX
  obtain ⟨x0, x1, x2, x3, x4, x5, x6, x7⟩ := of8' hX0
  obtain ⟨y0, y1, y2, y3, y4, y5, y6, y7⟩ := of8' hX1
  have yf : ∀ o, X.frozen? ⟨w.heap.size + 1, o, none⟩ = false := fun o => frozen_free hX1
  have hz1 : w.heap.size + 1 < X.heap.size := by omega
  have hz0 : w.heap.size < X.heap.size := by omega
  have hc := rchk_any x v X (hin.keep hwX) hwt
  have HWX := hide hwX
  have HX0 := hide hX0
  simp only [Nv.val] at hc
  unfold PushT
  cases hx : chkN x
  · rw [hx] at hc
    simp only [Bool.false_eq_true, if_false]
    simp only [show code false = 1 from rfl]
    clear hin hwX hX0 hX1
    go_enter Try.func23, Try.ntmps23
    go_wp2_with (go_at_call 43; refine hc.mono ?_; rintro e w1 ⟨rfl, b1⟩; obtain ⟨r0, r1, r2, r3, r4, r5, r6, r7⟩ : w1.cell? ⟨w.heap.size + 1, 0, none⟩ = some (.int .i64 0) ∧ w1.cell? ⟨w.heap.size + 1, 1, none⟩ = some (.string ⟨#[]⟩) ∧ w1.cell? ⟨w.heap.size + 1, 2, none⟩ = some (.slice none 0 0) ∧ w1.cell? ⟨w.heap.size + 1, 3, none⟩ = some (.slice none 0 0) ∧ w1.cell? ⟨w.heap.size + 1, 4, none⟩ = some (.int .i64 0) ∧ w1.cell? ⟨w.heap.size + 1, 5, none⟩ = some (.int .i64 0) ∧ w1.cell? ⟨w.heap.size + 1, 6, none⟩ = some (.int .i64 0) ∧ w1.cell? ⟨w.heap.size + 1, 7, none⟩ = some (.slice none 0 0) := ⟨(b1.cell (by exact hz1)).trans y0, (b1.cell (by exact hz1)).trans y1, (b1.cell (by exact hz1)).trans y2, (b1.cell (by exact hz1)).trans y3, (b1.cell (by exact hz1)).trans y4, (b1.cell (by exact hz1)).trans y5, (b1.cell (by exact hz1)).trans y6, (b1.cell (by exact hz1)).trans y7⟩; have rf : ∀ o, w1.frozen? ⟨w.heap.size + 1, o, none⟩ = false := (fun o => (b1.frozen (by exact hz1)).trans (yf o)); have rz : w.heap.size + 1 < w1.heap.size := (by have := b1.size; omega); have B1 := hide b1; clear b1)
    refine bodyPost_ret (v := .tuple #[.agg #[.int .i64 0, .string ⟨#[]⟩, .slice none 0 0, .slice none 0 0, .int .i64 0, .int .i64 0, .int .i64 0, .slice none 0 0], .int .i64 1]) (by simp [results, Try.results23, go_sem, *]) rfl ⟨⟨⟨0, ⟨#[]⟩, none, 0, 0, none, 0, 0, 0, 0, 0, none, 0, 0⟩, rfl, zero_in _⟩, set8_below (g := w.heap.size + 1) (below_sub (unhide HWX) (unhide B1)) (Nat.le_succ _) _ _ _ _ _ _ _ _⟩
  · have hD := fun (W : World) (hW : Below X.heap.size X W) => rdown_any x false v w W hin (below_sub hwX hW) hx hwt
    rw [hx] at hc
    simp only [Nv.val] at hD
    simp only [if_true]
    simp only [show code true = 0 from rfl]
    clear hin hwX hX0 hX1
    go_enter Try.func23, Try.ntmps23
    go_wp2_with (first
      | (go_at_call 43; refine hc.mono ?_; rintro e w1 ⟨rfl, b1⟩; obtain ⟨s0, s1, s2, s3, s4, s5, s6, s7⟩ := of8' ((b1.block _ hz0).trans (unhide HX0)); have B1 := hide b1; clear b1)
      | (go_at_call 45; refine (hD _ (unhide B1)).mono ?_; rintro e w2 ⟨⟨u, rfl, hu⟩, b2'⟩; simp only; have b2 := below_sub (unhide B1) b2'; obtain ⟨r0, r1, r2, r3, r4, r5, r6, r7⟩ : w2.cell? ⟨w.heap.size + 1, 0, none⟩ = some (.int .i64 0) ∧ w2.cell? ⟨w.heap.size + 1, 1, none⟩ = some (.string ⟨#[]⟩) ∧ w2.cell? ⟨w.heap.size + 1, 2, none⟩ = some (.slice none 0 0) ∧ w2.cell? ⟨w.heap.size + 1, 3, none⟩ = some (.slice none 0 0) ∧ w2.cell? ⟨w.heap.size + 1, 4, none⟩ = some (.int .i64 0) ∧ w2.cell? ⟨w.heap.size + 1, 5, none⟩ = some (.int .i64 0) ∧ w2.cell? ⟨w.heap.size + 1, 6, none⟩ = some (.int .i64 0) ∧ w2.cell? ⟨w.heap.size + 1, 7, none⟩ = some (.slice none 0 0) := ⟨(b2.cell (by exact hz1)).trans y0, (b2.cell (by exact hz1)).trans y1, (b2.cell (by exact hz1)).trans y2, (b2.cell (by exact hz1)).trans y3, (b2.cell (by exact hz1)).trans y4, (b2.cell (by exact hz1)).trans y5, (b2.cell (by exact hz1)).trans y6, (b2.cell (by exact hz1)).trans y7⟩; have rf : ∀ o, w2.frozen? ⟨w.heap.size + 1, o, none⟩ = false := (fun o => (b2.frozen (by exact hz1)).trans (yf o)); have rz : w.heap.size + 1 < w2.heap.size := (by have := b2.size; omega); have HU := hide hu; have B2 := hide b2; have S1 := hide (unhide B1).size; clear hu b2 b2'))
    refine bodyPost_ret (v := .tuple #[.agg #[.int .i64 u.kind, .string u.attr, .slice u.qi u.ni u.ci, .slice u.qw u.nw u.cw, .int .i64 u.lo, .int .i64 u.hi, .int .i64 u.op, .slice u.qk u.nk u.ck], .int .i64 0]) (by simp [results, Try.results23, go_sem, *]) rfl ⟨⟨u, rfl, (foot_set8 (gg := w.heap.size + 1) (unhide HU) (by omega) (by have := unhide S1; omega) _ _ _ _ _ _ _ _).now⟩, set8_below (g := w.heap.size + 1) (below_sub (unhide HWX) (unhide B2)) (Nat.le_succ _) _ _ _ _ _ _ _ _⟩
end Go.Proofs.Ytmpdfgebhpfhhaa
namespace Go.Proofs.Ytmpdfgebhpfhhaa
open Go.RowKit Go.Sort

theorem nth_any : ∀ x, NthP x := by
  intro t
  induction t using Nd.ind with
  | h kind attr ints words lo hi op kids ih =>
    intro w0 w v i c hin hb hc ha hwt h64 hix
    obtain ⟨qi, ci, qw, cw, qk, ck, rfl, h1, h2, hk⟩ := hin.parts
    have hsm := (cj_small _ c (List.mem_of_getElem? hix)).1
    have hlw : c.length ≤ 400000000 := Nat.le_trans hsm hwt
    simp only [wtN] at hwt
    rcases chk_parts hc with ⟨rfl, rfl, _⟩ | ⟨rfl, ⟨x, rfl, hx⟩, _⟩ | ⟨ho, _, hl, _⟩
    · have e : cjN (.mk kind attr ints words lo hi 1 []) = [[⟨kind, attr, ints, words, lo, hi, false⟩]] := by simp [cjN]
      rw [e] at hix
      have h0 := (List.getElem?_eq_some_iff.1 hix).1
      simp only [List.length_singleton] at h0
      rw [show i = 0 by omega] at hix
      simp only [List.getElem?_cons_zero, Option.some.injEq] at hix
      subst hix
      exact nth_one kind attr qi ci ints qw cw words lo hi qk ck i w0 w hb h1 h2
    · obtain ⟨k2, a2, i2, w2, l2, h2', o2, ks2⟩ := x
      have e : cjN (.mk kind attr ints words lo hi 2 [.mk k2 a2 i2 w2 l2 h2' o2 ks2]) = [[⟨k2, a2, i2, w2, l2, h2', true⟩]] := by simp [cjN, negLit]
      rw [e] at hix
      have h0 := (List.getElem?_eq_some_iff.1 hix).1
      simp only [List.length_singleton] at h0
      rw [show i = 0 by omega] at hix
      simp only [List.getElem?_cons_zero, Option.some.injEq] at hix
      subst hix
      exact nth_not kind attr qi ci ints qw cw words lo hi qk ck k2 a2 i2 w2 l2 h2' o2 ks2 i w0 w hb hk
    · have hat : atL kids = true := by
        simp only [atN] at ha
        rcases ho with rfl | rfl
        · rwa [if_neg (by decide)] at ha
        · rwa [if_neg (by decide)] at ha
      have hall : ∀ x ∈ kids, chkN x = true ∧ atN x = true := fun x hx => ⟨chkL_all hl x hx, atL_all hat x hx⟩
      rcases ho with rfl | rfl
      · have e : cjN (.mk kind attr ints words lo hi 3 kids) = cjProd kids := by simp [cjN]
        rw [e] at h64 hix
        exact nth_and kind attr qi ci ints qw cw words lo hi qk ck kids i c w0 w hb hk ih hall (by omega) h64 hix hlw
      · have e : cjN (.mk kind attr ints words lo hi 4 kids) = cjSum kids := by simp [cjN]
        rw [e] at h64 hix
        exact nth_or kind attr qi ci ints qw cw words lo hi qk ck kids i c w0 w hb hk ih hall (by omega) h64 hix
theorem parts_cjs {w0 w : World} {q : Option Addr} {c B : Nat} {cs : List (List Lt)} {us : List (Option Addr × Nat × Nat)} (ho : OwnK encQ 45 1 B w q c us) (hl : us.length = cs.length) (hp : PartsAt w0 cs us w) (hb : Below w0.heap.size w0 w) : CjsOf w q c cs :=
  ⟨us, ho.ls, hl, fun j u ls hu hc => by
    obtain ⟨h1, ks, h2, h3, h4⟩ := hp j u ls hu hc
    exact ⟨h1, ks, h3, h2, fun a x y hx hy => (h4 a x y hx hy).keep hb⟩⟩
set_option maxRecDepth 100000 in
set_option maxHeartbeats 8000000 in
theorem refExp_any (t : Nd) (m : Int) (v : Nv) (w : World) (hin : NdIn w v t) (hwt : wtN t ≤ 200000000) :
    Calls Try.prog 7 #[.agg #[.int .i64 v.kind, .string v.attr, .slice v.qi v.ni v.ci, .slice v.qw v.nw v.cw, .int .i64 v.lo, .int .i64 v.hi, .int .i64 v.op, .slice v.qk v.nk v.ck], .int .i64 m] w fun e w' => (∃ q c, e = .returned (.tuple #[.slice q (expC t m).length c, .int .i64 (expE t m)]) ∧ CjsOf w' q c (expC t m)) ∧ Below w.heap.size w w' := by
  obtain ⟨X, HX⟩ : ∃ X, w.alloc (.cells #[.int .i64 v.kind, .string v.attr, .slice v.qi v.ni v.ci, .slice v.qw v.nw v.cw, .int .i64 v.lo, .int .i64 v.hi, .int .i64 v.op, .slice v.qk v.nk v.ck] 28) = X := ⟨_, rfl⟩
  have bX : Below w.heap.size w X := by rw [← HX]; exact (Below.refl _ _).alloc (Nat.le_refl _) _
  have x8 : X.heap[w.heap.size]? = some (.cells #[.int .i64 v.kind, .string v.attr, .slice v.qi v.ni v.ci, .slice v.qw v.nw v.cw, .int .i64 v.lo, .int .i64 v.hi, .int .i64 v.op, .slice v.qk v.nk v.ck] 28 (0, 0)) := by rw [← HX]; exact box_nw _ _
  obtain ⟨c0, c1, c2, c3, c4, c5, c6, c7⟩ := of8' x8
  have hlt8 := heap_lt x8
  have X8 := hide x8
  have BX := hide bX
  have hPW := refWidth_any t m v X (hin.keep bX) (by omega)
  have HIN := hide (hin.keep bX)
  by_cases e0 : WidthE t m = 0
  · by_cases e1 : WidthA t m > m
    · have hE : expE t m = 13 := by unfold expE; rw [if_pos e0, if_pos e1]
      have hCn : expC t m = [] := by unfold expC; rw [if_neg (by omega)]
      rw [hE, hCn]
      rw [e0] at hPW
      obtain ⟨A, hA⟩ : ∃ A, WidthA t m = A := ⟨_, rfl⟩
      rw [hA] at hPW e1
      have e2 : decide (A > m) = true := by simp; omega
      clear hin bX x8 hE hCn hA e0
      go_enter Try.func7, Try.ntmps7
      go_wp2_with (go_at_call 22; refine hPW.mono ?_; rintro e w1 ⟨rfl, b1⟩; have B1 := hide b1; clear b1)
      refine bodyPost_ret (v := .tuple #[.slice none 0 0, .int .i64 13]) (by simp [results, Try.results7, go_sem, *]) rfl ⟨⟨none, 0, rfl, (CjsNew.nil 0 _).of⟩, below_sub (unhide BX) (unhide B1)⟩
    · obtain ⟨hc, m1, m2, hwn, hwa, hE, hCe⟩ := exp_ok e0 e1
      rw [hE, hCe]
      obtain ⟨T, hT⟩ : ∃ T, downN t false = T := ⟨_, rfl⟩
      have hTc : chkN T = true := by rw [← hT]; exact chk_down t false hc
      have hTa : atN T = true := by rw [← hT]; exact at_down t false hc
      have hTw : wtN T ≤ 400000000 := by rw [← hT]; have := wt_down t false hc; omega
      rw [hT] at hwn hwa
      rw [hT]
      have hPT : PushT t = T := by unfold PushT; rw [if_pos hc, hT]
      obtain ⟨n, hn⟩ : ∃ n, (cjN T).length = n := ⟨_, rfl⟩
      have hn64 : (cjN T).length ≤ 64 := by omega
      rw [hn] at hwa
      have hn' : n ≤ 64 := by omega
      rw [e0, hwa] at hPW
      have e2 : decide ((n : Int) > m) = false := by simp; omega
      have hP := fun (W : World) (hW : Below X.heap.size X W) => refPush_any t v W ((unhide HIN).keep hW) (by omega)
      rw [hc, hPT] at hP
      simp only [Nv.val, code, if_true] at hP
      have HN := hide hn
      rw [hn]
      have hN := hide (fun (w0 W : World) (u : Nv) (hu : NdIn w0 u T) (hW : Below w0.heap.size w0 W) (k : Nat) (c : List Lt) (hk : (cjN T)[k]? = some c) => nth_any T w0 W u k c hu hW hTc hTa hTw hn64 hk)
      have a1 : (0 : Int) ≤ (n : Int) := by omega
      clear hin bX x8 hE hCe e0 e1 hwa hT hPT hn hc hwn hn64
      go_enter Try.func7, Try.ntmps7
      go_wp2_with (first
        | (go_at_call 22; refine hPW.mono ?_; rintro e w1 ⟨rfl, b1⟩; (obtain ⟨d0, d1, d2, d3, d4, d5, d6, d7⟩ := of8' ((b1.block _ hlt8).trans (unhide X8))); have B1 := hide b1; clear b1)
        | (go_at_call 23; refine (hP _ (unhide B1)).mono ?_; rintro e w2 ⟨⟨u, rfl, hu⟩, b2⟩; simp only; have HU := hide hu; have B2 := hide (below_sub (unhide B1) b2); clear hu b2))
      go_loopw [10, 11] (fun ov iv wr => ∃ (k : Nat) (qm : Option Addr) (cm : Nat) (us : List (Option Addr × Nat × Nat)), k ≤ n ∧ iv = .int .i64 k ∧ ov = .slice qm k cm ∧ us.length = k ∧ wr.heap[w2.heap.size]? = some (.cells #[.int .i64 u.kind, .string u.attr, .slice u.qi u.ni u.ci, .slice u.qw u.nw u.cw, .int .i64 u.lo, .int .i64 u.hi, .int .i64 u.op, .slice u.qk u.nk u.ck] 28 (0, 0)) ∧ Hid (OwnK encQ 45 1 (w2.heap.size + 1) wr qm cm us) ∧ Hid (OffP (w2.heap.size + 1) (PartsAt w2 ((cjN T).take k) us) (Value.slice qm k cm).ownBlock wr) ∧ Below w2.heap.size w2 wr) (fun _ iv _ => n - (intOf iv).toNat)
      case atStart => exact ⟨0, none, 0, [], by omega, rfl, rfl, rfl, box_nw _ _, hide (OwnK.nil _ _), hide (fun x _ _ j u ls h => by simp at h), (Below.refl _ _).alloc (Nat.le_refl _) _⟩
      case round =>
        obtain ⟨k, qm, cm, us, hkn, rfl, rfl, hus, hbx, HO, HF, hbel⟩ := hrel
        have HB := hide hbel
        obtain ⟨f0, f1, f2, f3, f4, f5, f6, f7⟩ := of8' hbx
        have hxl := heap_lt hbx
        by_cases hlt : k < n
        · obtain ⟨l, hl, hld⟩ := get_at (l := cjN T) (k := k) (by have := unhide HN; omega)
          clear hld
          have ki1 : (k : Int) < (n : Int) := by omega
          have ki0 : (0 : Int) ≤ (k : Int) := by omega
          have hC := unhide hN w2 wr u (unhide HU) hbel k l hl
          simp only [Nv.val] at hC
          have hL2 : ∀ b, (Value.slice qm k cm).ownBlock = some b → w2.heap.size + 1 ≤ b ∧ b < wr.heap.size := by
            have := World.ownsRow.lt (unhide HO)
            rw [hus] at this
            exact this
          have HL2 := hide hL2
          have HUS := hide hus
          have HBX := hide hbx
          have HTK := hide (take_snoc_of hl)
          have HPS := hide (show us.length = ((cjN T).take k).length by rw [hus, List.length_take]; have := unhide HN; omega)
          have hkm : k + 1 ≤ maxLen := by unfold maxLen; omega
          have hkb : (k + 1) * 24 ≤ 140737488355328 := by omega
          have sw : w2.heap.size + 1 ≤ wr.heap.size := by omega
          clear hbel hus hbx hl hL2
          go_wp2_with (first
            | (go_at_call 24; refine hC.mono ?_; rintro e w3 ⟨⟨q2, c2, us2, rfl, hl2, hs2, hb2⟩, b3⟩; simp only; have HLL2 := hide hl2; have HS2 := hide hs2; have HB2 := hide hb2; have B3 := hide b3; have s3 := b3.size; clear hl2 hs2 hb2 b3)
            | (at_builtin; have bY := (Below.refl w3.heap.size w3).alloc (Nat.le_refl _) (.cells #[.slice q2 l.length c2] 45); have hOA := ((unhide HO).below (unhide B3)).below bY; refine wpList_appG rowQ rfl _ _ rfl (w2.heap.size + 1) qm cm us ⟨w3.heap.size, 0, none⟩ 1 [(q2, l.length, c2)] k 1 (k + 1) (unhide HUS) rfl rfl rfl rfl hOA (q_src (q2, l.length, c2) rfl) hkm hkb (by simp only [size_al]; omega) ?_; intro q4 c4 w4 ho4 hb4 hg4 hor4; have HO4 := hide ho4; have HF4 := hide ((((((unhide HF).below (unhide B3)).below bY).and ((slFrom_off (unhide HS2) sw (fun b e => by have := (unhide HL2 b e).2; omega)).below bY)).step hg4 hor4).imp (fun x h => (show PartsAt w2 ((cjN T).take k ++ [l]) (us ++ [(q2, l.length, c2)]) x from parts_snoc (unhide HPS) h.1 rfl (unhide HLL2) h.2 (unhide HB2)))); have HBX4 := hide ((hg4.block w2.heap.size (by simp only [size_al]; omega) (fun e => by have := (unhide HL2 _ e.symm).1; omega)).trans (((below_sub (unhide B3) bY).block _ hxl).trans (unhide HBX))); have HB4 := hide ((below_sub (unhide HB) (below_sub (unhide B3) bY)).trans (hb4.mono (Nat.le_succ _))); clear ho4 hb4 hg4 hor4 bY hOA))
          go_roundw
          case rel => exact ⟨k + 1, q4, c4, us ++ [(q2, l.length, c2)], by omega, by go_num, rfl, by rw [List.length_append, unhide HUS]; rfl, unhide HBX4, HO4, hide (by rw [unhide HTK]; exact unhide HF4), unhide HB4⟩
          case measure => simp [intOf]; omega
        · have ki1 : ¬ (k : Int) < (n : Int) := by omega
          obtain rfl : k = n := by omega
          have HE := hide (show CjsOf wr qm cm (cjN T) from parts_cjs (unhide HO) (by rw [hus]; exact (unhide HN).symm) (by have := unhide HF wr (Nat.le_refl _) (fun _ _ _ _ _ => rfl); rwa [← unhide HN, List.take_length] at this) hbel)
          clear hbel hbx hus
          go_wp2
          refine bodyPost_ret (v := .tuple #[.slice qm k cm, .int .i64 0]) (by simp [results, Try.results7, go_sem, *]) rfl ⟨⟨qm, cm, rfl, unhide HE⟩, below_sub (unhide BX) (below_sub (unhide B2) (unhide HB))⟩
  · have hE : expE t m = WidthE t m := by unfold expE; rw [if_neg e0]
    have hCn : expC t m = [] := by unfold expC; rw [if_neg (by omega)]
    rw [hCn, hE]
    obtain ⟨A, hA⟩ : ∃ A, WidthE t m = A := ⟨_, rfl⟩
    rw [hA] at hPW e0
    rw [hA]
    have e2 : (A != 0) = true := by simp [e0]
    clear hin bX x8 hE hCn hA
    go_enter Try.func7, Try.ntmps7
    go_wp2_with (go_at_call 22; refine hPW.mono ?_; rintro e w1 ⟨rfl, b1⟩; have B1 := hide b1; clear b1)
    refine bodyPost_ret (v := .tuple #[.slice none 0 0, .int .i64 A]) (by simp [results, Try.results7, go_sem, *]) rfl ⟨⟨none, 0, rfl, (CjsNew.nil 0 _).of⟩, below_sub (unhide BX) (unhide B1)⟩
end Go.Proofs.Ytmpdfgebhpfhhaa

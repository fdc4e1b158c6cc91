/- The law DnfMeans returns true, whatever tree of bounded weight, most and events it is given. -/
import Derived.Test.YtppkjlmdfcifgaaDnfFixed
import Derived.Test.YtppkjlmdfcifgaaEvEval
import Derived.Lib.QuietBelow
namespace Go.Proofs.Ytppkjlmdfcifgaa
open Go.RowKit Go.Sort

/-- A list of events in memory. -/
def EvsOf (w : World) (q : Option Addr) (c : Nat) (evs : List (List Pr)) : Prop := ∃ us : List (Option Addr × Nat × Nat), SlOf encQ 1 w q c us ∧ us.length = evs.length ∧ ∀ (j : Nat) (u : Option Addr × Nat × Nat) (ev : List Pr), us[j]? = some u → evs[j]? = some ev → u.2.1 = ev.length ∧ SlOf encP 4 w u.1 u.2.2 ev
theorem EvsOf.below {w w' : World} {q : Option Addr} {c : Nat} {evs : List (List Pr)} (h : EvsOf w q c evs) (hb : Below w.heap.size w w') : EvsOf w' q c evs := by
  obtain ⟨us, h1, h2, h3⟩ := h
  exact ⟨us, h1.below hb, h2, fun j u ev hj he => ⟨(h3 j u ev hj he).1, (h3 j u ev hj he).2.below hb⟩⟩
theorem EvsOf.at {w : World} {q : Option Addr} {c : Nat} {evs : List (List Pr)} {j : Nat} {ev : List Pr} (h : EvsOf w q c evs) (hj : evs[j]? = some ev) :
    ∃ b off q1 c1, q = some ⟨b, off, none⟩ ∧ b < w.heap.size ∧ SlOf encP 4 w q1 c1 ev ∧ w.cell? ⟨b, off + j, none⟩ = some (.slice q1 ev.length c1) := by
  obtain ⟨us, h1, h2, h3⟩ := h
  have hl : j < evs.length := (List.getElem?_eq_some_iff.1 hj).1
  obtain ⟨u, hu, _⟩ := get_at (l := us) (k := j) (by omega)
  obtain ⟨b, off, hq, hb, hc⟩ := h1.2.2.2.at hu
  obtain ⟨e1, e2⟩ := h3 j u ev hu hj
  have h0 := hc 0 (by omega)
  rw [Nat.mul_one, Nat.add_zero] at h0
  refine ⟨b, off, u.1, u.2.2, hq, hb, e2, ?_⟩
  rw [← e1]; exact h0
set_option maxRecDepth 100000 in
set_option maxHeartbeats 4000000 in
theorem dnfMeans_any (t : Nd) (v : Nv) (m : Int) (q : Option Addr) (c : Nat) (evs : List (List Pr)) (w : World) (hin : NdIn w v t) (he : EvsOf w q c evs) (hwt : wtN t ≤ 100000000) (hle : evs.length ≤ 1000000000) (hl3 : ∀ ev ∈ evs, ev.length ≤ 1000000000) :
    Calls Try.prog 13 #[v.val, .int .i64 m, .slice q evs.length c] w fun e w' => e = .returned (.bool true) ∧ Below w.heap.size w w' := by
  have mixed : Try.prog.follows .mixedOrders = true := by kernel_rfl
  have en64 : ∀ args w, (callFunc 64 args).run Try.prog w = .ok (.enter 64 args) w := enters_of Try.func64 (by kernel_rfl) rfl
  have en21 : ∀ args w, (callFunc 21 args).run Try.prog w = .ok (.enter 21 args) w := enters_of Try.func21 (by kernel_rfl) rfl
  obtain ⟨X, HX⟩ : ∃ X, w.alloc (.cells #[.int .i64 v.kind, .string v.attr, .slice v.qi v.ni v.ci, .slice v.qw v.nw v.cw, .int .i64 v.lo, .int .i64 v.hi, .int .i64 v.op, .slice v.qk v.nk v.ck] 31) = X := ⟨_, rfl⟩
  have bX : Below w.heap.size w X := by rw [← HX]; exact (Below.refl _ _).alloc (Nat.le_refl _) _
  have x8 : X.heap[w.heap.size]? = some (.cells #[.int .i64 v.kind, .string v.attr, .slice v.qi v.ni v.ci, .slice v.qw v.nw v.cw, .int .i64 v.lo, .int .i64 v.hi, .int .i64 v.op, .slice v.qk v.nk v.ck] 31 (0, 0)) := by rw [← HX]; exact box_nw _ _
  obtain ⟨c0, c1, c2, c3, c4, c5, c6, c7⟩ := of8' x8
  have hlt8 := heap_lt x8
  have X8 := hide x8
  have BX := hide bX
  have HIN := hide (hin.keep bX)
  have HEV := hide (he.below bX)
  have hfx := fixed8_any X
  have hE := fun (W : World) (hW : Below X.heap.size X W) => expand_any t m v W ((unhide HIN).keep hW) (by omega)
  have hW := fun (W : World) (hW : Below X.heap.size X W) => pushWidth_any2 t m v W ((unhide HIN).keep hW) (by omega)
  simp only [Nv.val] at hE hW ⊢
  have a0 : (evs.length : Int) ≤ 1000000000 := by omega
  clear hin he bX x8
  by_cases e0 : WidthE t m = 0
  · by_cases e1 : WidthA t m > m
    · have hEE : expE t m = 13 := by unfold expE; rw [if_pos e0, if_pos e1]
      have hCn : expC t m = [] := by unfold expC; rw [if_neg (by omega)]
      rw [hEE, hCn] at hE
      rw [e0] at hW
      obtain ⟨A, hA⟩ : ∃ A, WidthA t m = A := ⟨_, rfl⟩
      rw [hA] at hW e1
      have e2 : decide (A > m) = true := by simp; omega
      simp only [List.length_nil] at hE
      clear hEE hCn hA e0
      go_enter Try.func13, Try.ntmps13
      go_wp2_with (first
        | (go_at_call 55; refine hfx.mono ?_; rintro e w1 ⟨rfl, b1⟩; (obtain ⟨d0, d1, d2, d3, d4, d5, d6, d7⟩ := of8' ((b1.block _ hlt8).trans (unhide X8))); have B1 := hide b1; clear b1)
        | (go_at_call 56; refine (hE _ (unhide B1)).mono ?_; rintro e w2 ⟨⟨q2, c2', rfl, cj⟩, b2⟩; simp only; have B2 := hide (below_sub (unhide B1) b2); (obtain ⟨f0, f1, f2, f3, f4, f5, f6, f7⟩ := of8' (((unhide B2).block _ hlt8).trans (unhide X8))); clear cj b2)
        | (go_at_call 38; refine (hW _ (unhide B2)).mono ?_; rintro e w3 ⟨rfl, b3⟩; have B3 := hide (below_sub (unhide B2) b3); clear b3))
      go_ret
      exact ⟨ret_bool (by simp), below_sub (unhide BX) (unhide B3)⟩
    · obtain ⟨hc, m1, m2, hwn, hwa, hEE, hCe⟩ := exp_ok e0 e1
      obtain ⟨T, hT⟩ : ∃ T, downN t false = T := ⟨_, rfl⟩
      have hTc : chkN T = true := by rw [← hT]; exact chk_down t false hc
      have hTa : atN T = true := by rw [← hT]; exact at_down t false hc
      have hTw : wtN T ≤ 1000000000 := by rw [← hT]; have := wt_down t false hc; omega
      rw [hT] at hwn hwa hCe
      rw [hEE, hCe] at hE
      rw [e0, hwa] at hW
      have HTR := hide (show ∀ ev, anyC ev (cjN T) = evalN ev t from fun ev => by
        rw [(cj_all ev T hTc hTa).2, ← hT, tru_down ev t false hc]
        unfold evalN
        rw [hc]
        simp)
      have HSM := hide (show ∀ ls ∈ cjN T, litBound ls ∧ ls.length ≤ 1000000000 from fun ls hl => by
        obtain ⟨h1, h2⟩ := cj_small T ls hl
        exact ⟨fun l h => by have := h2 l h; omega, by omega⟩)
      obtain ⟨n, hn⟩ : ∃ n, (cjN T).length = n := ⟨_, rfl⟩
      rw [hn] at hE hW hwa
      have hn64 : n ≤ 64 := by omega
      have hnm : (n : Int) ≤ m := by omega
      have e2 : decide ((n : Int) > m) = false := by simp; omega
      have e3 : ((n : Int) != (n : Int)) = false := by simp
      have HN := hide hn
      have HL3 := hide hl3
      clear e0 e1 hwn hwa hEE hCe hTc hTa hT hn hl3 hc
      go_enter Try.func13, Try.ntmps13
      go_wp2_with (first
        | (go_at_call 55; refine hfx.mono ?_; rintro e w1 ⟨rfl, b1⟩; (obtain ⟨d0, d1, d2, d3, d4, d5, d6, d7⟩ := of8' ((b1.block _ hlt8).trans (unhide X8))); have B1 := hide b1; clear b1)
        | (go_at_call 56; refine (hE _ (unhide B1)).mono ?_; rintro e w2 ⟨⟨q2, c2', rfl, cj⟩, b2⟩; simp only; have CJ2 := hide cj.of; have B2 := hide (below_sub (unhide B1) b2); (obtain ⟨f0, f1, f2, f3, f4, f5, f6, f7⟩ := of8' (((unhide B2).block _ hlt8).trans (unhide X8))); clear cj b2)
        | (go_at_call 38; refine (hW _ (unhide B2)).mono ?_; rintro e w3 ⟨rfl, b3⟩; have CJ3 := hide ((unhide CJ2).below b3); have B3 := hide (below_sub (unhide B2) b3); clear b3))
      go_loopw [57] (fun i wr => ∃ k : Nat, k ≤ evs.length ∧ i = .int .i64 k ∧ Below w3.heap.size w3 wr) (fun i _ => evs.length - (intOf i).toNat)
      case atStart => exact ⟨0, by omega, rfl, Below.refl _ _⟩
      case round =>
        obtain ⟨k, hk, rfl, hbel⟩ := hrel
        clear c0 c1 c2 c3 c4 c5 c6 c7 d0 d1 d2 d3 d4 d5 d6 d7 f0 f1 f2 f3 f4 f5 f6 f7
        have HB := hide hbel
        by_cases hlt : k < evs.length
        · obtain ⟨ev, hx, hd⟩ := get_at hlt
          clear hd
          have bXr := below_sub (unhide B3) hbel
          obtain ⟨b, off, qe, ce, hq, hbb, hsl, g0⟩ := (unhide HEV).at hx
          subst hq
          have g1 := (bXr.cell (p := ⟨b, off + k, none⟩) hbb).trans g0
          have hlv := unhide HL3 ev (List.mem_of_getElem? hx)
          have ki0 : (0 : Int) ≤ (k : Int) := by omega
          have ki1 : (k : Int) < (evs.length : Int) := by omega
          obtain ⟨p0, p1, p2, p3, p4, p5, p6, p7⟩ := of8' ((bXr.block _ hlt8).trans (unhide X8))
          have q64 := fun (n : Nat) (os : Array Obj) => dnfAny_any qe ce ev q2 c2' (cjN T) (grow (redrawn wr n) os) (hsl.below (below_sub bXr (below_regrown wr n os))) ((unhide CJ3).below (below_sub hbel (below_regrown wr n os))) (unhide HSM) (by omega) (by have := unhide HN; omega)
          have q21 := fun (n : Nat) (os : Array Obj) => eval_any t v qe ce ev (grow (redrawn wr n) os) ((unhide HIN).keep (below_sub bXr (below_regrown wr n os))) (hsl.below (below_sub bXr (below_regrown wr n os))) (by omega) (by omega)
          simp only [Nv.val] at q21
          rw [unhide HN, unhide HTR ev] at q64
          have P0 : ∀ n os, (grow (redrawn wr n) os).cell? ⟨w.heap.size, 0, none⟩ = some _ := cell_regrown p0
          have P1 : ∀ n os, (grow (redrawn wr n) os).cell? ⟨w.heap.size, 1, none⟩ = some _ := cell_regrown p1
          have P2 : ∀ n os, (grow (redrawn wr n) os).cell? ⟨w.heap.size, 2, none⟩ = some _ := cell_regrown p2
          have P3 : ∀ n os, (grow (redrawn wr n) os).cell? ⟨w.heap.size, 3, none⟩ = some _ := cell_regrown p3
          have P4 : ∀ n os, (grow (redrawn wr n) os).cell? ⟨w.heap.size, 4, none⟩ = some _ := cell_regrown p4
          have P5 : ∀ n os, (grow (redrawn wr n) os).cell? ⟨w.heap.size, 5, none⟩ = some _ := cell_regrown p5
          have P6 : ∀ n os, (grow (redrawn wr n) os).cell? ⟨w.heap.size, 6, none⟩ = some _ := cell_regrown p6
          have P7 : ∀ n os, (grow (redrawn wr n) os).cell? ⟨w.heap.size, 7, none⟩ = some _ := cell_regrown p7
          clear p0 p1 p2 p3 p4 p5 p6 p7 hsl g0 bXr hbel hx
          cases hb : evalN ev t
          all_goals
            rw [hb] at q64 q21
            clear hb
            go_wp2
            refine wp_region_quiet_below (by assumption) (by kernel_rfl) ?_
            repeat (go_big_quiet_step (first
              | (go_at_fn 64; refine Calls.regrown_of (q64 _ _))
              | (go_at_fn 21; refine Calls.regrown_of (q21 _ _))))
            refine wpQuiet_nil ?_
            intro _ hw'
            obtain ⟨⟨dq, osq⟩, hw''⟩ := hw'
            subst hw''
            go_wp2
            exact ⟨⟨k + 1, by omega, by go_num, below_sub (unhide HB) (below_regrown _ _ _)⟩, by simp [intOf]; omega⟩
        · have ki1 : ¬ (k : Int) < (evs.length : Int) := by omega
          go_wp2
          go_ret
          exact ⟨rfl, below_sub (unhide BX) (below_sub (unhide B3) (unhide HB))⟩
  · have hEE : expE t m = WidthE t m := by unfold expE; rw [if_neg e0]
    have hCn : expC t m = [] := by unfold expC; rw [if_neg (by omega)]
    rw [hEE, hCn] at hE
    obtain ⟨A, hA⟩ : ∃ A, WidthA t m = A := ⟨_, rfl⟩
    obtain ⟨E, hE2⟩ : ∃ E, WidthE t m = E := ⟨_, rfl⟩
    rw [hA, hE2] at hW
    rw [hE2] at hE e0
    have e2 : (E != 0) = true := by simp [e0]
    have e3 : (E == E) = true := by simp
    simp only [List.length_nil] at hE
    clear hEE hCn hA hE2
    go_enter Try.func13, Try.ntmps13
    go_wp2_with (first
      | (go_at_call 55; refine hfx.mono ?_; rintro e w1 ⟨rfl, b1⟩; (obtain ⟨d0, d1, d2, d3, d4, d5, d6, d7⟩ := of8' ((b1.block _ hlt8).trans (unhide X8))); have B1 := hide b1; clear b1)
      | (go_at_call 56; refine (hE _ (unhide B1)).mono ?_; rintro e w2 ⟨⟨q2, c2', rfl, cj⟩, b2⟩; simp only; have B2 := hide (below_sub (unhide B1) b2); (obtain ⟨f0, f1, f2, f3, f4, f5, f6, f7⟩ := of8' (((unhide B2).block _ hlt8).trans (unhide X8))); clear cj b2)
      | (go_at_call 38; refine (hW _ (unhide B2)).mono ?_; rintro e w3 ⟨rfl, b3⟩; have B3 := hide (below_sub (unhide B2) b3); clear b3))
    go_ret
    exact ⟨ret_bool (by simp), below_sub (unhide BX) (unhide B3)⟩
end Go.Proofs.Ytppkjlmdfcifgaa

/- The statement DiskOff. -/
import Derived.Test.YtoncnfncgmaknaaO2
import Derived.Test.YtoncnfncgmaknaaOldFixed
import Derived.Deep.Cut
import Derived.Deep.CutBlock
namespace Go.Proofs.Ytoncnfncgmaknaa
open Go.RowKit Go.Sort Go.Shelf

/-- The power, while it is on: no act is named, or so many are left. -/
def Pw (nn : Nat) (s : Dk) : Prop := s.off = false → (nn = 0 ∧ s.named = 0) ∨ (0 < s.named ∧ s.named + s.acts = nn)
structure Inv (nn : Nat) (s : Dk) (ops : List Od) (k A : Nat) : Prop where
  pw : Pw nn s
  acts : A = s.acts
  few : s.acts ≤ k
  n : s.n ≤ k
  fit : Fit s (bsN ops k)
theorem Inv.step {nn : Nat} {s s' : Dk} {ops : List Od} {k A : Nat} {E : Int} {d : Nat} (h : Inv nn s ops k A) (hs : Step s s' E d) (hd : bsN ops k + d ≤ bsN ops (k + 1)) (A' : Nat) (hA : A' = s'.acts) : Inv nn s' ops (k + 1) A' := by
  have h1 := h.few
  have h2 := h.n
  have h3 := hs.n
  refine ⟨?_, hA, ?_, by omega, (hs.fit _ h.fit).mono hd⟩
  · intro ho
    rcases hs.way with ⟨_, w1, w2, w3, w4, w5⟩ | ⟨_, _, _, w4, _⟩ | ⟨_, _, w4, _⟩ | ⟨_, w1, w2, w3, w4⟩
    · rcases h.pw w1 with ⟨p1, p2⟩ | ⟨p1, p2⟩
      · exact Or.inl ⟨p1, by omega⟩
      · exact Or.inr ⟨by omega, by omega⟩
    · rw [w4] at ho; cases ho
    · rw [w4] at ho; cases ho
    · rw [w3, w4]; exact h.pw w1
  · rcases hs.way with ⟨_, _, _, _, _, w5⟩ | ⟨_, _, _, _, w5⟩ | ⟨_, _, _, w5⟩ | ⟨_, _, _, _, w5⟩ <;> omega
theorem Inv.same {nn : Nat} {s : Dk} {ops : List Od} {k A : Nat} (h : Inv nn s ops k A) (hd : bsN ops k ≤ bsN ops (k + 1)) : Inv nn s ops (k + 1) A :=
  ⟨h.pw, h.acts, Nat.le_succ_of_le h.few, Nat.le_succ_of_le h.n, h.fit.mono hd⟩
set_option maxRecDepth 100000 in
theorem off_long (q0 : Option Addr) (k0 n0 : Nat) (n part : Int) (q3 : Option Addr) (k3 n3 : Nat) (w : World) (h : 200 < n0) :
    Calls Try.prog 3 #[.slice q0 n0 k0, .int .i64 n, .int .i64 part, .slice q3 n3 k3] w fun e w' => e = .returned (.bool true) ∧ Below w.heap.size w w' := by
  have hfx := Old.fixed_any w
  have hN := fun (W : World) => new_any W
  have j1 : (200 : Int) < (n0 : Int) := by omega
  go_enter Try.func3, Try.ntmps3
  go_wp2_with (first
    | (go_at_call 4; refine hfx.mono ?_; rintro e w1 ⟨rfl, b1⟩; have B1 := hide b1; clear b1)
    | (go_at_call 5; refine (hN w1).mono ?_; rintro e w2 ⟨rfl, d2, b2⟩; have B2 := hide (below_sub (unhide B1) b2); clear d2 b2))
  go_ret
  exact ⟨rfl, unhide B2⟩
set_option maxHeartbeats 8000000 in
set_option maxRecDepth 100000 in
theorem off_law (q0 : Option Addr) (k0 : Nat) (ops : List Od) (n part : Int) (q3 : Option Addr) (k3 : Nat) (cs : List Int) (w : World) (h0 : OpsOf w q0 k0 ops) (h3 : SlOf encI 1 w q3 k3 cs) (hw : odsW ops ≤ 4000000) (hc : cs.length ≤ 4000000) (hl : ops.length ≤ 200) (hn : n ≤ 9223372036854775807) :
    Calls Try.prog 3 #[.slice q0 ops.length k0, .int .i64 n, .int .i64 part, .slice q3 cs.length k3] w fun e w' => e = .returned (.bool true) ∧ Below w.heap.size w w' := by
  have hfx := Old.fixed_any w
  have hN := fun (W : World) => new_any W
  have j1 : ¬ (200 : Int) < (ops.length : Int) := by omega
  have j1b : decide ((200 : Int) < (ops.length : Int)) = false := decide_eq_false j1
  have harm := fun (B : Nat → Prop) (W : World) (g : Nat) (h1 : DkAt B W g empty) (h2 : Sub B W) => arm_yes h1 h2 n part hn rfl
  obtain ⟨nn, hnn⟩ : ∃ nn, (max n 0).toNat = nn := ⟨_, rfl⟩
  have HNN := hide hnn
  have H0 := hide h0
  have H3 := hide h3
  clear h0 h3 hnn
  go_enter Try.func3, Try.ntmps3
  go_upto_block 0 with (first
    | (go_at_call 4; refine hfx.mono ?_; rintro e w1 ⟨rfl, b1⟩; have B1 := hide b1; clear b1)
    | (go_at_call 5; refine (hN w1).mono ?_; rintro e w2 ⟨rfl, d2, b2⟩; have D2 := hide d2; have U2 : Hid (Sub (· < w1.heap.size) w2) := hide (fun i hi => Nat.lt_of_lt_of_le hi b2.size); have K2 := hide (Kpt.of (B := (· < w1.heap.size)) b2); clear d2 b2)
    | (go_at_call 6; refine (harm _ w2 _ (unhide D2) (unhide U2)).mono ?_; rintro e w3 ⟨rfl, d3, k3'⟩; have D3 := hide d3; have K3 := hide ((unhide K2).trans k3'); clear d3 k3'))
  obtain ⟨B, hB⟩ : ∃ B : Nat → Prop, B = (· < w1.heap.size) := ⟨_, rfl⟩
  have d3 := unhide D3
  have k3'' := unhide K3
  rw [← hB] at d3 k3''
  have hbw : ∀ V, Kpt B w1 V → Below w.heap.size w V := fun V hV => (unhide B1).trans (hV.below fun i hi => by have h9 := (unhide B1).size; exact ⟨by rw [hB]; show i < _; omega, by omega⟩)
  have hub : ∀ V, Kpt B w1 V → Sub B V := fun V hV i hi => by rw [hB] at hi; exact Nat.lt_of_lt_of_le hi hV.size
  have inv3 : Inv nn { empty with named := (max n 0).toNat, part := part } ops 0 0 := ⟨fun _ => by have := unhide HNN; by_cases hz : nn = 0; exact Or.inl ⟨hz, by show (max n 0).toNat = 0; omega⟩; exact Or.inr ⟨by show 0 < (max n 0).toNat; omega, by show (max n 0).toNat + 0 = nn; omega⟩, rfl, Nat.le_refl _, Nat.le_refl _, fun nm fl hf => by cases hf⟩
  have hGw : w.heap.size < w1.heap.size + 1 := by have h9 := (unhide B1).size; omega
  have D3' := hide d3
  have K3' := hide k3''
  have I3 := hide inv3
  have HBW := hide hbw
  have HUB := hide hub
  have HB := hide hB
  have HGW := hide hGw
  generalize ({ empty with named := (max n 0).toNat, part := part } : Dk) = s0 at *
  clear d3 k3'' inv3 hbw hub hB hGw D3 K3 D2 U2 K2 hfx hN harm
  go_cut [10, 12, 13, 14] from 44 to 122 (fun s10 s12 s13 s14 V => ∃ (s : Dk) (A : Nat), Hid (Inv nn s ops ops.length A) ∧ Hid (DkAt B V (w1.heap.size + 1) s) ∧ Hid (Kpt B w1 V))
  case first =>
    go_wp2_with fail
    go_loopw [10, 12, 13, 14, 44] (fun v10 v12 v13 v14 v44 wr => ∃ (k : Nat) (s : Dk) (A : Nat), k ≤ ops.length ∧ v44 = .int .i64 (k : Int) ∧ v10 = .int .i64 (A : Int) ∧ Hid (Inv nn s ops k A) ∧ Hid (DkAt B wr (w1.heap.size + 1) s) ∧ Hid (Kpt B w1 wr)) (fun _ _ _ _ v44 _ => ops.length - (intOf v44).toNat)
    case atStart => exact ⟨0, s0, 0, Nat.zero_le _, rfl, rfl, I3, D3', K3'⟩
    case round =>
      obtain ⟨k, s, A, hkl, rfl, rfl, HI, HD, HK⟩ := hrel
      by_cases hlt : k < ops.length
      · obtain ⟨o, ho, _⟩ := get_at hlt
        obtain ⟨b, off, v, hq, hod, z0, z1, z2, z3, z4, z5, z6⟩ := (unhide H0).at ho (unhide HBW wr (unhide HK))
        obtain ⟨⟨e1, e2, e3, e4, e5, e6, e7⟩, sb, si⟩ := hod
        have ki0 : (0 : Int) ≤ (k : Int) := by omega
        have ki1 : (k : Int) < (ops.length : Int) := by omega
        have hI := unhide HI
        have hbs := bsN_snoc ho
        have hbl := bsN_le ops (k + 1)
        have hbk : bsN ops k + v.nb ≤ bsN ops (k + 1) := by rw [e6]; exact Nat.le_of_eq hbs.symm
        have hb0 : bsN ops k + 0 ≤ bsN ops (k + 1) := by omega
        have hfit : Fit s 1000000000 := hI.fit.mono (by omega)
        have hfew := hI.few
        have hnn := hI.n
        have hol : o.bs.length ≤ 1000000000 := by omega
        have hAk : A ≤ 200 := by have := hI.acts; omega
        obtain ⟨A1, hA1⟩ : ∃ A1, A + 1 = A1 := ⟨_, rfl⟩
        have i1 : (A : Int) + 1 = (A1 : Int) := by omega
        have i2 : IntKind.i64.wrap (A1 : Int) = (A1 : Int) := wrap_nat _ (by omega)
        obtain ⟨Y, hY⟩ : ∃ Y, wr.alloc (.cells #[.int .i64 v.kind, .string v.nm, .string v.to, .slice v.pb v.nb v.cb, .int .i64 v.n, .int .i64 v.m, .slice v.pi v.ni v.ci] 36) = Y := ⟨_, rfl⟩
        have bY : Below wr.heap.size wr Y := by rw [← hY]; exact (Below.refl _ _).alloc (Nat.le_refl _) _
        have kY : Y.heap[wr.heap.size]? = some (.cells #[.int .i64 v.kind, .string v.nm, .string v.to, .slice v.pb v.nb v.cb, .int .i64 v.n, .int .i64 v.m, .slice v.pi v.ni v.ci] 36 (0, 0)) := by rw [← hY]; exact heap_alloc_new _ _
        have dY := (unhide HD).below bY
        have hKY : Kpt B w1 Y := (unhide HK).trans (Kpt.of bY)
        have uY := unhide HUB Y hKY
        have y0 := cell_of_block kY 0
        have y1 := cell_of_block kY 1
        have y2 := cell_of_block kY 2
        have y3 := cell_of_block kY 3
        simp only [List.getElem?_toArray] at y0 y1 y2 y3
        replace y0 : Y.cell? ⟨wr.heap.size, 0, none⟩ = some (.int .i64 v.kind) := y0
        replace y1 : Y.cell? ⟨wr.heap.size, 1, none⟩ = some (.string v.nm) := y1
        replace y2 : Y.cell? ⟨wr.heap.size, 2, none⟩ = some (.string v.to) := y2
        replace y3 : Y.cell? ⟨wr.heap.size, 3, none⟩ = some (.slice v.pb v.nb v.cb) := y3
        have hsl : SlOf encB 1 Y v.pb v.cb o.bs := sb.below (unhide HBW Y hKY)
        have c1 := app_step dY uY (by omega) (by omega) hfit v.nm v.pb v.cb o.bs hsl hol
        rw [← e6] at c1
        have c2 := sync_step dY uY (by omega) v.nm
        have c3 := rename_step dY uY (by omega) (by omega) v.nm v.to
        have c4 := remove_step dY uY (by omega) v.nm
        have co := off_any dY
        have hend : ∀ (W : World) (s' : Dk) (E : Int) (d : Nat), Step s s' E d → bsN ops k + d ≤ bsN ops (k + 1) → DkAt B W (w1.heap.size + 1) s' → Kpt B Y W → ∀ A', A' = s'.acts → Hid (Inv nn s' ops (k + 1) A') ∧ Hid (Kpt B w1 W) := fun W s' E d h1 h2 h3 h4 A' h5 => ⟨hide (hI.step h1 h2 A' h5), hide (hKY.trans h4)⟩
        have hact : ∀ (W : World) (s' : Dk), DkAt B W (w1.heap.size + 1) s' → Calls Try.prog 12 #[.pointer (some ⟨w1.heap.size + 1, 0, none⟩)] W fun e w' => e = .returned (.int .i64 (s'.acts : Int)) ∧ w' = W := fun W s' h1 => acts_any h1
        have hof : ∀ (W : World) (s' : Dk), DkAt B W (w1.heap.size + 1) s' → Calls Try.prog 7 #[.pointer (some ⟨w1.heap.size + 1, 0, none⟩)] W fun e w' => e = .returned (.bool s'.off) ∧ w' = W := fun W s' h1 => off_any h1
        have hEA : A = s.acts := hI.acts
        have HEA := hide hEA
        have HPW := hide hI.pw
        have HEND := hide hend
        have HA1 := hide hA1
        have E6 := hide e6
        have HBK := hide hbk
        have HB0 := hide hb0
        have DY := hide dY
        have KY := hide hKY
        subst hq
        clear ho e1 e2 e3 e4 e5 e6 e7 sb si hI hbs hbl hbk hb0 hfit hfew hnn hol bY kY dY hKY uY hsl hend hEA hA1
        by_cases hk1 : v.kind = 1
        · have bt : (v.kind == 1) = true := beq_iff_eq.2 hk1
          clear hk1
          cases hso : s.off with
          | true =>
            rw [hso] at co
            go_upto_region 22 with (first
              | (go_at_call 7; refine co.mono ?_; rintro e wo ⟨rfl, hwo⟩; obtain rfl := hwo.symm)
              | (go_at_call 8; refine c1.mono ?_; rintro e w4 ⟨⟨E, s', rfl, st, d4⟩, k4⟩; have ST := hide st; have D4 := hide d4; have K4 := hide k4; clear st d4 k4))
            rcases (unhide ST).way with ⟨_, r2, _⟩ | ⟨_, r2, _⟩ | ⟨rfl, r2, r3, r4⟩ | ⟨_, r2, _⟩
            · rw [hso] at r2; cases r2
            · rw [hso] at r2; cases r2
            · have hac := hact w4 s' (unhide D4)
              have hof4 := hof w4 s' (unhide D4)
              rw [r3] at hof4
              rw [r4, ← unhide HEA] at hac
              obtain ⟨h8, h9⟩ := unhide HEND w4 s' 40 v.nb (unhide ST) (unhide HBK) (unhide D4) (unhide K4) A (by rw [r4]; exact unhide HEA)
              clear r2 r3 r4 hso hact hof
              go_wp2_with (first
                | (go_at_call 7; refine hof4.mono ?_; rintro e wo ⟨rfl, hwo⟩; obtain rfl := hwo.symm)
                | (go_at_call 12; refine hac.mono ?_; rintro e wo ⟨rfl, hwo⟩; obtain rfl := hwo.symm))
              go_roundw
              case rel => exact ⟨k + 1, s', A, by omega, by go_num, rfl, h8, D4, h9⟩
              case measure => simp [intOf]; omega
            · rw [hso] at r2; cases r2
          | false =>
            rw [hso] at co
            go_upto_region 22 with (first
              | (go_at_call 7; refine co.mono ?_; rintro e wo ⟨rfl, hwo⟩; obtain rfl := hwo.symm)
              | (go_at_call 8; refine c1.mono ?_; rintro e w4 ⟨⟨E, s', rfl, st, d4⟩, k4⟩; have ST := hide st; have D4 := hide d4; have K4 := hide k4; clear st d4 k4))
            rcases (unhide ST).way with ⟨rfl, r2, r3, r4, r5, r6⟩ | ⟨rfl, r2, r3, r4, r5⟩ | ⟨_, r2, _⟩ | ⟨r1, r2, r3, r4, r5⟩
            · have hac := hact w4 s' (unhide D4)
              have hof4 := hof w4 s' (unhide D4)
              rw [r4] at hof4
              rw [r6, ← unhide HEA, unhide HA1] at hac
              obtain ⟨h8, h9⟩ := unhide HEND w4 s' 0 v.nb (unhide ST) (unhide HBK) (unhide D4) (unhide K4) A1 (by rw [r6, ← unhide HEA, unhide HA1])
              clear r2 r3 r4 r5 r6 hso hact hof
              go_wp2_with (first
                | (go_at_call 7; refine hof4.mono ?_; rintro e wo ⟨rfl, hwo⟩; obtain rfl := hwo.symm)
                | (go_at_call 12; refine hac.mono ?_; rintro e wo ⟨rfl, hwo⟩; obtain rfl := hwo.symm))
              go_roundw
              case rel => exact ⟨k + 1, s', A1, by omega, by go_num, rfl, h8, D4, h9⟩
              case measure => simp [intOf]; omega
            · have hac := hact w4 s' (unhide D4)
              have hof4 := hof w4 s' (unhide D4)
              rw [r4] at hof4
              rw [r5, ← unhide HEA] at hac
              obtain ⟨h8, h9⟩ := unhide HEND w4 s' 40 v.nb (unhide ST) (unhide HBK) (unhide D4) (unhide K4) A (by rw [r5]; exact unhide HEA)
              have hn1 : n - 1 = (A : Int) := by
                have h1 := unhide HNN
                have h2 := unhide HEA
                rcases unhide HPW hso with ⟨p1, p2⟩ | ⟨p1, p2⟩ <;> omega
              have hn2 : IntKind.i64.wrap (A : Int) = (A : Int) := wrap_nat _ (by omega)
              clear r2 r3 r4 r5 hso hact hof
              go_wp2_with (first
                | (go_at_call 7; refine hof4.mono ?_; rintro e wo ⟨rfl, hwo⟩; obtain rfl := hwo.symm)
                | (go_at_call 12; refine hac.mono ?_; rintro e wo ⟨rfl, hwo⟩; obtain rfl := hwo.symm))
              go_roundw
              case rel => exact ⟨k + 1, s', A, by omega, by go_num, rfl, h8, D4, h9⟩
              case measure => simp [intOf]; omega
            · rw [hso] at r2; cases r2
            · have hac := hact w4 s' (unhide D4)
              have hof4 := hof w4 s' (unhide D4)
              rw [r3] at hof4
              rw [r5, ← unhide HEA] at hac
              obtain ⟨h8, h9⟩ := unhide HEND w4 s' E v.nb (unhide ST) (unhide HBK) (unhide D4) (unhide K4) A (by rw [r5]; exact unhide HEA)
              rcases r1 with rfl | rfl
              all_goals
                clear r2 r3 r4 r5 hso hact hof
                go_wp2_with (first
                  | (go_at_call 7; refine hof4.mono ?_; rintro e wo ⟨rfl, hwo⟩; obtain rfl := hwo.symm)
                  | (go_at_call 12; refine hac.mono ?_; rintro e wo ⟨rfl, hwo⟩; obtain rfl := hwo.symm))
                go_roundw
                case rel => exact ⟨k + 1, s', A, by omega, by go_num, rfl, h8, D4, h9⟩
                case measure => simp [intOf]; omega
        have bk1 : (v.kind == 1) = false := beq_eq_false_iff_ne.2 hk1
        by_cases hk2 : v.kind = 2
        · have bt : (v.kind == 2) = true := beq_iff_eq.2 hk2
          clear hk2
          cases hso : s.off with
          | true =>
            rw [hso] at co
            go_upto_region 22 with (first
              | (go_at_call 7; refine co.mono ?_; rintro e wo ⟨rfl, hwo⟩; obtain rfl := hwo.symm)
              | (go_at_call 9; refine c2.mono ?_; rintro e w4 ⟨⟨E, s', rfl, st, d4⟩, k4⟩; have ST := hide st; have D4 := hide d4; have K4 := hide k4; clear st d4 k4))
            rcases (unhide ST).way with ⟨_, r2, _⟩ | ⟨_, r2, _⟩ | ⟨rfl, r2, r3, r4⟩ | ⟨_, r2, _⟩
            · rw [hso] at r2; cases r2
            · rw [hso] at r2; cases r2
            · have hac := hact w4 s' (unhide D4)
              have hof4 := hof w4 s' (unhide D4)
              rw [r3] at hof4
              rw [r4, ← unhide HEA] at hac
              obtain ⟨h8, h9⟩ := unhide HEND w4 s' 40 0 (unhide ST) (unhide HB0) (unhide D4) (unhide K4) A (by rw [r4]; exact unhide HEA)
              clear r2 r3 r4 hso hact hof
              go_wp2_with (first
                | (go_at_call 7; refine hof4.mono ?_; rintro e wo ⟨rfl, hwo⟩; obtain rfl := hwo.symm)
                | (go_at_call 12; refine hac.mono ?_; rintro e wo ⟨rfl, hwo⟩; obtain rfl := hwo.symm))
              go_roundw
              case rel => exact ⟨k + 1, s', A, by omega, by go_num, rfl, h8, D4, h9⟩
              case measure => simp [intOf]; omega
            · rw [hso] at r2; cases r2
          | false =>
            rw [hso] at co
            go_upto_region 22 with (first
              | (go_at_call 7; refine co.mono ?_; rintro e wo ⟨rfl, hwo⟩; obtain rfl := hwo.symm)
              | (go_at_call 9; refine c2.mono ?_; rintro e w4 ⟨⟨E, s', rfl, st, d4⟩, k4⟩; have ST := hide st; have D4 := hide d4; have K4 := hide k4; clear st d4 k4))
            rcases (unhide ST).way with ⟨rfl, r2, r3, r4, r5, r6⟩ | ⟨rfl, r2, r3, r4, r5⟩ | ⟨_, r2, _⟩ | ⟨r1, r2, r3, r4, r5⟩
            · have hac := hact w4 s' (unhide D4)
              have hof4 := hof w4 s' (unhide D4)
              rw [r4] at hof4
              rw [r6, ← unhide HEA, unhide HA1] at hac
              obtain ⟨h8, h9⟩ := unhide HEND w4 s' 0 0 (unhide ST) (unhide HB0) (unhide D4) (unhide K4) A1 (by rw [r6, ← unhide HEA, unhide HA1])
              clear r2 r3 r4 r5 r6 hso hact hof
              go_wp2_with (first
                | (go_at_call 7; refine hof4.mono ?_; rintro e wo ⟨rfl, hwo⟩; obtain rfl := hwo.symm)
                | (go_at_call 12; refine hac.mono ?_; rintro e wo ⟨rfl, hwo⟩; obtain rfl := hwo.symm))
              go_roundw
              case rel => exact ⟨k + 1, s', A1, by omega, by go_num, rfl, h8, D4, h9⟩
              case measure => simp [intOf]; omega
            · have hac := hact w4 s' (unhide D4)
              have hof4 := hof w4 s' (unhide D4)
              rw [r4] at hof4
              rw [r5, ← unhide HEA] at hac
              obtain ⟨h8, h9⟩ := unhide HEND w4 s' 40 0 (unhide ST) (unhide HB0) (unhide D4) (unhide K4) A (by rw [r5]; exact unhide HEA)
              have hn1 : n - 1 = (A : Int) := by
                have h1 := unhide HNN
                have h2 := unhide HEA
                rcases unhide HPW hso with ⟨p1, p2⟩ | ⟨p1, p2⟩ <;> omega
              have hn2 : IntKind.i64.wrap (A : Int) = (A : Int) := wrap_nat _ (by omega)
              clear r2 r3 r4 r5 hso hact hof
              go_wp2_with (first
                | (go_at_call 7; refine hof4.mono ?_; rintro e wo ⟨rfl, hwo⟩; obtain rfl := hwo.symm)
                | (go_at_call 12; refine hac.mono ?_; rintro e wo ⟨rfl, hwo⟩; obtain rfl := hwo.symm))
              go_roundw
              case rel => exact ⟨k + 1, s', A, by omega, by go_num, rfl, h8, D4, h9⟩
              case measure => simp [intOf]; omega
            · rw [hso] at r2; cases r2
            · have hac := hact w4 s' (unhide D4)
              have hof4 := hof w4 s' (unhide D4)
              rw [r3] at hof4
              rw [r5, ← unhide HEA] at hac
              obtain ⟨h8, h9⟩ := unhide HEND w4 s' E 0 (unhide ST) (unhide HB0) (unhide D4) (unhide K4) A (by rw [r5]; exact unhide HEA)
              rcases r1 with rfl | rfl
              all_goals
                clear r2 r3 r4 r5 hso hact hof
                go_wp2_with (first
                  | (go_at_call 7; refine hof4.mono ?_; rintro e wo ⟨rfl, hwo⟩; obtain rfl := hwo.symm)
                  | (go_at_call 12; refine hac.mono ?_; rintro e wo ⟨rfl, hwo⟩; obtain rfl := hwo.symm))
                go_roundw
                case rel => exact ⟨k + 1, s', A, by omega, by go_num, rfl, h8, D4, h9⟩
                case measure => simp [intOf]; omega
        have bk2 : (v.kind == 2) = false := beq_eq_false_iff_ne.2 hk2
        by_cases hk3 : v.kind = 3
        · have bt : (v.kind == 3) = true := beq_iff_eq.2 hk3
          clear hk3
          cases hso : s.off with
          | true =>
            rw [hso] at co
            go_upto_region 22 with (first
              | (go_at_call 7; refine co.mono ?_; rintro e wo ⟨rfl, hwo⟩; obtain rfl := hwo.symm)
              | (go_at_call 10; refine c3.mono ?_; rintro e w4 ⟨⟨E, s', rfl, st, d4⟩, k4⟩; have ST := hide st; have D4 := hide d4; have K4 := hide k4; clear st d4 k4))
            rcases (unhide ST).way with ⟨_, r2, _⟩ | ⟨_, r2, _⟩ | ⟨rfl, r2, r3, r4⟩ | ⟨_, r2, _⟩
            · rw [hso] at r2; cases r2
            · rw [hso] at r2; cases r2
            · have hac := hact w4 s' (unhide D4)
              have hof4 := hof w4 s' (unhide D4)
              rw [r3] at hof4
              rw [r4, ← unhide HEA] at hac
              obtain ⟨h8, h9⟩ := unhide HEND w4 s' 40 0 (unhide ST) (unhide HB0) (unhide D4) (unhide K4) A (by rw [r4]; exact unhide HEA)
              clear r2 r3 r4 hso hact hof
              go_wp2_with (first
                | (go_at_call 7; refine hof4.mono ?_; rintro e wo ⟨rfl, hwo⟩; obtain rfl := hwo.symm)
                | (go_at_call 12; refine hac.mono ?_; rintro e wo ⟨rfl, hwo⟩; obtain rfl := hwo.symm))
              go_roundw
              case rel => exact ⟨k + 1, s', A, by omega, by go_num, rfl, h8, D4, h9⟩
              case measure => simp [intOf]; omega
            · rw [hso] at r2; cases r2
          | false =>
            rw [hso] at co
            go_upto_region 22 with (first
              | (go_at_call 7; refine co.mono ?_; rintro e wo ⟨rfl, hwo⟩; obtain rfl := hwo.symm)
              | (go_at_call 10; refine c3.mono ?_; rintro e w4 ⟨⟨E, s', rfl, st, d4⟩, k4⟩; have ST := hide st; have D4 := hide d4; have K4 := hide k4; clear st d4 k4))
            rcases (unhide ST).way with ⟨rfl, r2, r3, r4, r5, r6⟩ | ⟨rfl, r2, r3, r4, r5⟩ | ⟨_, r2, _⟩ | ⟨r1, r2, r3, r4, r5⟩
            · have hac := hact w4 s' (unhide D4)
              have hof4 := hof w4 s' (unhide D4)
              rw [r4] at hof4
              rw [r6, ← unhide HEA, unhide HA1] at hac
              obtain ⟨h8, h9⟩ := unhide HEND w4 s' 0 0 (unhide ST) (unhide HB0) (unhide D4) (unhide K4) A1 (by rw [r6, ← unhide HEA, unhide HA1])
              clear r2 r3 r4 r5 r6 hso hact hof
              go_wp2_with (first
                | (go_at_call 7; refine hof4.mono ?_; rintro e wo ⟨rfl, hwo⟩; obtain rfl := hwo.symm)
                | (go_at_call 12; refine hac.mono ?_; rintro e wo ⟨rfl, hwo⟩; obtain rfl := hwo.symm))
              go_roundw
              case rel => exact ⟨k + 1, s', A1, by omega, by go_num, rfl, h8, D4, h9⟩
              case measure => simp [intOf]; omega
            · have hac := hact w4 s' (unhide D4)
              have hof4 := hof w4 s' (unhide D4)
              rw [r4] at hof4
              rw [r5, ← unhide HEA] at hac
              obtain ⟨h8, h9⟩ := unhide HEND w4 s' 40 0 (unhide ST) (unhide HB0) (unhide D4) (unhide K4) A (by rw [r5]; exact unhide HEA)
              have hn1 : n - 1 = (A : Int) := by
                have h1 := unhide HNN
                have h2 := unhide HEA
                rcases unhide HPW hso with ⟨p1, p2⟩ | ⟨p1, p2⟩ <;> omega
              have hn2 : IntKind.i64.wrap (A : Int) = (A : Int) := wrap_nat _ (by omega)
              clear r2 r3 r4 r5 hso hact hof
              go_wp2_with (first
                | (go_at_call 7; refine hof4.mono ?_; rintro e wo ⟨rfl, hwo⟩; obtain rfl := hwo.symm)
                | (go_at_call 12; refine hac.mono ?_; rintro e wo ⟨rfl, hwo⟩; obtain rfl := hwo.symm))
              go_roundw
              case rel => exact ⟨k + 1, s', A, by omega, by go_num, rfl, h8, D4, h9⟩
              case measure => simp [intOf]; omega
            · rw [hso] at r2; cases r2
            · have hac := hact w4 s' (unhide D4)
              have hof4 := hof w4 s' (unhide D4)
              rw [r3] at hof4
              rw [r5, ← unhide HEA] at hac
              obtain ⟨h8, h9⟩ := unhide HEND w4 s' E 0 (unhide ST) (unhide HB0) (unhide D4) (unhide K4) A (by rw [r5]; exact unhide HEA)
              rcases r1 with rfl | rfl
              all_goals
                clear r2 r3 r4 r5 hso hact hof
                go_wp2_with (first
                  | (go_at_call 7; refine hof4.mono ?_; rintro e wo ⟨rfl, hwo⟩; obtain rfl := hwo.symm)
                  | (go_at_call 12; refine hac.mono ?_; rintro e wo ⟨rfl, hwo⟩; obtain rfl := hwo.symm))
                go_roundw
                case rel => exact ⟨k + 1, s', A, by omega, by go_num, rfl, h8, D4, h9⟩
                case measure => simp [intOf]; omega
        have bk3 : (v.kind == 3) = false := beq_eq_false_iff_ne.2 hk3
        by_cases hk4 : v.kind = 4
        · have bt : (v.kind == 4) = true := beq_iff_eq.2 hk4
          clear hk4
          cases hso : s.off with
          | true =>
            rw [hso] at co
            go_upto_region 22 with (first
              | (go_at_call 7; refine co.mono ?_; rintro e wo ⟨rfl, hwo⟩; obtain rfl := hwo.symm)
              | (go_at_call 11; refine c4.mono ?_; rintro e w4 ⟨⟨E, s', rfl, st, d4⟩, k4⟩; have ST := hide st; have D4 := hide d4; have K4 := hide k4; clear st d4 k4))
            rcases (unhide ST).way with ⟨_, r2, _⟩ | ⟨_, r2, _⟩ | ⟨rfl, r2, r3, r4⟩ | ⟨_, r2, _⟩
            · rw [hso] at r2; cases r2
            · rw [hso] at r2; cases r2
            · have hac := hact w4 s' (unhide D4)
              have hof4 := hof w4 s' (unhide D4)
              rw [r3] at hof4
              rw [r4, ← unhide HEA] at hac
              obtain ⟨h8, h9⟩ := unhide HEND w4 s' 40 0 (unhide ST) (unhide HB0) (unhide D4) (unhide K4) A (by rw [r4]; exact unhide HEA)
              clear r2 r3 r4 hso hact hof
              go_wp2_with (first
                | (go_at_call 7; refine hof4.mono ?_; rintro e wo ⟨rfl, hwo⟩; obtain rfl := hwo.symm)
                | (go_at_call 12; refine hac.mono ?_; rintro e wo ⟨rfl, hwo⟩; obtain rfl := hwo.symm))
              go_roundw
              case rel => exact ⟨k + 1, s', A, by omega, by go_num, rfl, h8, D4, h9⟩
              case measure => simp [intOf]; omega
            · rw [hso] at r2; cases r2
          | false =>
            rw [hso] at co
            go_upto_region 22 with (first
              | (go_at_call 7; refine co.mono ?_; rintro e wo ⟨rfl, hwo⟩; obtain rfl := hwo.symm)
              | (go_at_call 11; refine c4.mono ?_; rintro e w4 ⟨⟨E, s', rfl, st, d4⟩, k4⟩; have ST := hide st; have D4 := hide d4; have K4 := hide k4; clear st d4 k4))
            rcases (unhide ST).way with ⟨rfl, r2, r3, r4, r5, r6⟩ | ⟨rfl, r2, r3, r4, r5⟩ | ⟨_, r2, _⟩ | ⟨r1, r2, r3, r4, r5⟩
            · have hac := hact w4 s' (unhide D4)
              have hof4 := hof w4 s' (unhide D4)
              rw [r4] at hof4
              rw [r6, ← unhide HEA, unhide HA1] at hac
              obtain ⟨h8, h9⟩ := unhide HEND w4 s' 0 0 (unhide ST) (unhide HB0) (unhide D4) (unhide K4) A1 (by rw [r6, ← unhide HEA, unhide HA1])
              clear r2 r3 r4 r5 r6 hso hact hof
              go_wp2_with (first
                | (go_at_call 7; refine hof4.mono ?_; rintro e wo ⟨rfl, hwo⟩; obtain rfl := hwo.symm)
                | (go_at_call 12; refine hac.mono ?_; rintro e wo ⟨rfl, hwo⟩; obtain rfl := hwo.symm))
              go_roundw
              case rel => exact ⟨k + 1, s', A1, by omega, by go_num, rfl, h8, D4, h9⟩
              case measure => simp [intOf]; omega
            · have hac := hact w4 s' (unhide D4)
              have hof4 := hof w4 s' (unhide D4)
              rw [r4] at hof4
              rw [r5, ← unhide HEA] at hac
              obtain ⟨h8, h9⟩ := unhide HEND w4 s' 40 0 (unhide ST) (unhide HB0) (unhide D4) (unhide K4) A (by rw [r5]; exact unhide HEA)
              have hn1 : n - 1 = (A : Int) := by
                have h1 := unhide HNN
                have h2 := unhide HEA
                rcases unhide HPW hso with ⟨p1, p2⟩ | ⟨p1, p2⟩ <;> omega
              have hn2 : IntKind.i64.wrap (A : Int) = (A : Int) := wrap_nat _ (by omega)
              clear r2 r3 r4 r5 hso hact hof
              go_wp2_with (first
                | (go_at_call 7; refine hof4.mono ?_; rintro e wo ⟨rfl, hwo⟩; obtain rfl := hwo.symm)
                | (go_at_call 12; refine hac.mono ?_; rintro e wo ⟨rfl, hwo⟩; obtain rfl := hwo.symm))
              go_roundw
              case rel => exact ⟨k + 1, s', A, by omega, by go_num, rfl, h8, D4, h9⟩
              case measure => simp [intOf]; omega
            · rw [hso] at r2; cases r2
            · have hac := hact w4 s' (unhide D4)
              have hof4 := hof w4 s' (unhide D4)
              rw [r3] at hof4
              rw [r5, ← unhide HEA] at hac
              obtain ⟨h8, h9⟩ := unhide HEND w4 s' E 0 (unhide ST) (unhide HB0) (unhide D4) (unhide K4) A (by rw [r5]; exact unhide HEA)
              rcases r1 with rfl | rfl
              all_goals
                clear r2 r3 r4 r5 hso hact hof
                go_wp2_with (first
                  | (go_at_call 7; refine hof4.mono ?_; rintro e wo ⟨rfl, hwo⟩; obtain rfl := hwo.symm)
                  | (go_at_call 12; refine hac.mono ?_; rintro e wo ⟨rfl, hwo⟩; obtain rfl := hwo.symm))
                go_roundw
                case rel => exact ⟨k + 1, s', A, by omega, by go_num, rfl, h8, D4, h9⟩
                case measure => simp [intOf]; omega
        have bk4 : (v.kind == 4) = false := beq_eq_false_iff_ne.2 hk4
        clear hk1 hk2 hk3 hk4 hact hof c1 c2 c3 c4
        go_wp2_with (go_at_call 7; refine co.mono ?_; rintro e wo ⟨rfl, hwo⟩; obtain rfl := hwo.symm)
        go_roundw
        case rel => exact ⟨k + 1, s, A, by omega, by go_num, rfl, hide ((unhide HI).same (unhide HB0)), DY, KY⟩
        case measure => simp [intOf]; omega
      · obtain rfl : k = ops.length := by omega
        have ki1 : ¬ (ops.length : Int) < (ops.length : Int) := by omega
        go_wp2_with fail
        go_meet
        exact ⟨s, A, HI, HD, HK⟩
  case rest =>
    obtain ⟨s, A, HI, HD, HK⟩ := hcut
    have hI := unhide HI
    have hfew := hI.few
    have hnl := hI.n
    have hbl := bsN_le ops ops.length
    have hfit := hI.fit
    have hf32 : ∀ nm fl, s.get nm = some fl → nm.size ≤ 32 ∧ fl.bytes.length ≤ 140737488355328 := fun nm fl hf => ⟨name_size (hfit nm fl hf).1, by have := (hfit nm fl hf).2; omega⟩
    obtain ⟨B', hB'⟩ : ∃ B' : Nat → Prop, ∀ i, B' i ↔ (B i ∨ wc.heap.size ≤ i) := ⟨fun i => B i ∨ wc.heap.size ≤ i, fun _ => Iff.rfl⟩
    have dc : DkAt B' wc (w1.heap.size + 1) s := (unhide HD).more fun i hi => (hB' i).1 hi
    have hpg : ∀ q', 0 < cs.length → ∀ b off, q' = some ⟨b, off, none⟩ → q' = q3 → b ≠ w1.heap.size + 1 := fun q' h9 b off hq hq' => by obtain ⟨b', off', hq'', hb', _⟩ := (unhide H3).2.2.2 h9; rw [← hq', hq] at hq''; cases hq''; have := unhide HGW; omega
    have hcr1 := crash_any0 dc (by omega) hf32 q3 k3 cs ((unhide H3).below (unhide HBW wc (unhide HK))) (by omega) (fun h9 b off hq => hpg q3 h9 b off hq rfl)
    have hcr2 := fun (W : World) (h8 : DkAt B' W (w1.heap.size + 1) { s with off := true }) (h9 : SlOf encI 1 W q3 k3 cs) => crash_any0 h8 (by show s.n ≤ _; omega) hf32 q3 k3 cs h9 (by omega) (fun h9 b off hq => hpg q3 h9 b off hq rfl)
    have hofd := fun (W : World) (h8 : DkAt B' W (w1.heap.size + 1) { s with off := true }) => off_any h8
    have hard := fun (W : World) (h8 : DkAt B' W (w1.heap.size + 1) { s with off := true }) => arm_no h8 1 0 rfl
    have hnad := fun (W : World) (h8 : DkAt B' W (w1.heap.size + 1) { s with off := true }) => names_off h8 rfl
    have hnm := fun (Bx : Nat → Prop) (W : World) (g : Nat) (gt : ByteArray → Option Fl) (L : Nat) (h8 : DkAt Bx W g ⟨gt, L, 0, false, 0, 0⟩) (h9 : L ≤ s.n) => names_any h8 (by show L ≤ _; omega) rfl
    have hacz : ∀ (Bx : Nat → Prop) (W : World) (g : Nat) (gt : ByteArray → Option Fl) (L : Nat), DkAt Bx W g ⟨gt, L, 0, false, 0, 0⟩ → Calls Try.prog 12 #[.pointer (some ⟨g, 0, none⟩)] W fun e w' => e = .returned (.int .i64 0) ∧ w' = W := fun Bx W g gt L h8 => acts_any h8
    have hrd : ∀ (Bx : Nat → Prop) (W : World) (g : Nat) (gt : ByteArray → Option Fl) (L M : Nat) (x : ByteArray) (fl : Fl), DkAt Bx W g ⟨gt, L, 0, false, 0, 0⟩ → gt x = some fl → nameOk x = true → fl.bytes.length ≤ 4000000 → fl.bytes.length = M → Calls Try.prog 15 #[.pointer (some ⟨g, 0, none⟩), .string x] W fun e w' => (∃ q' c', e = .returned (.tuple #[.slice q' M c', .int .i64 0]) ∧ OwnK encB 5 1 W.heap.size w' q' c' fl.bytes) ∧ Below W.heap.size W w' := fun Bx W g gt L M x fl h6 h7 h8 h9 h10 => by
      have h := read_yes h6 rfl h8 h7 (by omega)
      rw [h10] at h
      exact h
    have hsw := fun (q q' : Option Addr) (c c' : Nat) (l : List ByteArray) (W : World) (h6 : SlOf encS 1 W q c l) (h7 : SlOf encS 1 W q' c' l) (h8 : l.length ≤ 1000000000) => same_words q q' c c' l W h6 h7 h8
    have hneS : ∀ (S : ByteArray) (W : World), (binOp .neq 9 (.string S) (.string S)).run Try.prog W = .ok (.bool false) W := fun S W => by have u9 := Try.underlying9; go_simp
    have hsn : s.n ≤ 200 := by omega
    have HFIT := hide (hfit.mono (show bsN ops ops.length ≤ 4000000 by omega))
    have HBB := hide hB'
    have DC := hide dc
    have HSN := hide hsn
    clear hI hfew hnl hbl hfit hf32 hB' dc hpg hsn
    go_upto_block 3 with (first
      | (go_at_call 13; (with_reducible refine (hcr2 w5 (unhide D5) (unhide S5)).mono ?_); rintro e w6 ⟨⟨gb, lb, getb, rfl, hnb, hfb, db, hlb⟩, d6, k6⟩; obtain rfl := names_unique (unhide NA) hnb; obtain rfl := found_unique (unhide NA) (unhide FA) hfb; have DA6 := hide ((unhide DA).lies (fun i hi his => k6.block i ((unhide HBB i).2 (Or.inr (Nat.not_lt.1 hi))) his)); have DB := hide db; have D6 := hide d6; have K6 := hide ((unhide K5).trans (k6.mono fun i hi => (unhide HBB i).2 (Or.inl hi))); clear hnb hfb db hlb d6 k6)
      | (go_at_call 13; (with_reducible refine hcr1.mono ?_); rintro e w5 ⟨⟨ga, la, geta, rfl, hna, hfa, da, hla⟩, d5, k5⟩; have NA := hide hna; have FA := hide hfa; have DA := hide da; have D5 := hide d5; have LA := hide hla; have K5 := hide ((unhide HK).trans (k5.mono fun i hi => (unhide HBB i).2 (Or.inl hi))); have S5 := hide ((unhide H3).below (unhide HBW w5 (unhide K5))); have FF := hide (found_fit hna hfa (unhide HFIT)); clear hna hfa da hla d5 k5)
      | (go_at_call 7; refine (hofd w6 (unhide D6)).mono ?_; rintro e wo ⟨rfl, hwo⟩; obtain rfl := hwo.symm)
      | (go_at_call 6; refine (hard w6 (unhide D6)).mono ?_; rintro e wo ⟨rfl, hwo⟩; obtain rfl := hwo.symm)
      | (go_at_call 14; (with_reducible refine (hnad w6 (unhide D6)).mono ?_); rintro e wo ⟨rfl, hwo⟩; obtain rfl := hwo.symm)
      | (go_at_call 14; (with_reducible refine (hnm _ w6 ga geta la.length (unhide DA6) (unhide LA)).mono ?_); rintro e w7 ⟨⟨q7, c7, l7, rfl, o7, n7, m7⟩, b7⟩; have O7 := hide o7; have N7 := hide n7; have M7 := hide m7; have DA7 := hide ((unhide DA6).below b7); have DB7 := hide ((unhide DB).below b7); have K7 := hide ((unhide K6).trans (Kpt.of b7)); clear o7 n7 m7 b7))
    go_wp2_with fail
    go_loopw [159] (fun i wr => ∃ j : Nat, j ≤ l7.length ∧ i = .int .i64 (j : Int) ∧ Hid (Below w7.heap.size w7 wr)) (fun i _ => l7.length - (intOf i).toNat)
    case atStart => exact ⟨0, Nat.zero_le _, rfl, hide (Below.refl _ _)⟩
    case round =>
      obtain ⟨j, hj, rfl, HBj⟩ := hrel
      have hl7 : l7.length ≤ 200 := by have h1 := unhide M7; have h2 : l7.length ≤ la.length := h1; have h3 := unhide LA; have h4 := unhide HSN; omega
      by_cases hlt : j < l7.length
      · obtain ⟨x, hx, _⟩ := get_at hlt
        obtain ⟨b, off, hq, hb, cx⟩ := strAt ((unhide O7).ls.below (unhide HBj)) hx
        have ki0 : (0 : Int) ≤ (j : Int) := by omega
        have ki1 : (j : Int) < (l7.length : Int) := by omega
        obtain ⟨fl, hfl⟩ := Option.isSome_iff_exists.1 (((unhide N7).2 x).1 (List.mem_of_getElem? hx))
        have hfl' : geta x = some fl := hfl
        obtain ⟨hok, hfz⟩ := unhide FF x fl hfl'
        obtain ⟨M, hM⟩ : ∃ M, fl.bytes.length = M := ⟨_, rfl⟩
        have r1 := hrd _ wr ga geta la.length M x fl ((unhide DA7).below (unhide HBj)) hfl' hok hfz hM
        have r2 := fun (W : World) (hW : Below w7.heap.size w7 W) => hrd _ W gb geta la.length M x fl ((unhide DB7).below hW) hfl' hok hfz hM
        have hcv : ∀ (W : World) (q : Option Addr) (c : Nat), SlOf encB 1 W q c fl.bytes → (convert 34 9 (.slice q M c)).run Try.prog W = .ok (.string ⟨fl.bytes.toArray⟩) W := fun W q c h => by have h9 := conv_sl h; rw [hM] at h9; exact h9
        have HCV := hide hcv
        have hne := hneS ⟨fl.bytes.toArray⟩
        generalize (⟨fl.bytes.toArray⟩ : ByteArray) = S9 at *
        subst hq
        clear hx hfl hfl' hok hfz hM hrd hneS hcv
        go_wp2_with (first
          | (go_at_call 15; (with_reducible refine (r2 w8 (unhide B8)).mono ?_); rintro e w9 ⟨⟨q9, c9, rfl, o9⟩, b9⟩; have v1 := unhide HCV w9 q8 c8 ((unhide O8).below b9).ls; have v2 := unhide HCV w9 q9 c9 o9.ls; have B9 := hide (below_sub (unhide B8) b9); clear o9 b9)
          | (go_at_call 15; (with_reducible refine r1.mono ?_); rintro e w8 ⟨⟨q8, c8, rfl, o8⟩, b8⟩; have O8 := hide o8; have B8 := hide (below_sub (unhide HBj) b8); clear o8 b8))
        go_roundw
        case rel => exact ⟨j + 1, by omega, by go_num, B9⟩
        case measure => simp [intOf]; omega
      · obtain rfl : j = l7.length := by omega
        have ki1 : ¬ (l7.length : Int) < (l7.length : Int) := by omega
        have dbw := (unhide DB7).below (unhide HBj)
        have daw := (unhide DA7).below (unhide HBj)
        have n2 := hnm _ wr gb geta la.length dbw (unhide LA)
        have hac2 := fun (W : World) (hW : Below wr.heap.size wr W) => hacz _ W ga geta la.length (daw.below hW)
        have O7' := hide ((unhide O7).below (unhide HBj))
        clear dbw daw hrd hneS hnm hacz
        go_wp2_with (first
          | (go_at_call 14; refine n2.mono ?_; rintro e w8 ⟨⟨q8, c8, l8, rfl, o8, n8, m8⟩, b8⟩; obtain rfl := names_unique (unhide N7) n8; have O8 := hide o8; have B8 := hide b8; clear o8 n8 m8 b8)
          | (go_at_call 16; refine (hsw q7 q8 c7 c8 l7 w8 ((unhide O7').below (unhide B8)).ls (unhide O8).ls (by omega)).mono ?_; rintro e w9 ⟨rfl, b9⟩; have B9 := hide (below_sub (unhide B8) b9); clear b9)
          | (go_at_call 12; refine (hac2 w9 (unhide B9)).mono ?_; rintro e wo ⟨rfl, hwo⟩; obtain rfl := hwo.symm))
        go_ret
        exact ⟨rfl, unhide HBW w9 (((unhide K7).trans (Kpt.of (unhide HBj))).trans (Kpt.of (unhide B9)))⟩
end Go.Proofs.Ytoncnfncgmaknaa

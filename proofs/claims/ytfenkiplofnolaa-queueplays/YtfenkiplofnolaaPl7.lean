/- QueuePlays: the program gives the document's answer at every row of calls. -/
import Derived.Test.YtfenkiplofnolaaPl8
import Derived.Deep.CutRange
import Derived.Deep.CutBlock
namespace Go.Proofs.Ytfenkiplofnolaa
open Go.RowKit Go.Sort Go.Shelf

set_option maxHeartbeats 16000000 in
set_option maxRecDepth 100000 in
theorem plays_law (pp : Option Addr) (cc : Nat) (ops : List Oq) (w : World) (h1 : OpsOf w pp cc ops) (hb : ops.length ≤ 100000000000000) (hl : ∀ o ∈ ops, o.l.length * 8 + 64 ≤ 140737488355328) :
    Calls Try.prog 3 #[.slice pp ops.length cc] w fun e w' => e = .returned (.bool true) ∧ Below w.heap.size w w' := by
  have mixed : Try.prog.follows .mixedOrders = true := by kernel_rfl
  have hfx := fixed_any w
  have H1 := hide h1
  have HL := hide hl
  have n0 : (ops.length : Int) ≤ 100000000000000 := by omega
  clear h1 hl
  go_enter Try.func3, Try.ntmps3
  go_upto_region 5 with (go_at_call 7; refine hfx.mono ?_; rintro e w1 ⟨rfl, b1⟩; have B1 := hide b1; clear b1)
  obtain ⟨A, hA⟩ : ∃ A, w1.heap.size = A := ⟨_, rfl⟩
  obtain ⟨W0, hW0⟩ : ∃ W0, (w1.alloc (.cells #[.pointer none, .pointer none, .pointer none, .pointer none] 25)).alloc (.cells #[.pointer none, .pointer none, .pointer none, .pointer none] 27) = W0 := ⟨_, rfl⟩
  have hWA : W0.heap[A]? = some (.cells (arr 0 (fun _ => 0)) 25 (0, 0)) := by
    rw [← hW0, ← hA, (alloc_b (w1.alloc _) _).block w1.heap.size (by simp)]
    exact box_nw w1 _
  have hWR : W0.heap[A + 1]? = some (.cells (arr 0 (fun _ => 0)) 27 (0, 0)) := by
    have := box_nw (w1.alloc (.cells #[.pointer none, .pointer none, .pointer none, .pointer none] 25)) (.cells #[.pointer none, .pointer none, .pointer none, .pointer none] 27)
    rw [hW0, World.size_alloc, hA] at this
    exact this
  have hwA : w.heap.size ≤ A := by rw [← hA]; exact (unhide B1).size
  have hBW0 : Below A w W0 ∨ True := Or.inr trivial
  have hB0 : Below w.heap.size w W0 := by
    rw [← hW0]
    exact ((unhide B1).alloc (unhide B1).size _).alloc (by have := (unhide B1).size; simp; omega) _
  have hAW : A ≤ W0.heap.size := Nat.le_of_lt (Array.getElem?_eq_some_iff.1 hWA).1
  obtain ⟨R, hR⟩ : ∃ R, A + 1 = R := ⟨_, rfl⟩
  rw [hR] at hWR
  have hAR : ¬ A = R := by omega
  have hRA : A ≤ R := by omega
  have hPS : PS 0 W0 A A R (fun _ => 0) (fun _ => 0) (fun _ => none) (fun _ => none) (fun _ => 0) (fun _ => 0) (fun _ => 0) (fun _ => 0) (fun _ => []) (fun _ => []) :=
    ⟨hWA, hWR, fun k h => absurd h (Nat.not_lt_zero k), fun k h => absurd h (Nat.not_lt_zero k), fun k _ h => absurd h (Nat.not_lt_zero k), fun k _ h => absurd h (Nat.not_lt_zero k), fun k _ h => absurd h (Nat.not_lt_zero k), fun k _ h => absurd h (Nat.not_lt_zero k), fun k h => absurd h (Nat.not_lt_zero k), Nat.le_refl _, hRA, fun k h => absurd h (Nat.not_lt_zero k), fun k h => absurd h (Nat.not_lt_zero k)⟩
  rw [hA, hR]
  have HPS := hide hPS
  have HB0 := hide hB0
  have HNEW := hide (fun (r : Int) (W : World) => newI r W)
  have HRNEW := hide (fun (r : Int) (W : World) => rnew r W)
  clear hPS hB0 hWA hWR hA hR hBW0 hfx
  go_wp2
  clear hW0
  go_loopw [23] (fun i wr => ∃ (k : Nat) (gi gr : Nat → Nat) (q p : Nat → Option Addr) (c d m : Nat → Nat) (l : Nat → List Int), k ≤ 4 ∧ i = .int .i64 k ∧ Hid (PS k wr A A R gi gr q p c d m m l l) ∧ Hid (Below A W0 wr)) (fun i _ => 4 - (intOf i).toNat)
  case atStart => exact ⟨0, _, _, _, _, _, _, _, _, by omega, rfl, HPS, hide (Below.refl _ _)⟩
  case round =>
    obtain ⟨k, gi, gr, q, p, c, d, m, l, hk, rfl, HP, HB⟩ := hrel
    have hAr : A ≤ wr.heap.size := Nat.le_trans hAW (unhide HB).size
    by_cases hlt : k < 4
    · have k1 : (k : Int) < 4 := by omega
      have k0 : (0 : Int) ≤ (k : Int) := by omega
      go_wp2
      go_region_held3 (fun _ => True) (trivial) (first
        | (go_at_call 9; refine (unhide HRNEW _ _).mono ?_; rintro e w4 ⟨rfl, i4, b4⟩; obtain ⟨⟨v1, a1⟩, a2⟩ := arr_any (((unhide HP).below (unhide B3)).below (below_hp (by rfl) (by rfl) (by rfl) (by rfl) b4)).arrA hlt; obtain ⟨⟨v2, r1⟩, r2⟩ := arr_any (((unhide HP).below (unhide B3)).below (below_hp (by rfl) (by rfl) (by rfl) (by rfl) b4)).arrR hlt; obtain ⟨r3, r4⟩ := cell_set_other (k := k) w4 (.pointer (some ⟨wr.heap.size, 0, none⟩)) hAR; rw [r1] at r3; rw [r2] at r4; have I4 := hide i4; have B4 := hide (below_hp (w := w3) (by rfl) (by rfl) (by rfl) (by rfl) b4); clear i4 b4)
        | (go_at_call 8; refine (unhide HNEW _ _).mono ?_; rintro e w3 ⟨rfl, i3, b3⟩; have I3 := hide i3; have B3 := hide (below_hp (w := wr) (by rfl) (by rfl) (by rfl) (by rfl) b3); clear i3 b3))
      have hp4 := ((unhide HP).below (unhide B3)).below (unhide B4)
      obtain ⟨V, hV⟩ : ∃ V, (w4.setCell ⟨A, k, none⟩ (.pointer (some ⟨wr.heap.size, 0, none⟩))).setCell ⟨R, k, none⟩ (.pointer (some ⟨w3.heap.size, 0, none⟩)) = V := ⟨_, rfl⟩
      have htw := two_set (k := k) (B := A) (x := .pointer (some ⟨wr.heap.size, 0, none⟩)) (y := .pointer (some ⟨w3.heap.size, 0, none⟩)) hp4.arrA hp4.arrR hAR (Nat.le_refl _) hRA
      rw [hV] at htw
      obtain ⟨pn, sn⟩ := (unhide HP).neu hAr (Nat.le_refl k) hlt (unhide I3) (unhide B3) (unhide I4) (unhide B4) htw
      rw [show max k (k + 1) = k + 1 by omega] at pn sn
      have hcl := (arr_cell pn.arrA (Nat.lt_succ_self k) hlt).1
      rw [upd_same] at hcl
      have PN := hide pn
      have BN := hide sn.b
      clear pn sn htw hp4 a1 a2 r1 r2 r3 r4
      rename_i hHeld
      clear hHeld
      go_wp2
      clear hV
      go_roundw
      case rel => exact ⟨k + 1, _, _, _, _, _, _, _, _, by omega, by go_num, PN, hide ((unhide HB).trans (unhide BN))⟩
      case measure => simp [intOf]; omega
    · obtain rfl : 4 = k := by omega
      have k1 : ¬ ((4 : Nat) : Int) < 4 := by omega
      obtain ⟨W1, hW1⟩ : ∃ W1, wr = W1 := ⟨_, rfl⟩
      have hB1 : Below w.heap.size w wr := (unhide HB0).trans ((unhide HB).mono hwA)
      rw [hW1] at hB1 HP hAr
      have HB1 := hide hB1
      clear hB1 HB HNEW HRNEW
      go_wp2
      clear hW1
      go_loopw [41] (fun i wr => ∃ (k : Nat) (gi gr : Nat → Nat) (q p : Nat → Option Addr) (c d m : Nat → Nat) (l : Nat → List Int), k ≤ ops.length ∧ i = .int .i64 k ∧ Hid (PS 4 wr A A R gi gr q p c d m m l l) ∧ Hid (Below A W1 wr)) (fun i _ => ops.length - (intOf i).toNat)
      case atStart => exact ⟨0, gi, gr, q, p, c, d, m, l, by omega, rfl, HP, hide (Below.refl _ _)⟩
      case round =>
        clear HP
        obtain ⟨k, gi, gr, q, p, c, d, m, l, hk, rfl, HP, HB⟩ := hrel
        have hAw : A ≤ wr.heap.size := Nat.le_trans hAr (unhide HB).size
        have hbw : Below w.heap.size w wr := (unhide HB1).trans ((unhide HB).mono hwA)
        by_cases hlt : k < ops.length
        · obtain ⟨o, ho, _⟩ := get_at hlt
          obtain ⟨b, off, hp, hbl, ⟨d0, d1, d2, d3⟩, hsl⟩ := ((unhide H1).below hbw).at ho
          subst hp
          have hol : o.l.length * 8 + 64 ≤ 140737488355328 := unhide HL o (List.mem_of_getElem? ho)
          have ki0 : (0 : Int) ≤ (k : Int) := by omega
          have ki1 : (k : Int) < (ops.length : Int) := by omega
          have HBW := hide hbw
          have HOO := hide ho
          clear ho hbw
          obtain ⟨okind, owhich, oq, oc, ol, onn⟩ := o
          dsimp only at d0 d1 d2 d3 hsl hol
          obtain ⟨nx, hnx⟩ : ∃ nx, ol.length = nx := ⟨_, rfl⟩
          rw [hnx] at d2 hol
          obtain ⟨bx, hbx⟩ : ∃ bx, wr.heap.size = bx := ⟨_, rfl⟩
          obtain ⟨Z, hZ⟩ : ∃ Z, wr.alloc (.cells #[.int .i64 okind, .int .i64 owhich, .slice oq nx oc, .int .i64 onn] 32) = Z := ⟨_, rfl⟩
          have bZ : Below wr.heap.size wr Z := by rw [← hZ]; exact alloc_b _ _
          have kZ : Z.heap[bx]? = some (.cells #[.int .i64 okind, .int .i64 owhich, .slice oq nx oc, .int .i64 onn] 32 (0, 0)) := by rw [← hZ, ← hbx]; exact box_nw _ _
          obtain ⟨z0, z1, z2, z3⟩ := cells4 kZ
          have hmem := memI oq oc ol Z (hsl.below bZ) (by rw [hnx]; exact hol)
          rw [hnx] at hmem
          have hbits := and_three owhich
          obtain ⟨kk, hkk⟩ : ∃ kk, b3 owhich = kk := ⟨_, rfl⟩
          have hkk4 : kk < 4 := by rw [← hkk]; exact b3_lt _
          rw [hkk] at hbits
          have PZ := hide ((unhide HP).below bZ)
          have HLT := hide (show ∀ i, PF 4 A R gi gr q p i → i < bx from fun i hi => by rw [← hbx]; exact (unhide HP).pf_lt hi)
          have HKZ := hide kZ
          have hbxZ : bx < Z.heap.size := (Array.getElem?_eq_some_iff.1 kZ).1
          have HNX := hide hnx
          have BZ := hide (bZ.mono hAw)
          have hAb : A ≤ bx := by omega
          have HSZ := hide (hsl.below bZ)
          go_upto_block 4 with (go_at_call 10; refine hmem.mono ?_; rintro e w9 ⟨⟨g9, cp, rfl, o9, hcp⟩, b9⟩; have hk9 := (b9.block bx hbxZ).trans (unhide HKZ); obtain ⟨y0, y1, y2, y3⟩ := cells4 hk9; have O9 := hide o9; have B9 := hide b9; have K9 := hide hk9; clear o9 b9 hk9)
          have P9 := hide ((unhide PZ).below (unhide B9))
          have hA9 : A ≤ w9.heap.size := Nat.le_trans (Nat.le_trans hAw (by have := (unhide BZ).size; exact this)) (unhide B9).size
          have hb9 : bx < w9.heap.size := Nat.lt_of_lt_of_le hbxZ (unhide B9).size
          have HG9 := hide (show Z.heap.size ≤ g9 ∧ g9 < w9.heap.size from (unhide O9).blk rfl)
          have BW9 := hide (show Below w.heap.size w w9 from (unhide HBW).trans (((unhide BZ).trans ((unhide B9).mono (by omega))).mono hwA))
          clear hmem hZ d0 d1 d2 d3 z0 z1 z2 z3 hbx hkk hsl hnx kZ bZ
          go_cut [10] from 53 to 142 (fun v V => v = .bool true ∧ Hid (∃ (gi' gr' : Nat → Nat) (q' p' : Nat → Option Addr) (c' d' m1 : Nat → Nat) (l1 : Nat → List Int), PS 4 V A A R gi' gr' q' p' c' d' m1 m1 l1 l1 ∧ Stp A w9 V (PF 4 A R gi gr q p) (PF 4 A R gi' gr' q' p')))
          case first =>
            by_cases e1 : okind = 1
            · subst e1
              have f1 : ((1 : Int) == 1) = true := by decide
              have p9 := unhide P9
              have k0 : (0 : Int) ≤ (kk : Int) := by omega
              have k4 : (kk : Int) < 4 := by omega
              have hnAx : A ≠ bx := fun e => by have := unhide HLT A (Or.inl rfl); omega
              have hnRx : R ≠ bx := fun e => by have := unhide HLT R (Or.inr (Or.inl rfl)); omega
              have hbk : ∀ V, Below w9.heap.size w9 V → V.cell? ⟨bx, 3, none⟩ = some (.int .i64 onn) := fun V hV => (cells4 ((hV.block bx hb9).trans (unhide K9))).2.2.2
              have hsA : ∀ (V : World) (x : Value), V.cell? ⟨bx, 3, none⟩ = some (.int .i64 onn) → (V.setCell ⟨A, kk, none⟩ x).cell? ⟨bx, 3, none⟩ = some (.int .i64 onn) := fun V x h => by
                have h5 := heap_setCell_other V ⟨A, kk, none⟩ bx x (Ne.symm hnAx)
                unfold World.cell? at h ⊢
                rw [h5]
                exact h
              have hsR : ∀ (V : World) (x : Value), V.cell? ⟨bx, 3, none⟩ = some (.int .i64 onn) → (V.setCell ⟨R, kk, none⟩ x).cell? ⟨bx, 3, none⟩ = some (.int .i64 onn) := fun V x h => by
                have h5 := heap_setCell_other V ⟨R, kk, none⟩ bx x (Ne.symm hnRx)
                unfold World.cell? at h ⊢
                rw [h5]
                exact h
              have hz3 := hbk w9 (Below.refl _ _)
              have hnew := fun (W : World) => newI onn W
              have hrnew := fun (W : World) => rnew onn W
              have HBK := hide hbk
              have HSA := hide hsA
              have HSR := hide hsR
              have HNEW := hide hnew
              have HRNEW := hide hrnew
              clear hbk hsA hsR hnew hrnew p9
              go_wp2
              go_region_held3 (fun V => V.cell? ⟨bx, 3, none⟩ = some (.int .i64 onn)) (first | exact hz3 | exact unhide HSR _ _ (unhide HSA _ _ (unhide C4)) | exact unhide HSA _ _ (unhide C4) | exact unhide C4 | exact unhide C3 | assumption) (first
                | (go_at_call 9; have tst := unhide C3; clear tst; refine (unhide HRNEW _).mono ?_; rintro e w4 ⟨rfl, i4, b4⟩; have bb4 := below_hp (w := w3) (by rfl) (by rfl) (by rfl) (by rfl) b4; have p4 := ((unhide P9).below (unhide B3)).below bb4; obtain ⟨⟨v1, a1⟩, a2⟩ := arr_any p4.arrA hkk4; obtain ⟨⟨v2, r1⟩, r2⟩ := arr_any p4.arrR hkk4; obtain ⟨r3, r4⟩ := cell_set_other (k := kk) w4 (.pointer (some ⟨w9.heap.size, 0, none⟩)) hAR; rw [r1] at r3; rw [r2] at r4; have I4 := hide i4; have B4 := hide bb4; have C4 := hide (unhide HBK w4 ((unhide B3).trans (bb4.mono (unhide B3).size))); have P4 := hide p4; clear i4 b4 bb4 p4)
                | (go_at_call 8; refine (unhide HNEW _).mono ?_; rintro e w3 ⟨rfl, i3, b3⟩; have bb3 := below_hp (w := w9) (by rfl) (by rfl) (by rfl) (by rfl) b3; have I3 := hide i3; have B3 := hide bb3; have C3 := hide (unhide HBK w3 bb3); clear i3 b3 bb3))
              all_goals
                obtain ⟨V, hV⟩ : ∃ V, (w4.setCell ⟨A, kk, none⟩ (.pointer (some ⟨w9.heap.size, 0, none⟩))).setCell ⟨R, kk, none⟩ (.pointer (some ⟨w3.heap.size, 0, none⟩)) = V := ⟨_, rfl⟩
                have htw := two_set (k := kk) (B := A) (x := .pointer (some ⟨w9.heap.size, 0, none⟩)) (y := .pointer (some ⟨w3.heap.size, 0, none⟩)) (unhide P4).arrA (unhide P4).arrR hAR (Nat.le_refl _) hRA
                rw [hV] at htw
                obtain ⟨pn, sn⟩ := (unhide P9).neu hA9 (Nat.le_of_lt hkk4) hkk4 (unhide I3) (unhide B3) (unhide I4) (unhide B4) htw
                rw [show max 4 (kk + 1) = 4 by omega] at pn sn
                have hcl := (arr_cell pn.arrA hkk4 hkk4).1
                rw [upd_same] at hcl
                have PN := hide pn
                have SN := hide sn
                clear pn sn htw a1 a2 r1 r2 r3 r4
                go_wp2
                go_meet
                case rel => exact ⟨rfl, hide ⟨_, _, _, _, _, _, _, _, unhide PN, unhide SN⟩⟩
            · by_cases e2 : okind = 2
              · subst e2
                have f1 : ((2 : Int) == 1) = false := by decide
                have f2 : ((2 : Int) == 2) = true := by decide
                have p9 := unhide P9
                have hgl9 := unhide HG9
                have hnf : ∀ i, Z.heap.size ≤ i ∨ i = bx → ¬ PF 4 A R gi gr q p i := fun i hi hf => by have := unhide HLT i hf; omega
                have hmine : SlOf encI 1 w9 (some ⟨g9, 0, none⟩) cp ol := by
                  have h5 := take_sl (by decide) (unhide O9).ls ol.length (by rw [List.length_append]; omega)
                  rwa [List.take_left] at h5
                have hput := fun (W : World) (hW : W.heap = w9.heap) => putI (gi kk) (q kk) (c kk) (m kk) (l kk) (some ⟨g9, 0, none⟩) cp ol W ((p9.hp hW).Q kk hkk4) (hmine.hpS hW) (by rw [unhide HNX]; omega)
                rw [unhide HNX] at hput
                obtain ⟨N, hN⟩ : ∃ N, min nx (m kk - (l kk).length) = N := ⟨_, rfl⟩
                rw [hN] at hput
                have hslw : ∀ (V : World), Stp A w9 V (PF 4 A R gi gr q p) (PF 4 A R gi gr (q) p) ∨ Below w.heap.size w V → Below w.heap.size w V → SlOf encI 1 V oq oc ol := fun V _ hV => ((unhide H1).below hV).2 _ (List.mem_of_getElem? (unhide HOO))
                have hcx : ∀ (V : World) (gi' gr' : Nat → Nat) (q' p' : Nat → Option Addr) (c' d' m1 m2 : Nat → Nat) (l1 l2 : Nat → List Int) (F : Nat → Prop), PS 4 V A A R gi' gr' q' p' c' d' m1 m2 l1 l2 → Stp A w9 V (PF 4 A R gi gr q p) F → (V.cell? ⟨A, kk, none⟩ = some (.pointer (some ⟨gi' kk, 0, none⟩)) ∧ V.cell? ⟨R, kk, none⟩ = some (.pointer (some ⟨gr' kk, 0, none⟩))) ∧ V.cell? ⟨bx, 2, none⟩ = some (.slice oq nx oc) := fun V _ _ _ _ _ _ _ _ _ _ F hp hs => by
                  refine ⟨⟨(arr_cell hp.arrA hkk4 hkk4).1, (arr_cell hp.arrR hkk4 hkk4).1⟩, ?_⟩
                  have hbk : V.heap[bx]? = w9.heap[bx]? := hs.k.block bx (hnf bx (Or.inr rfl)) hb9
                  exact (cells4 (hbk.trans (unhide K9))).2.2.1
                obtain ⟨⟨a0, a1⟩, a2⟩ := hcx w9 _ _ _ _ _ _ _ _ _ _ _ p9 (Stp.of (Below.refl _ _) hA9)
                have k0 : (0 : Int) ≤ (kk : Int) := by omega
                have k4 : (kk : Int) < 4 := by omega
                have hrput := fun (W : World) (q' : Nat → Option Addr) (c' : Nat → Nat) (l1 : Nat → List Int) (hp : PS 4 W A A R gi gr q' p c' d m m l1 l) (hb : Below w.heap.size w W) => rput (gr kk) (p kk) (d kk) (m kk) (l kk) oq oc ol W (hp.Rr kk hkk4) (((unhide H1).below hb).2 _ (List.mem_of_getElem? (unhide HOO)))
                simp only [unhide HNX, hN] at hrput
                have hb0 : ((N : Int) == (N : Int)) = true := by simp
                have HPUT := hide hput
                have HRPUT := hide hrput
                have HCX := hide hcx
                clear hput hrput hcx p9 hmine hN hslw hnf hgl9
                go_wp2
                go_region_held3 (fun V => (V.cell? ⟨A, kk, none⟩ = some (.pointer (some ⟨gi kk, 0, none⟩)) ∧ V.cell? ⟨R, kk, none⟩ = some (.pointer (some ⟨gr kk, 0, none⟩))) ∧ V.cell? ⟨bx, 2, none⟩ = some (.slice oq nx oc)) (first | exact ⟨⟨a0, a1⟩, a2⟩ | exact unhide C6 | exact unhide C5 | assumption) (first
                  | (go_at_call 12; have tst := unhide P5; clear tst; refine (unhide HRPUT _ _ _ _ ((unhide P5).hp (by rfl)) (by exact below_hp2 (unhide BW5) (by rfl) (by rfl) (by rfl) (by rfl))).mono ?_; rintro e w6 ⟨rfl, p6, d6, i6, g6, n6⟩; obtain ⟨ps6, st6⟩ := ((unhide P5).hp (by rfl)).opR (by exact (Nat.le_trans hA9 (unhide S5).k.size)) hkk4 i6 g6 (fun i hi => Or.inr (n6 i hi)); have P6 := hide ps6; have S6 := hide ((unhide S5).trans (st6.hp (by rfl) (by rfl) (by rfl) (by rfl))); have C6 := hide (unhide HCX _ _ _ _ _ _ _ _ _ _ _ _ (unhide P6) (unhide S6)); clear ps6 st6 i6 g6 n6)
                  | (go_at_call 11; refine (unhide HPUT _ (by rfl)).mono ?_; rintro e w5 ⟨rfl, q5, c5, i5, m5⟩; obtain ⟨ps5, st5⟩ := ((unhide P9).hp (by rfl)).opQ (by exact hA9) hkk4 i5 m5; have P5 := hide ps5; have S5 := hide (st5.hp (w := w9) (by rfl) (by rfl) (by rfl) (by rfl)); have C5 := hide (unhide HCX _ _ _ _ _ _ _ _ _ _ _ _ (unhide P5) (unhide S5)); have BW5 := hide ((unhide BW9).trans ((unhide S5).b.mono hwA)); clear ps5 st5 i5 m5))
                all_goals
                  go_wp2
                  go_meet
                  case rel => exact ⟨rfl, hide ⟨_, _, _, _, _, _, _, _, unhide P6, unhide S6⟩⟩
              · by_cases e3 : okind = 3
                · subst e3
                  have f1 : ((3 : Int) == 1) = false := by decide
                  have f2 : ((3 : Int) == 2) = false := by decide
                  have f3 : ((3 : Int) == 3) = true := by decide
                  have p9 := unhide P9
                  have k0 : (0 : Int) ≤ (kk : Int) := by omega
                  have k4 : (kk : Int) < 4 := by omega
                  have hnf : ¬ PF 4 A R gi gr q p bx := fun hf => by have := unhide HLT bx hf; omega
                  obtain ⟨cN, hcN⟩ : ∃ cN, takeN onn (l kk).length = cN := ⟨_, rfl⟩
                  have hcle : cN ≤ (l kk).length := by rw [← hcN]; exact takeN_le _ _
                  have hl16 : (l kk).length ≤ 16 := by have h5 := (p9.Q kk hkk4).2.2.1; have h6 := (p9.Q kk hkk4).2.2.2.2; omega
                  have hxl : ((l kk).take cN).length = cN := by rw [List.length_take]; omega
                  have htake := fun (W : World) (hW : W.heap = w9.heap) => takeI (gi kk) (q kk) (c kk) (m kk) (l kk) onn W ((p9.hp hW).Q kk hkk4)
                  rw [hcN] at htake
                  have hrtake := fun (W : World) (q' : Nat → Option Addr) (c' : Nat → Nat) (l1 : Nat → List Int) (hp : PS 4 W A A R gi gr q' p c' d m m l1 l) => rtake (gr kk) (p kk) (d kk) (m kk) (l kk) onn W (hp.Rr kk hkk4) (fun i hi => hp.apP kk kk hkk4 hkk4 i hi)
                  simp only [hcN] at hrtake
                  have hcb : (cutK 1 (p kk) (d kk) cN).map (·.block) = (p kk).map (·.block) := by
                    unfold cutK
                    split
                    · rfl
                    · cases p kk with
                      | none => rfl
                      | some a => rw [Option.map_some, Option.map_some, Option.map_some, add_block]
                  have hcx : ∀ (V : World) (gi' gr' : Nat → Nat) (q' p' : Nat → Option Addr) (c' d' m1 m2 : Nat → Nat) (l1 l2 : Nat → List Int) (F : Nat → Prop), PS 4 V A A R gi' gr' q' p' c' d' m1 m2 l1 l2 → Stp A w9 V (PF 4 A R gi gr q p) F → (V.cell? ⟨A, kk, none⟩ = some (.pointer (some ⟨gi' kk, 0, none⟩)) ∧ V.cell? ⟨R, kk, none⟩ = some (.pointer (some ⟨gr' kk, 0, none⟩))) ∧ V.cell? ⟨bx, 3, none⟩ = some (.int .i64 onn) := fun V _ _ _ _ _ _ _ _ _ _ F hp hs => by
                    refine ⟨⟨(arr_cell hp.arrA hkk4 hkk4).1, (arr_cell hp.arrR hkk4 hkk4).1⟩, ?_⟩
                    have hbk : V.heap[bx]? = w9.heap[bx]? := hs.k.block bx hnf hb9
                    exact (cells4 (hbk.trans (unhide K9))).2.2.2
                  obtain ⟨⟨a0, a1⟩, a2⟩ := hcx w9 _ _ _ _ _ _ _ _ _ _ _ p9 (Stp.of (Below.refl _ _) hA9)
                  have hsame := fun (W : World) (a : Option Addr) (ca : Nat) (b' : Option Addr) (cb : Nat) (h5 : SlOf encI 1 W a ca ((l kk).take cN)) (h6 : SlOf encI 1 W b' cb ((l kk).take cN)) => memEqI a ca ((l kk).take cN) b' cb ((l kk).take cN) W h5 h6 (by omega)
                  simp only [hxl, decide_true] at hsame
                  have HTAKE := hide htake
                  have HRTAKE := hide hrtake
                  have HCX := hide hcx
                  have HSAME := hide hsame
                  have HCB := hide hcb
                  have HXL := hide hxl
                  clear htake hrtake hcx hsame hcb p9 hnf hcN hxl
                  go_wp2
                  go_region_held3 (fun V => (V.cell? ⟨A, kk, none⟩ = some (.pointer (some ⟨gi kk, 0, none⟩)) ∧ V.cell? ⟨R, kk, none⟩ = some (.pointer (some ⟨gr kk, 0, none⟩))) ∧ V.cell? ⟨bx, 3, none⟩ = some (.int .i64 onn)) (first | exact ⟨⟨a0, a1⟩, a2⟩ | exact unhide C5 | assumption) (first
                    | (go_at_call 13; refine (unhide HTAKE _ (by rfl)).mono ?_; rintro e w5 ⟨⟨q5, c5, rfl, o5⟩, i5, m5⟩; obtain ⟨ps5, st5⟩ := ((unhide P9).hp (by rfl)).opQ (by exact hA9) hkk4 i5 m5; have P5 := hide ps5; have S5 := hide (st5.hp (w := w9) (by rfl) (by rfl) (by rfl) (by rfl)); have C5 := hide (unhide HCX _ _ _ _ _ _ _ _ _ _ _ _ (unhide P5) (unhide S5)); have O5 := hide (show OwnK encI 3 1 w9.heap.size w5 q5 c5 ((l kk).take cN) from o5); clear ps5 st5 i5 m5 o5))
                  all_goals
                    obtain ⟨⟨b0, b1⟩, b2⟩ := unhide C5
                    rename_i hHeld
                    clear hHeld
                    go_wp2
                    go_region_held3 (fun V => (V.cell? ⟨A, kk, none⟩ = some (.pointer (some ⟨gi kk, 0, none⟩)) ∧ V.cell? ⟨R, kk, none⟩ = some (.pointer (some ⟨gr kk, 0, none⟩))) ∧ V.cell? ⟨bx, 3, none⟩ = some (.int .i64 onn)) (first | exact ⟨⟨b0, b1⟩, b2⟩ | exact unhide C7 | exact unhide C6 | assumption) (first
                      | (go_at_call 14; have tst := unhide P6; clear tst; refine (unhide HSAME _ _ _ _ _ ((unhide O6).ls.hpS (by rfl)) ((unhide X6).hpS (by rfl))).mono ?_; rintro e w7 ⟨rfl, b7⟩; have bb7 := below_hp (w := w6) (by rfl) (by rfl) (by rfl) (by rfl) b7; have P7 := hide ((unhide P6).below bb7); have S7 := hide ((unhide S6).hp2 bb7 hA9); have O7 := hide ((unhide O6).below bb7); have C7 := hide (unhide HCX _ _ _ _ _ _ _ _ _ _ _ _ (unhide P7) (unhide S7)); clear b7 bb7)
                      | (go_at_call 15; refine (unhide HRTAKE _ _ _ _ ((unhide P5).hp (by rfl))).mono ?_; rintro e w6 ⟨rfl, x6, i6, g6⟩; obtain ⟨ps6, st6⟩ := ((unhide P5).hp (by rfl)).opR (by exact (Nat.le_trans hA9 (unhide S5).k.size)) hkk4 i6 g6 (fun i hi => Or.inl (by rw [← unhide HCB]; exact hi)); have P6 := hide ps6; have S6 := hide ((unhide S5).trans (st6.hp (by rfl) (by rfl) (by rfl) (by rfl))); have C6 := hide (unhide HCX _ _ _ _ _ _ _ _ _ _ _ _ (unhide P6) (unhide S6)); have X6 := hide x6; have O6 := hide ((unhide O5).keep (w' := w6) (fun i hi => g6.block i ((unhide O5).blk hi).2 (fun q => by have h5 := ((unhide O5).blk hi).1; have h6 := ((unhide P9).Rr kk hkk4).lt; injection q with q; omega))); clear ps6 st6 i6 g6 x6))
                    all_goals
                      go_wp2_with (go_at_call 16; refine (overI w9.heap.size q5 cN c5 w7 (by omega) (by exact (unhide S7).k.size) (by have h5 := (unhide O7).rawI; rw [unhide HXL] at h5; exact h5)).mono ?_; rintro e w8 ⟨rfl, g8⟩; rw [own_block] at g8; have P8 := hide ((unhide P7).kept g8.size (fun i hi => g8.block i ((unhide P7).pf_lt hi) (fun q => by have h5 := ((unhide O7).blk q.symm).1; have h6 := (unhide P9).pf_lt (PS.pf0 (unhide HCB) hi); omega))); have S8 := hide (stp_row (unhide S7) g8 (fun i hi => ((unhide O7).blk hi).1) hA9); clear g8)
                      go_meet
                      case rel => exact ⟨rfl, hide ⟨_, _, _, _, _, _, _, _, unhide P8, unhide S8⟩⟩
                · by_cases e4 : okind = 4
                  · subst e4
                    have f1 : ((4 : Int) == 1) = false := by decide
                    have f2 : ((4 : Int) == 2) = false := by decide
                    have f3 : ((4 : Int) == 3) = false := by decide
                    have f4 : ((4 : Int) == 4) = true := by decide
                    obtain ⟨ks, hks⟩ : ∃ ks, ol.map b3 = ks := ⟨_, rfl⟩
                    have hksl : ks.length = nx := by rw [← hks, List.length_map]; exact unhide HNX
                    have hks4 : ∀ k ∈ ks, k < 4 := fun k hk => by
                      rw [← hks] at hk
                      obtain ⟨x, _, rfl⟩ := List.mem_map.1 hk
                      exact b3_lt x
                    have hnx3 : (nx : Int) ≤ 17592186044416 := by omega
                    have hsl9 : SlOf encI 1 w9 oq oc ol := (unhide HSZ).below (unhide B9)
                    have HSL9 := hide hsl9
                    have HKS := hide hks
                    have HKL := hide hksl
                    have HK4 := hide hks4
                    clear hks hksl hks4 hsl9
                    go_wp2
                    go_loopw [12, 13, 106] (fun a b i wi => ∃ (j : Nat) (qa : Option Addr) (ca : Nat) (qb : Option Addr) (cb : Nat), j ≤ nx ∧ i = .int .i64 j ∧ a = .slice qa j ca ∧ b = .slice qb j cb ∧ Hid (OwnK encG 24 1 w9.heap.size wi qa ca ((ks.take j).map gi)) ∧ Hid (OwnK encG 26 1 w9.heap.size wi qb cb ((ks.take j).map gr)) ∧ Hid (Below w9.heap.size w9 wi)) (fun _ _ i _ => nx - (intOf i).toNat)
                    case atStart => exact ⟨0, none, 0, none, 0, by omega, rfl, rfl, rfl, hide (OwnK.nil _ _), hide (OwnK.nil _ _), hide (Below.refl _ _)⟩
                    case round =>
                      obtain ⟨j, qa, ca, qb, cb, hj, rfl, rfl, rfl, HA, HR, HI⟩ := hrel
                      by_cases hjlt : j < nx
                      · obtain ⟨x, hx, _⟩ := get_at (l := ol) (k := j) (by rw [unhide HNX]; exact hjlt)
                        obtain ⟨bq, oo, hqx, hbql, hxc⟩ := intAt ((unhide HSL9).below (unhide HI)) hx
                        subst hqx
                        have ji0 : (0 : Int) ≤ (j : Int) := by omega
                        have ji1 : (j : Int) < (nx : Int) := by omega
                        obtain ⟨kx, hkx⟩ : ∃ kx, b3 x = kx := ⟨_, rfl⟩
                        have hkx4 : kx < 4 := by rw [← hkx]; exact b3_lt x
                        have hbx3 := and_three x
                        rw [hkx] at hbx3
                        have kx0 : (0 : Int) ≤ (kx : Int) := by omega
                        have kx4 : (kx : Int) < 4 := by omega
                        have hkj : ks[j]? = some kx := by rw [← unhide HKS, List.getElem?_map, hx, Option.map_some, hkx]
                        have ea : (ks.take (j + 1)).map gi = (ks.take j).map gi ++ [gi kx] := by rw [take_snoc_of hkj, List.map_append]; rfl
                        have er : (ks.take (j + 1)).map gr = (ks.take j).map gr ++ [gr kx] := by rw [take_snoc_of hkj, List.map_append]; rfl
                        have la : ((ks.take j).map gi).length = j := by rw [List.length_map, List.length_take, unhide HKL]; omega
                        have lr : ((ks.take j).map gr).length = j := by rw [List.length_map, List.length_take, unhide HKL]; omega
                        have hcc : ∀ V', Below w9.heap.size w9 V' → V'.cell? ⟨A, kx, none⟩ = some (.pointer (some ⟨gi kx, 0, none⟩)) ∧ V'.cell? ⟨R, kx, none⟩ = some (.pointer (some ⟨gr kx, 0, none⟩)) := fun V' hV => by
                          have pv := (unhide P9).below hV
                          exact ⟨(arr_cell pv.arrA hkx4 hkx4).1, (arr_cell pv.arrR hkx4 hkx4).1⟩
                        obtain ⟨xa, xr⟩ := hcc wr (unhide HI)
                        have HCC := hide hcc
                        have HEA := hide ea
                        have HER := hide er
                        have HLA := hide la
                        have HLR := hide lr
                        have hwi := (unhide HI).size
                        have HQA := hide (show ∀ i, qa.map (·.block) = some i → i < wr.heap.size from fun i hi => ((unhide HA).blk hi).2)
                        clear hcc ea er la lr hkj hkx hx
                        go_wp2
                        go_region_held3 (fun V => V.cell? ⟨A, kx, none⟩ = some (.pointer (some ⟨gi kx, 0, none⟩)) ∧ V.cell? ⟨R, kx, none⟩ = some (.pointer (some ⟨gr kx, 0, none⟩))) (first | exact ⟨xa, xr⟩ | exact unhide HCC _ (unhide B5) | exact unhide HCC _ (unhide B5).drew | exact unhide HCC _ (unhide B5).drew.drew | exact unhide HCC _ (unhide B5).drew.drew.drew | exact unhide HCC _ ((unhide B4).alloc (unhide B4).size _) | exact unhide HCC _ ((unhide B4).alloc (unhide B4).size _).drew | exact unhide HCC _ ((unhide B4).alloc (unhide B4).size _).drew.drew | exact unhide HCC _ ((unhide B4).alloc (unhide B4).size _).drew.drew.drew | exact unhide HCC _ (unhide B4) | exact unhide HCC _ (unhide B4).drew | exact unhide HCC _ (unhide B4).drew.drew | exact unhide HCC _ (unhide B4).drew.drew.drew | exact unhide HCC _ (((unhide HI).alloc (unhide HI).size _).alloc (by simp; omega) _) | exact unhide HCC _ (((unhide HI).alloc (unhide HI).size _).alloc (by simp; omega) _).drew | exact unhide HCC _ (((unhide HI).alloc (unhide HI).size _).alloc (by simp; omega) _).drew.drew | exact unhide HCC _ (((unhide HI).alloc (unhide HI).size _).alloc (by simp; omega) _).drew.drew.drew | exact unhide HCC _ ((unhide HI).alloc (unhide HI).size _) | exact unhide HCC _ ((unhide HI).alloc (unhide HI).size _).drew | exact unhide HCC _ ((unhide HI).alloc (unhide HI).size _).drew.drew | exact unhide HCC _ ((unhide HI).alloc (unhide HI).size _).drew.drew.drew | assumption) (first
                          | (refine step_appK rowR (by rfl) (.tmp 117) (.tmp 122) (by rfl) w9.heap.size qb cb ((ks.take j).map gr) (some ⟨w4.heap.size, 0, none⟩) 1 [gr kx] j 1 (j + 1) (unhide HLR) rfl rfl (by rfl) (by rfl) (own_heap (w := w4.alloc (.cells #[.pointer (some ⟨gr kx, 0, none⟩)] 26)) (by rfl) ((unhide R4).below (alloc_b _ _))) (src_heap (w := w4.alloc (.cells #[.pointer (some ⟨gr kx, 0, none⟩)] 26)) (by rfl) (ptr_litR (box_nw w4 _))) (by unfold maxLen; omega) (by omega) (by have h5 := (unhide B4).size; simp; omega) ?_; intro q5 c5 w5 o5 b5 s5; have g5 : (w4.alloc (.cells #[.pointer (some ⟨gr kx, 0, none⟩)] 26)).grownBy w5 (qb.map (·.block)) := grown_hp (by rfl) (by rfl) (by rfl) (by rfl) s5.1; have R5 := hide o5; have B5 := hide (Below.trans ((unhide B4).alloc (unhide B4).size _) (below_hp (w := w4.alloc (.cells #[.pointer (some ⟨gr kx, 0, none⟩)] 26)) (by rfl) (by rfl) (by rfl) (by rfl) b5)); have A5 := hide (own_apartG ((unhide A4).below (alloc_b _ _)) ((unhide R4).below (alloc_b _ _)) g5 (by decide)); clear o5 b5 s5 g5)
                          | (refine step_appK rowR (by rfl) (.tmp 117) (.tmp 122) (by rfl) w9.heap.size qb cb ((ks.take j).map gr) (some ⟨wr.heap.size + 1, 0, none⟩) 1 [gr kx] j 1 (j + 1) (unhide HLR) rfl rfl (by rfl) (by rfl) (own_heap (w := w4) (by rfl) (unhide R4)) (src_heap (w := w4) (by rfl) (ptr_litR (unhide X4))) (by unfold maxLen; omega) (by omega) (by exact (unhide B4).size) ?_; intro q5 c5 w5 o5 b5 s5; have g5 : (w4).grownBy w5 (qb.map (·.block)) := grown_hp (by rfl) (by rfl) (by rfl) (by rfl) s5.1; have R5 := hide o5; have B5 := hide (Below.trans (unhide B4) (below_hp (w := w4) (by rfl) (by rfl) (by rfl) (by rfl) b5)); have A5 := hide (own_apartG (unhide A4) (unhide R4) g5 (by decide)); clear o5 b5 s5 g5)
                          | (refine step_appK rowR (by rfl) (.tmp 117) (.tmp 122) (by rfl) w9.heap.size qb cb ((ks.take j).map gr) (some ⟨wr.heap.size, 0, none⟩) 1 [gr kx] j 1 (j + 1) (unhide HLR) rfl rfl (by rfl) (by rfl) (own_heap (w := w4) (by rfl) (unhide R4)) (src_heap (w := w4) (by rfl) (ptr_litR (unhide X4))) (by unfold maxLen; omega) (by omega) (by exact (unhide B4).size) ?_; intro q5 c5 w5 o5 b5 s5; have g5 : (w4).grownBy w5 (qb.map (·.block)) := grown_hp (by rfl) (by rfl) (by rfl) (by rfl) s5.1; have R5 := hide o5; have B5 := hide (Below.trans (unhide B4) (below_hp (w := w4) (by rfl) (by rfl) (by rfl) (by rfl) b5)); have A5 := hide (own_apartG (unhide A4) (unhide R4) g5 (by decide)); clear o5 b5 s5 g5)
                          | (refine step_appK rowG (by rfl) (.tmp 110) (.tmp 115) (by rfl) w9.heap.size qa ca ((ks.take j).map gi) (some ⟨wr.heap.size, 0, none⟩) 1 [gi kx] j 1 (j + 1) (unhide HLA) rfl rfl (by rfl) (by rfl) (own_heap (w := (wr.alloc (.cells #[.pointer (some ⟨gi kx, 0, none⟩)] 24)).alloc (.cells #[.pointer (some ⟨gr kx, 0, none⟩)] 26)) (by rfl) (((unhide HA).below (alloc_b _ _)).below (alloc_b _ _))) (src_heap (w := (wr.alloc (.cells #[.pointer (some ⟨gi kx, 0, none⟩)] 24)).alloc (.cells #[.pointer (some ⟨gr kx, 0, none⟩)] 26)) (by rfl) (ptr_lit (((alloc_b _ _).block wr.heap.size (by simp)).trans (box_nw wr _)))) (by unfold maxLen; omega) (by omega) (by simp; omega) ?_; intro q4 c4 w4 o4 b4 s4; have g4 : ((wr.alloc (.cells #[.pointer (some ⟨gi kx, 0, none⟩)] 24)).alloc (.cells #[.pointer (some ⟨gr kx, 0, none⟩)] 26)).grownBy w4 (qa.map (·.block)) := grown_hp (by rfl) (by rfl) (by rfl) (by rfl) s4.1; have A4 := hide o4; have B4 := hide (Below.trans (((unhide HI).alloc (unhide HI).size _).alloc (by simp; omega) _) (below_hp (w := (wr.alloc (.cells #[.pointer (some ⟨gi kx, 0, none⟩)] 24)).alloc (.cells #[.pointer (some ⟨gr kx, 0, none⟩)] 26)) (by rfl) (by rfl) (by rfl) (by rfl) b4)); have R4 := hide (own_apartG (((unhide HR).below (alloc_b _ _)).below (alloc_b _ _)) (((unhide HA).below (alloc_b _ _)).below (alloc_b _ _)) g4 (by decide)); have X4 := hide (blk_keep (box_nw1 wr _ _) g4 (fun e => by have h5 := unhide HQA _ e; omega)); clear o4 b4 s4 g4)
                          | (refine step_appK rowG (by rfl) (.tmp 110) (.tmp 115) (by rfl) w9.heap.size qa ca ((ks.take j).map gi) (some ⟨wr.heap.size + 1, 0, none⟩) 1 [gi kx] j 1 (j + 1) (unhide HLA) rfl rfl (by rfl) (by rfl) (own_heap (w := (wr.alloc (.cells #[.pointer (some ⟨gr kx, 0, none⟩)] 26)).alloc (.cells #[.pointer (some ⟨gi kx, 0, none⟩)] 24)) (by rfl) (((unhide HA).below (alloc_b _ _)).below (alloc_b _ _))) (src_heap (w := (wr.alloc (.cells #[.pointer (some ⟨gr kx, 0, none⟩)] 26)).alloc (.cells #[.pointer (some ⟨gi kx, 0, none⟩)] 24)) (by rfl) (ptr_lit (box_nw1 wr _ _))) (by unfold maxLen; omega) (by omega) (by simp; omega) ?_; intro q4 c4 w4 o4 b4 s4; have g4 : ((wr.alloc (.cells #[.pointer (some ⟨gr kx, 0, none⟩)] 26)).alloc (.cells #[.pointer (some ⟨gi kx, 0, none⟩)] 24)).grownBy w4 (qa.map (·.block)) := grown_hp (by rfl) (by rfl) (by rfl) (by rfl) s4.1; have A4 := hide o4; have B4 := hide (Below.trans (((unhide HI).alloc (unhide HI).size _).alloc (by simp; omega) _) (below_hp (w := (wr.alloc (.cells #[.pointer (some ⟨gr kx, 0, none⟩)] 26)).alloc (.cells #[.pointer (some ⟨gi kx, 0, none⟩)] 24)) (by rfl) (by rfl) (by rfl) (by rfl) b4)); have R4 := hide (own_apartG (((unhide HR).below (alloc_b _ _)).below (alloc_b _ _)) (((unhide HA).below (alloc_b _ _)).below (alloc_b _ _)) g4 (by decide)); have X4 := hide (blk_keep (((alloc_b (wr.alloc (.cells #[.pointer (some ⟨gr kx, 0, none⟩)] 26)) (.cells #[.pointer (some ⟨gi kx, 0, none⟩)] 24)).block wr.heap.size (by simp)).trans (box_nw wr (.cells #[.pointer (some ⟨gr kx, 0, none⟩)] 26))) g4 (fun e => by have h5 := unhide HQA _ e; omega)); clear o4 b4 s4 g4)
                          | (refine step_appK rowG (by rfl) (.tmp 110) (.tmp 115) (by rfl) w9.heap.size qa ca ((ks.take j).map gi) (some ⟨wr.heap.size, 0, none⟩) 1 [gi kx] j 1 (j + 1) (unhide HLA) rfl rfl (by rfl) (by rfl) (own_heap (w := wr.alloc (.cells #[.pointer (some ⟨gi kx, 0, none⟩)] 24)) (by rfl) ((unhide HA).below (alloc_b _ _))) (src_heap (w := wr.alloc (.cells #[.pointer (some ⟨gi kx, 0, none⟩)] 24)) (by rfl) (ptr_lit (box_nw wr _))) (by unfold maxLen; omega) (by omega) (by simp; omega) ?_; intro q4 c4 w4 o4 b4 s4; have g4 : (wr.alloc (.cells #[.pointer (some ⟨gi kx, 0, none⟩)] 24)).grownBy w4 (qa.map (·.block)) := grown_hp (by rfl) (by rfl) (by rfl) (by rfl) s4.1; have A4 := hide o4; have B4 := hide (Below.trans ((unhide HI).alloc (unhide HI).size _) (below_hp (w := wr.alloc (.cells #[.pointer (some ⟨gi kx, 0, none⟩)] 24)) (by rfl) (by rfl) (by rfl) (by rfl) b4)); have R4 := hide (own_apartG ((unhide HR).below (alloc_b _ _)) ((unhide HA).below (alloc_b _ _)) g4 (by decide)); clear o4 b4 s4 g4))
                        all_goals
                          go_wp2
                          go_roundw
                          case rel => exact ⟨j + 1, q4, c4, q5, c5, by omega, by go_num, rfl, rfl, hide (by rw [unhide HEA]; exact unhide A5), hide (by rw [unhide HER]; exact unhide R5), B5⟩
                          case measure => simp [intOf]; omega
                      · obtain rfl : nx = j := by omega
                        have ji1 : ¬ (nx : Int) < (nx : Int) := by omega
                        have hra := unhide HA
                        have hrr := unhide HR
                        rw [List.take_of_length_le (by rw [unhide HKL]; exact Nat.le_refl _)] at hra hrr
                        have pw := (unhide P9).below (unhide HI)
                        have hAi : A ≤ wr.heap.size := Nat.le_trans hA9 (unhide HI).size
                        have hbnd : nx * 8 ≤ 140737488355328 := by omega
                        have SI := hide (show Stp A w9 wr (PF 4 A R gi gr q p) (PF 4 A R gi gr q p) from Stp.of (unhide HI) hA9)
                        have hgrl : ∀ k, k < 4 → gr k < wr.heap.size := fun k hk => (pw.Rr k hk).lt
                        have HGRL := hide hgrl
                        have RA := hide hra
                        have RR := hide hrr
                        by_cases hE : EnK ks l
                        · have h17 := pw.h17y hAi hra (unhide HK4) (unhide HKL) hbnd hE
                          have h18 := fun (W : World) (hp : PS 4 W A A R gi gr q p c d m m (fun k => (l k).drop (ks.count k)) l) (hr : OwnK encG 26 1 w9.heap.size W qb cb (ks.map gr)) (hW : A ≤ W.heap.size) => hp.h18y hW hr (unhide HK4) (unhide HKL) hbnd hE
                          have hhl : (heads ks l).length = nx := by unfold heads; rw [List.length_map, List.length_range]; exact unhide HKL
                          have hsame := fun (W : World) (a : Option Addr) (ca' : Nat) (b' : Option Addr) (cb' : Nat) (h5 : SlOf encI 1 W a ca' (heads ks l)) (h6 : SlOf encI 1 W b' cb' (heads ks l)) => memEqI a ca' (heads ks l) b' cb' (heads ks l) W h5 h6 (by omega)
                          simp only [hhl, decide_true] at hsame
                          have H18 := hide h18
                          have HSAME := hide hsame
                          clear hra hrr pw hgrl hE h18 hsame hhl
                          go_wp2_with (first
                            | (go_at_call 17; refine h17.mono ?_; rintro e w5 ⟨q5, c5, rfl, o5, p5, s5, k5⟩; have P5 := hide p5; have S5 := hide ((unhide SI).trans s5); have R5 := hide (k5 _ _ _ _ (unhide RR)); have O5 := hide o5; clear o5 p5 s5 k5)
                            | (go_at_call 18; refine (unhide H18 w5 (unhide P5) (unhide R5) (by have h5 := (unhide S5).k.size; omega)).mono ?_; rintro e w6 ⟨q6, c6, rfl, o6, ⟨p6', d6', p6, s6⟩, k6⟩; have P6 := hide p6; have S6 := hide ((unhide S5).trans s6); have O6 := hide o6; have O56 := hide (k6 _ _ _ (fun i hi k hk => by have h5 := ((unhide O5).blk hi).1; have h6 := unhide HGRL k hk; omega) ((unhide O5).mono (Nat.zero_le _))); clear o6 p6 s6 k6)
                            | (go_at_call 14; refine (unhide HSAME w6 _ _ _ _ (unhide O56).ls (unhide O6).ls).mono ?_; rintro e w7 ⟨rfl, b7⟩; have P7 := hide ((unhide P6).below b7); have S7 := hide ((unhide S6).hp2 b7 hA9); clear b7))
                          go_meet
                          case rel => exact ⟨rfl, hide ⟨_, _, _, _, _, _, _, _, unhide P7, unhide S7⟩⟩
                        · have h17 := pw.h17n hra (unhide HK4) (unhide HKL) hbnd hE
                          have h18 := fun (W : World) (hW : Below wr.heap.size wr W) => (pw.below hW).h18n (hrr.below hW) (unhide HK4) (unhide HKL) hbnd hE
                          have hsame := fun (W : World) => memEqI none 0 [] none 0 [] W (SlOf.none _) (SlOf.none _) (by simp)
                          simp only [List.length_nil, decide_true] at hsame
                          have PW := hide pw
                          have H18 := hide h18
                          have HSAME := hide hsame
                          clear hra hrr pw hgrl hE h18 hsame
                          go_wp2_with (first
                            | (go_at_call 17; refine h17.mono ?_; rintro e w5 ⟨rfl, b5⟩; have B5 := hide b5; clear b5)
                            | (go_at_call 18; refine (unhide H18 w5 (unhide B5)).mono ?_; rintro e w6 ⟨rfl, b6⟩; have B6 := hide ((unhide B5).trans (b6.mono (unhide B5).size)); clear b6)
                            | (go_at_call 14; refine (unhide HSAME w6).mono ?_; rintro e w7 ⟨rfl, b7⟩; have B7 := hide ((unhide B6).trans (b7.mono (unhide B6).size)); clear b7))
                          go_meet
                          case rel => exact ⟨rfl, hide ⟨_, _, _, _, _, _, _, _, (unhide PW).below (unhide B7), (unhide SI).hp2 (unhide B7) hA9⟩⟩
                  · have f1 : (okind == 1) = false := beq_eq_false_iff_ne.2 e1
                    have f2 : (okind == 2) = false := beq_eq_false_iff_ne.2 e2
                    have f3 : (okind == 3) = false := beq_eq_false_iff_ne.2 e3
                    have f4 : (okind == 4) = false := beq_eq_false_iff_ne.2 e4
                    go_wp2
                    go_meet
                    case rel => exact ⟨rfl, hide ⟨_, _, _, _, _, _, _, _, unhide P9, Stp.of (Below.refl _ _) hA9⟩⟩
          case rest =>
            obtain ⟨rfl, HCUT⟩ := hcut
            obtain ⟨gi', gr', q', p', c', d', m1, l1, pv, sv⟩ := unhide HCUT
            have hg9 := unhide HG9
            have hnf : ∀ i, Z.heap.size ≤ i ∨ i = bx → ¬ PF 4 A R gi gr q p i := fun i hi hf => by have := unhide HLT i hf; omega
            have hbk : wc.heap[bx]? = w9.heap[bx]? := sv.k.block bx (hnf bx (Or.inr rfl)) hb9
            obtain ⟨x0, x1, x2, x3⟩ := cells4 (hbk.trans (unhide K9))
            have oc9 : OwnK encI 3 1 Z.heap.size wc (some ⟨g9, 0, none⟩) cp (ol ++ spI) := (unhide O9).keep fun i hi => by
              have hi' : g9 = i := by simpa using hi
              rw [← hi']
              exact sv.k.block g9 (hnf g9 (Or.inl hg9.1)) hg9.2
            have bwc : Below w.heap.size w wc := (unhide BW9).trans (sv.b.mono hwA)
            have hslc := ((unhide H1).below bwc).2 _ (List.mem_of_getElem? (unhide HOO))
            dsimp only at hslc
            have hkept := keptI g9 cp oq oc ol wc (by rw [unhide HNX]; omega) oc9.ls.2.2.2 (by rw [unhide HNX]; exact hcp) oc9.ls.2.2.1 hslc
            rw [unhide HNX] at hkept
            have hg9F : ¬ PF 4 A R gi' gr' q' p' g9 := fun hf => by
              rcases sv.f g9 hf with h | h
              · exact hnf g9 (Or.inl hg9.1) h
              · omega
            have PV := hide pv
            have SV := hide sv
            have OC := hide oc9
            have BWC := hide bwc
            have HGF := hide hg9F
            clear hbk oc9 bwc hslc hnf pv sv hg9 hg9F
            go_wp2_with (first
              | (go_at_call 19; refine hkept.mono ?_; rintro e w10 ⟨rfl, b10⟩; have P10 := hide ((unhide PV).below b10); have O10 := hide ((unhide OC).below b10); have S10 := hide ((unhide SV).hp2 b10 hA9); clear b10)
              | (go_at_call 16; refine (over_mine (unhide O10) (unhide HNX) hol (by have h5 := (unhide S10).k.size; have h6 := (unhide B9).size; omega)).mono ?_; rintro e w11 ⟨rfl, g11⟩; have P11 := hide ((unhide P10).kept g11.size (fun i hi => g11.block i ((unhide P10).pf_lt hi) (fun q => unhide HGF (by injection q with q; rw [← q]; exact hi)))); have B11 := hide (((unhide S10).b).trans (grown_blw g11 (by have h5 := (unhide HG9).1; have h6 := (unhide BZ).size; omega) (by have h5 := (unhide S10).k.size; omega))); clear g11))
            have hA11 : A ≤ w11.heap.size := by have := (unhide B11).size; omega
            go_loopw [154] (fun i wi => ∃ j : Nat, j ≤ 4 ∧ i = .int .i64 j ∧ Hid (Below w11.heap.size w11 wi)) (fun i _ => 4 - (intOf i).toNat)
            case atStart => exact ⟨0, by omega, rfl, hide (Below.refl _ _)⟩
            case round =>
              obtain ⟨j, hj, rfl, HI⟩ := hrel
              by_cases hjlt : j < 4
              · have ji0 : (0 : Int) ≤ (j : Int) := by omega
                have ji1 : (j : Int) < 4 := by omega
                have pj := (unhide P11).below (unhide HI)
                have ca := (arr_cell pj.arrA hjlt hjlt).1
                have cr := (arr_cell pj.arrR hjlt hjlt).1
                have hsame := fun (W : World) (hW : W.heap = wr.heap) => same_any _ _ _ _ _ _ _ _ W ((pj.hp hW).Q j hjlt) ((pj.hp hW).Rr j hjlt)
                have HSAME := hide hsame
                have HCC := hide (fun (V : World) (hV : Below wr.heap.size wr V) => And.intro (arr_cell (pj.below hV).arrA hjlt hjlt).1 (arr_cell (pj.below hV).arrR hjlt hjlt).1)
                clear hsame pj
                go_wp2
                go_region_held3 (fun V => V.cell? ⟨A, j, none⟩ = some (.pointer (some ⟨gi' j, 0, none⟩)) ∧ V.cell? ⟨R, j, none⟩ = some (.pointer (some ⟨gr' j, 0, none⟩))) (first | exact ⟨ca, cr⟩ | exact unhide HCC _ (unhide B12) | assumption) (first
                  | (go_at_call 20; refine (unhide HSAME _ (by rfl)).mono ?_; rintro e w12 ⟨rfl, b12⟩; have B12 := hide (below_hp (w := wr) (by rfl) (by rfl) (by rfl) (by rfl) b12); clear b12))
                all_goals
                  go_wp2
                  go_roundw
                  case rel => exact ⟨j + 1, by omega, by go_num, hide ((unhide HI).trans ((unhide B12).mono (unhide HI).size))⟩
                  case measure => simp [intOf]; omega
              · obtain rfl : 4 = j := by omega
                have ji1 : ¬ ((4 : Nat) : Int) < 4 := by omega
                have P12 := hide ((unhide P11).below (unhide HI))
                have B12 := hide ((unhide HB).trans (((unhide BZ).trans ((unhide B9).mono (by have := (unhide BZ).size; omega))).trans ((unhide B11).trans ((unhide HI).mono hA11))))
                go_wp2
                go_roundw
                case rel => exact ⟨k + 1, gi', gr', q', p', c', d', m1, l1, by omega, by go_num, P12, B12⟩
                case measure => simp [intOf]; omega
        · obtain rfl : ops.length = k := by omega
          have ki1 : ¬ (ops.length : Int) < (ops.length : Int) := by omega
          have HBW := hide hbw
          clear hbw
          go_wp2
          go_ret
          exact ⟨rfl, unhide HBW⟩
end Go.Proofs.Ytfenkiplofnolaa

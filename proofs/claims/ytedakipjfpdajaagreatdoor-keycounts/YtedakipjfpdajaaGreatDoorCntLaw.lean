/- KeyCounts's law: how many keys there are, and that they rise strictly. -/
import Derived.Test.YtedakipjfpdajaaGreatDoorCnt
import Derived.Test.YtedakipjfpdajaaGreatDoorFix4
import Derived.Deep.Cut
import Derived.Deep.CutRange
namespace Go.Proofs.YtedakipjfpdajaaGreatDoor
open Go.RowKit Go.Sort Go.Shelf

theorem slR_one {w : World} {b : Nat} {x : Pr} (h : w.heap[b]? = some (.cells #[.string x.name, .int .i64 x.kind, .int .i64 x.num, .string x.word] 42 (0, 0))) : SlOf encR 4 w (some ⟨b, 0, none⟩) 1 [x] := by
  obtain ⟨e0, e1, e2, e3⟩ := cells_of_pair h
  refine ⟨(fun h => by cases h), by simp, by unfold maxLen; omega, LsOf.one (Array.getElem?_eq_some_iff.1 h).1 fun c hc => ?_⟩
  have hm : c = 0 ∨ c = 1 ∨ c = 2 ∨ c = 3 := by omega
  rcases hm with rfl | rfl | rfl | rfl
  · exact e0
  · exact e1
  · exact e2
  · exact e3
theorem of3 {w : World} {M : Nat} {a0 a1 a2 : Value} {T : TypeId} (h : w.heap[M]? = some (.cells #[a0, a1, a2] T (0, 0))) : w.cell? ⟨M, 0, none⟩ = some a0 ∧ w.cell? ⟨M, 1, none⟩ = some a1 ∧ w.cell? ⟨M, 2, none⟩ = some a2 := by
  refine ⟨?_, ?_, ?_⟩ <;> (unfold World.cell?; simp [h])
theorem re_cellK {w W : World} (hB : Below w.heap.size w W) {p : Addr} (hp : p.block < w.heap.size) {v : Value} (hc : w.cell? p = some v) : ∀ n os, (grow (redrawn W n) os).cell? p = some v := cell_regrown ((hB.cell hp).trans hc)
def wantN (vk vn : Int) (vs : ByteArray) : Nat := if vk = 1 ∧ -2147483648 ≤ vn ∧ vn ≤ 2147483647 ∧ vs.size = 0 then 34 else if vk = 2 ∧ vn = 0 ∧ vs.size ≤ 64 then vs.size + 2 else 0
set_option maxHeartbeats 8000000 in
set_option maxRecDepth 100000 in
theorem keyCounts_law (kind : Int) (attr : ByteArray) (qi : Option Addr) (ci : Nat) (ints : List Int) (qw : Option Addr) (cw : Nat) (words : List ByteArray) (lo hi : Int) (vk vn : Int) (vs name : ByteArray) (w : World) (hfx : ∀ W, G W → Calls Tryz.prog 6 #[] W fun e w' => e = .returned (.bool true) ∧ Below W.heap.size W w') (hG : G w) (h1 : SlOf encI 1 w qi ci ints) (h2 : SlOf encS 1 w qw cw words) (l1 : ints.length ≤ 1000000000000000000) (l2 : words.length ≤ 1000000000000000000) :
    Calls Tryz.prog 5 #[.agg #[.int .i64 kind, .string attr, .slice qi ints.length ci, .slice qw words.length cw, .int .i64 lo, .int .i64 hi], .agg #[.int .i64 vk, .int .i64 vn, .string vs], .string name] w fun e w' => e = .returned (.bool true) ∧ Below w.heap.size w w' := by
  have mixed : Tryz.prog.follows .mixedOrders = true := by kernel_rfl
  have en19 : ∀ args w, (callFunc 19 args).run Tryz.prog w = .ok (.enter 19 args) w := enters_of Tryz.func19 (by kernel_rfl) rfl
  obtain ⟨X, HX⟩ : ∃ X, (w.alloc (.cells #[.int .i64 kind, .string attr, .slice qi ints.length ci, .slice qw words.length cw, .int .i64 lo, .int .i64 hi] 25)).alloc (.cells #[.int .i64 vk, .int .i64 vn, .string vs] 40) = X := ⟨_, rfl⟩
  have bX : Below w.heap.size w X := by rw [← HX]; exact ((Below.refl _ _).alloc (Nat.le_refl _) _).alloc (by simp) _
  have x9 : X.heap[w.heap.size + 1]? = some (.cells #[.int .i64 vk, .int .i64 vn, .string vs] 40 (0, 0)) := by
    have := World.alloc_heap_new (w.alloc (.cells #[.int .i64 kind, .string attr, .slice qi ints.length ci, .slice qw words.length cw, .int .i64 lo, .int .i64 hi] 25)) (.cells #[.int .i64 vk, .int .i64 vn, .string vs] 40)
    rw [World.size_alloc] at this
    rw [← HX]; exact this
  have x8 : X.heap[w.heap.size]? = some (.cells #[.int .i64 kind, .string attr, .slice qi ints.length ci, .slice qw words.length cw, .int .i64 lo, .int .i64 hi] 25 (0, 0)) := by
    rw [← HX]
    exact (((Below.refl _ _).alloc (Nat.le_refl _) _).block w.heap.size (by simp)).trans (World.alloc_heap_new _ _)
  have hlt : w.heap.size + 1 < X.heap.size := (Array.getElem?_eq_some_iff.1 x9).1
  have hlt0 : w.heap.size < X.heap.size := by omega
  obtain ⟨L, hL⟩ : ∃ L, keysOf kind attr ints words lo hi = L := ⟨_, rfl⟩
  obtain ⟨M, hM⟩ : ∃ M, evKeys ⟨name, vk, vn, vs⟩ = M := ⟨_, rfl⟩
  obtain ⟨fL1, fL2, fL3⟩ := of_facts kind attr ints words lo hi
  obtain ⟨fM1, fM2, fM3⟩ := ev_facts ⟨name, vk, vn, vs⟩
  have sL : Str L := by rw [← hL]; exact str_ris _
  rw [hL] at fL1 fL2 fL3
  rw [hM] at fM1 fM2 fM3
  have hml : M.length = wantN vk vn vs := fM3
  have m66 : M.length ≤ 66 := by rw [← hM]; exact evKeys_len _
  have hOf := fun (W : World) (hW : Below w.heap.size w W) => of_any kind attr qi ci ints qw cw words lo hi W (h1.below hW) (h2.below hW) l1 l2 (hG.below' hW)
  simp only [hL] at hOf
  have hEv := fun (B : Nat) (W : World) (hB : W.heap[B]? = some (.cells #[.string name, .int .i64 vk, .int .i64 vn, .string vs] 42 (0, 0))) => event_of (some ⟨B, 0, none⟩) 1 1 W [⟨name, vk, vn, vs⟩] (by simp) (firstsR1 (some ⟨B, 0, none⟩) 1 ⟨name, vk, vn, vs⟩ W (slR_one hB))
  simp only [List.flatMap_cons, List.flatMap_nil, List.append_nil, hM] at hEv
  have SL := hide sL
  have SM := hide fM1
  have KL := hide fL3
  have KM := hide fM2
  have HML := hide hml
  have hfX := hfx X (hG.below' bX)
  have X8 := hide x8
  have X9 := hide x9
  have BX := hide bX
  clear hL hM fM1 fM2 fM3 fL3 sL hml x8 x9 bX hfx hG h1 h2
  go_enter Tryz.func5, Tryz.ntmps5
  go_upto_region 3 with (go_at_call 6; refine hfX.mono ?_; rintro e w1 ⟨rfl, b1⟩; have B1 := hide b1; clear b1)
  clear HX
  have W8 := hide (((unhide B1).block _ hlt0).trans (unhide X8))
  have W9 := hide (((unhide B1).block _ hlt).trans (unhide X9))
  have l8 : w.heap.size < w1.heap.size := (Array.getElem?_eq_some_iff.1 (unhide W8)).1
  have l9 : w.heap.size + 1 < w1.heap.size := (Array.getElem?_eq_some_iff.1 (unhide W9)).1
  have BW := hide (below_sub (unhide BX) (unhide B1))
  have keepS : ∀ W', Below w1.heap.size w1 W' → (W'.cell? ⟨w.heap.size, 0, none⟩ = some (.int .i64 kind) ∧ W'.cell? ⟨w.heap.size, 1, none⟩ = some (.string attr) ∧ W'.cell? ⟨w.heap.size, 2, none⟩ = some (.slice qi ints.length ci) ∧ W'.cell? ⟨w.heap.size, 3, none⟩ = some (.slice qw words.length cw) ∧ W'.cell? ⟨w.heap.size, 4, none⟩ = some (.int .i64 lo) ∧ W'.cell? ⟨w.heap.size, 5, none⟩ = some (.int .i64 hi)) ∧ W'.cell? ⟨w.heap.size + 1, 0, none⟩ = some (.int .i64 vk) ∧ W'.cell? ⟨w.heap.size + 1, 1, none⟩ = some (.int .i64 vn) ∧ W'.cell? ⟨w.heap.size + 1, 2, none⟩ = some (.string vs) := fun W' hW => ⟨of6 ((hW.block _ l8).trans (unhide W8)), of3 ((hW.block _ l9).trans (unhide W9))⟩
  have hOf1 : ∀ W, Below w1.heap.size w1 W → Calls Tryz.prog 9 #[.agg #[.int .i64 kind, .string attr, .slice qi ints.length ci, .slice qw words.length cw, .int .i64 lo, .int .i64 hi]] W fun e w' => ∃ q c, e = .returned (.slice q L.length c) ∧ SlOf encK 5 w' q c L ∧ Below W.heap.size W w' ∧ Below w1.heap.size w1 w' := fun W hW => (hOf W (below_sub (unhide BW) hW)).mono fun e w' ⟨⟨q, c, he, ho⟩, hb⟩ => ⟨q, c, he, ho.ls, hb, below_sub hW hb⟩
  have hEv1 : ∀ (B : Nat) (W : World), Below w1.heap.size w1 W → W.heap[B]? = some (.cells #[.string name, .int .i64 vk, .int .i64 vn, .string vs] 42 (0, 0)) → Calls Tryz.prog 10 #[.slice (some ⟨B, 0, none⟩) 1 1] W fun e w' => ∃ q c, e = .returned (.slice q M.length c) ∧ SlOf encK 5 w' q c M ∧ Below W.heap.size W w' ∧ Below w1.heap.size w1 w' := fun B W hW hB => (hEv B W hB).mono fun e w' ⟨⟨q, c, he, ho⟩, hb⟩ => ⟨q, c, he, ho.ls, hb, below_sub hW hb⟩
  have k0 := keepS w1 (Below.refl _ _)
  clear hOf hEv hfX
  go_cut [7, 8] from 15 (fun s7 s8 V => ∃ (qL qM : Option Addr) (cL cM : Nat), s7 = .slice qL L.length cL ∧ s8 = .slice qM M.length cM ∧ SlOf encK 5 V qL cL L ∧ SlOf encK 5 V qM cM M ∧ Below w1.heap.size w1 V)
  case first =>
    obtain ⟨⟨a0, a1, a2, a3, a4, a5⟩, a6, a7, a8⟩ := k0
    go_region_held3 (fun W' => (W'.cell? ⟨w.heap.size, 0, none⟩ = some (.int .i64 kind) ∧ W'.cell? ⟨w.heap.size, 1, none⟩ = some (.string attr) ∧ W'.cell? ⟨w.heap.size, 2, none⟩ = some (.slice qi ints.length ci) ∧ W'.cell? ⟨w.heap.size, 3, none⟩ = some (.slice qw words.length cw) ∧ W'.cell? ⟨w.heap.size, 4, none⟩ = some (.int .i64 lo) ∧ W'.cell? ⟨w.heap.size, 5, none⟩ = some (.int .i64 hi)) ∧ W'.cell? ⟨w.heap.size + 1, 0, none⟩ = some (.int .i64 vk) ∧ W'.cell? ⟨w.heap.size + 1, 1, none⟩ = some (.int .i64 vn) ∧ W'.cell? ⟨w.heap.size + 1, 2, none⟩ = some (.string vs)) (first | exact keepS _ (unhide BC10) | exact keepS _ (unhide BC9) | exact keepS _ ((unhide BC9).alloc (unhide BC9).size _) | exact keepS _ ((Below.refl _ _).alloc (Nat.le_refl _) _) | exact keepS _ ((Below.refl _ _).alloc (Nat.le_refl _) _).drew | go_keep) (first
      | (go_at_call 9; refine (hOf1 _ (by first | exact unhide BC10 | exact (Below.refl _ _).drew | exact Below.refl _ _ | exact ((Below.refl _ _).alloc (Nat.le_refl _) _).drew | exact (Below.refl _ _).alloc (Nat.le_refl _) _)).mono ?_; rintro e w9 ⟨q9, c9, rfl, s9, b9, b19⟩; have SL9 := hide s9; (first | have SM2 := hide ((unhide SM10).below b9) | skip); (first | have BK : Hid (w9.heap[w1.heap.size]? = some (.cells #[.string name, .int .i64 vk, .int .i64 vn, .string vs] 42 (0, 0))) := hide ((b9.block w1.heap.size (by simp)).trans (World.alloc_heap_new w1 _)) | skip); have BC9 := hide b19; clear s9 b9 b19)
      | (go_at_call 10; refine (hEv1 _ _ (by first | exact unhide BC9 | exact (unhide BC9).alloc (unhide BC9).size _ | exact ((Below.refl _ _).alloc (Nat.le_refl _) _).drew | exact (Below.refl _ _).alloc (Nat.le_refl _) _) (by first | exact unhide BK | exact World.alloc_heap_new _ _)).mono ?_; rintro e w10 ⟨q10, c10, rfl, s10, b10, b110⟩; have SM10 := hide s10; (first | have SL2 := hide ((unhide SL9).below b10) | have SL2 := hide ((unhide SL9).below (below_sub ((Below.refl _ _).alloc (Nat.le_refl _) _) b10)) | skip); have BC10 := hide b110; clear s10 b10 b110))
    all_goals
      go_wp2
      go_meet
      first
        | exact ⟨q9, q10, c9, c10, rfl, rfl, unhide SL2, unhide SM10, unhide BC10⟩
        | exact ⟨q9, q10, c9, c10, rfl, rfl, unhide SL9, unhide SM2, unhide BC9⟩
  case rest =>
    obtain ⟨qL, qM, cL, cM, rfl, rfl, sl, sm, bV⟩ := hcut
    obtain ⟨V, rfl⟩ : ∃ V, V = wc := ⟨_, rfl⟩
    obtain ⟨⟨a0, a1, a2, a3, a4, a5⟩, a6, a7, a8⟩ := keepS _ bV
    have S7 := hide sl
    have S8 := hide sm
    have BV := hide (below_sub (unhide BW) bV)
    have lL : (L.length : Int) ≤ 64 := by omega
    have lM : (M.length : Int) ≤ 66 := by omega
    have sV := bV.size
    clear sl sm bV hOf1 hEv1 keepS k0
    obtain ⟨bA, hbA⟩ : ∃ bA : Bool, decide (vk = 1 ∧ -2147483648 ≤ vn ∧ vn ≤ 2147483647 ∧ vs.size = 0) = bA := ⟨_, rfl⟩
    obtain ⟨bB, hbB⟩ : ∃ bB : Bool, decide (vk = 2 ∧ vn = 0 ∧ vs.size ≤ 64) = bB := ⟨_, rfl⟩
    have HbA := hide hbA
    have HbB := hide hbB
    clear hbA hbB
    go_upto_region 5 with fail
    go_cut [39] from 22 (fun s39 V' => s39 = .bool bA ∧ V' = V)
    case first =>
      have hA := unhide HbA
      by_cases e1 : vk = 1
      · subst e1
        cases e2 : vs.toList.isEmpty with
        | true =>
          have e3 := (empty_iff vs).1 e2
          by_cases e4 : -2147483648 ≤ vn
          · by_cases e5 : vn ≤ 2147483647
            · have hb : bA = true := by rw [← hA]; exact decide_eq_true ⟨rfl, e4, e5, e3⟩
              subst hb
              clear hA HbA
              go_wp2
              go_meet
              exact ⟨rfl, rfl⟩
            · have hb : bA = false := by rw [← hA]; exact decide_eq_false (fun h => e5 h.2.2.1)
              subst hb
              clear hA HbA
              go_wp2
              go_meet
              exact ⟨rfl, rfl⟩
          · have hb : bA = false := by rw [← hA]; exact decide_eq_false (fun h => e4 h.2.1)
            subst hb
            clear hA HbA
            go_wp2
            go_meet
            exact ⟨rfl, rfl⟩
        | false =>
          have hb : bA = false := by rw [← hA]; exact decide_eq_false (fun h => by rw [(empty_iff vs).2 h.2.2.2] at e2; cases e2)
          subst hb
          clear hA HbA
          go_wp2
          go_meet
          exact ⟨rfl, rfl⟩
      · have e2 : (vk == 1) = false := by simpa using e1
        have hb : bA = false := by rw [← hA]; exact decide_eq_false (fun h => e1 h.1)
        subst hb
        clear hA HbA
        go_wp2
        go_meet
        exact ⟨rfl, rfl⟩
    case rest =>
      obtain ⟨rfl, hwc⟩ := hcut
      obtain rfl := hwc.symm
      clear hwc
      cases bA with
      | true =>
        have hA := of_decide_eq_true (unhide HbA)
        have hne : ((M.length : Int) != 34) = false := by
          have h := unhide HML
          unfold wantN at h
          rw [if_pos hA] at h
          simp [h]
        have kv : (vk == 2) = false := by rw [beq_eq_false_iff_ne]; omega
        clear hA
        go_upto_region 9 with fail
        go_cut [76] from 58 (fun s76 V' => s76 = .bool false ∧ V' = V)
        case first =>
          by_cases k3 : kind = 3
          · have l62 : (L.length : Int) ≤ 62 := by have := fL2 k3; omega
            have kb : (kind == 3) = true := by simpa using k3
            have d64 : decide ((64 : Int) < (L.length : Int)) = false := decide_eq_false (by omega)
            have d62 : decide ((62 : Int) < (L.length : Int)) = false := decide_eq_false (by omega)
            clear k3
            go_wp2
            go_meet
            exact ⟨by first | rfl | simp [d64, d62], rfl⟩
          · have kb : (kind == 3) = false := by simpa using k3
            have d64 : decide ((64 : Int) < (L.length : Int)) = false := decide_eq_false (by omega)
            go_wp2
            go_meet
            exact ⟨by first | rfl | simp [d64], rfl⟩
        case rest =>
          obtain ⟨rfl, hwc⟩ := hcut
          obtain rfl := hwc.symm
          clear hwc
          obtain ⟨Y, HY⟩ : ∃ Y, V.alloc (.cells #[.slice qL L.length cL, .slice qM M.length cM] 30) = Y := ⟨_, rfl⟩
          have y8 : Y.heap[V.heap.size]? = some (.cells #[.slice qL L.length cL, .slice qM M.length cM] 30 (0, 0)) := by rw [← HY]; exact World.alloc_heap_new _ _
          have bVY : Below V.heap.size V Y := by rw [← HY]; exact (Below.refl _ _).alloc (Nat.le_refl _) _
          have lY : V.heap.size < Y.heap.size := (Array.getElem?_eq_some_iff.1 y8).1
          have BVY := hide bVY
          have Y8 := hide y8
          clear y8 bVY a0 a1 a2 a3 a4 a5 a6 a7 a8 hne
          go_wp2
          clear HY
          go_loopw [81] (fun iv wr => (iv = .int .i64 0 ∨ iv = .int .i64 1 ∨ iv = .int .i64 2) ∧ Hid (Below Y.heap.size Y wr)) (fun iv _ => 2 - (intOf iv).toNat)
          case atStart => exact ⟨Or.inl rfl, hide (Below.refl _ _)⟩
          case round =>
            obtain ⟨ht3, HBo⟩ := hrel
            have ty8 := ((unhide HBo).block _ lY).trans (unhide Y8)
            have t0 : wr.cell? ⟨V.heap.size, 0, none⟩ = some (.slice qL L.length cL) := by unfold World.cell?; simp [ty8]
            have t1 : wr.cell? ⟨V.heap.size, 1, none⟩ = some (.slice qM M.length cM) := by unfold World.cell?; simp [ty8]
            clear ty8
            rcases ht3 with rfl | rfl | rfl
            · obtain ⟨V2, hV2⟩ : ∃ V2, V2 = wr := ⟨_, rfl⟩
              subst hV2
              go_wp2
              go_loopw [87] (fun jv wr => ∃ j : Nat, j ≤ L.length ∧ jv = .int .i64 j ∧ Hid (Below Y.heap.size Y wr)) (fun jv _ => L.length - (intOf jv).toNat)
              case atStart => exact ⟨0, Nat.zero_le _, rfl, HBo⟩
              case round =>
                obtain ⟨j, hj, rfl, HBi⟩ := hrel
                have HBV := hide (below_sub (unhide BVY) (unhide HBi))
                by_cases hjl : j < L.length
                · obtain ⟨y, hy, _⟩ := get_at hjl
                  obtain ⟨b2, o2, hq2, hb2, d0, d1, d2, d3, d4⟩ := postAt (unhide S7) hy
                  obtain ⟨ky1, ky2⟩ := unhide KL y (List.mem_of_getElem? hy)
                  have e1 : (j : Int) < (L.length : Int) := by omega
                  have e0 : (0 : Int) ≤ (j : Int) := by omega
                  have kn1 : ¬ y.kind < 1 := by omega
                  have kn2 : ¬ 4 < y.kind := by omega
                  have kd1 : decide (y.kind < 1) = false := decide_eq_false kn1
                  have kd2 : decide (4 < y.kind) = false := decide_eq_false kn2
                  have y0 := re_cellK (unhide HBV) hb2 d0
                  have y1 := re_cellK (unhide HBV) hb2 d1
                  have y2 := re_cellK (unhide HBV) hb2 d2
                  have y3 := re_cellK (unhide HBV) hb2 d3
                  have y4 := re_cellK (unhide HBV) hb2 d4
                  by_cases hj0 : j = 0
                  · subst hj0
                    subst hq2
                    simp only [Nat.zero_mul, Nat.add_zero] at y0 y1 y2 y3 y4
                    clear hy d0 d1 d2 d3 d4
                    go_wp2
                    refine wp_region_quiet_below (by assumption) (by kernel_rfl) ?_
                    repeat (go_big_quiet_step (fail))
                    refine wpQuiet_nil ?_
                    intro _ hw'
                    obtain ⟨⟨dq, osq⟩, hw''⟩ := hw'
                    subst hw''
                    have B3 := hide (below_sub (unhide HBi) (below_regrown wr dq osq))
                    generalize grow (redrawn wr dq) osq = W3 at B3 ⊢
                    clear y0 y1 y2 y3 y4 kd1 kd2 kn1 kn2
                    go_wp2
                    go_roundw
                    case rel => exact ⟨0 + 1, by omega, by go_num, B3⟩
                    case measure => simp [intOf]; omega
                  · obtain ⟨i, rfl⟩ : ∃ i, j = i + 1 := ⟨j - 1, by omega⟩
                    obtain ⟨x, hx, _⟩ := get_at (l := L) (k := i) (by omega)
                    obtain ⟨b1, o1, hq1, _, c0, c1, c2, c3, c4⟩ := postAt (unhide S7) hx
                    obtain ⟨rfl, rfl⟩ : b1 = b2 ∧ o1 = o2 := by rw [hq1] at hq2; injection hq2 with hq2; injection hq2 with h1 h2; exact ⟨h1, h2⟩
                    have hcm : cmpK x y = -1 := by
                      have h1 := List.pairwise_iff_getElem.1 (unhide SL) i (i + 1) (by omega) hjl (by omega)
                      rw [(List.getElem?_eq_some_iff.1 hx).2, (List.getElem?_eq_some_iff.1 hy).2] at h1
                      unfold ltK at h1
                      rcases isCmp_key.rng x y with h | h | h <;> omega
                    have x0 := re_cellK (unhide HBV) hb2 c0
                    have x1 := re_cellK (unhide HBV) hb2 c1
                    have x2 := re_cellK (unhide HBV) hb2 c2
                    have x3 := re_cellK (unhide HBV) hb2 c3
                    have x4 := re_cellK (unhide HBV) hb2 c4
                    have i1 : (i : Int) < (L.length : Int) := by omega
                    have i0 : (0 : Int) ≤ (i : Int) := by omega
                    have i2 : (i : Int) + 1 < (L.length : Int) := by omega
                    have i3 : (0 : Int) ≤ (i : Int) + 1 := by omega
                    have i4 : (0 : Int) < (i : Int) + 1 := by omega
                    have it : ((i : Int) + 1).toNat = i + 1 := by omega
                    have iw := wrap_nat i (by omega)
                    subst hq1
                    clear hx hy hq2 hj0 d0 d1 d2 d3 d4 c0 c1 c2 c3 c4
                    go_wp2
                    refine wp_region_quiet_below (by assumption) (by kernel_rfl) ?_
                    repeat (go_big_quiet_step (first | (go_at_fn 19; refine Calls.regrown_of (compareB _ _ _))))
                    refine wpQuiet_nil ?_
                    intro _ hw'
                    obtain ⟨⟨dq, osq⟩, hw''⟩ := hw'
                    subst hw''
                    have B3 := hide (below_sub (unhide HBi) (below_regrown wr dq osq))
                    generalize grow (redrawn wr dq) osq = W3 at B3 ⊢
                    clear y0 y1 y2 y3 y4 x0 x1 x2 x3 x4 kd1 kd2 kn1 kn2 hcm iw it
                    go_wp2
                    go_roundw
                    case rel => exact ⟨i + 1 + 1, by omega, by go_num, B3⟩
                    case measure => simp [intOf]; omega
                · have e1 : ¬ (j : Int) < (L.length : Int) := by omega
                  go_wp2
                  go_roundw
                  case rel => exact ⟨Or.inr (Or.inl rfl), HBi⟩
                  case measure => simp [intOf]

            · obtain ⟨V2, hV2⟩ : ∃ V2, V2 = wr := ⟨_, rfl⟩
              subst hV2
              go_wp2
              go_loopw [87] (fun jv wr => ∃ j : Nat, j ≤ M.length ∧ jv = .int .i64 j ∧ Hid (Below Y.heap.size Y wr)) (fun jv _ => M.length - (intOf jv).toNat)
              case atStart => exact ⟨0, Nat.zero_le _, rfl, HBo⟩
              case round =>
                obtain ⟨j, hj, rfl, HBi⟩ := hrel
                have HBV := hide (below_sub (unhide BVY) (unhide HBi))
                by_cases hjl : j < M.length
                · obtain ⟨y, hy, _⟩ := get_at hjl
                  obtain ⟨b2, o2, hq2, hb2, d0, d1, d2, d3, d4⟩ := postAt (unhide S8) hy
                  obtain ⟨ky1, ky2⟩ := unhide KM y (List.mem_of_getElem? hy)
                  have e1 : (j : Int) < (M.length : Int) := by omega
                  have e0 : (0 : Int) ≤ (j : Int) := by omega
                  have kn1 : ¬ y.kind < 1 := by omega
                  have kn2 : ¬ 4 < y.kind := by omega
                  have kd1 : decide (y.kind < 1) = false := decide_eq_false kn1
                  have kd2 : decide (4 < y.kind) = false := decide_eq_false kn2
                  have y0 := re_cellK (unhide HBV) hb2 d0
                  have y1 := re_cellK (unhide HBV) hb2 d1
                  have y2 := re_cellK (unhide HBV) hb2 d2
                  have y3 := re_cellK (unhide HBV) hb2 d3
                  have y4 := re_cellK (unhide HBV) hb2 d4
                  by_cases hj0 : j = 0
                  · subst hj0
                    subst hq2
                    simp only [Nat.zero_mul, Nat.add_zero] at y0 y1 y2 y3 y4
                    clear hy d0 d1 d2 d3 d4
                    go_wp2
                    refine wp_region_quiet_below (by assumption) (by kernel_rfl) ?_
                    repeat (go_big_quiet_step (fail))
                    refine wpQuiet_nil ?_
                    intro _ hw'
                    obtain ⟨⟨dq, osq⟩, hw''⟩ := hw'
                    subst hw''
                    have B3 := hide (below_sub (unhide HBi) (below_regrown wr dq osq))
                    generalize grow (redrawn wr dq) osq = W3 at B3 ⊢
                    clear y0 y1 y2 y3 y4 kd1 kd2 kn1 kn2
                    go_wp2
                    go_roundw
                    case rel => exact ⟨0 + 1, by omega, by go_num, B3⟩
                    case measure => simp [intOf]; omega
                  · obtain ⟨i, rfl⟩ : ∃ i, j = i + 1 := ⟨j - 1, by omega⟩
                    obtain ⟨x, hx, _⟩ := get_at (l := M) (k := i) (by omega)
                    obtain ⟨b1, o1, hq1, _, c0, c1, c2, c3, c4⟩ := postAt (unhide S8) hx
                    obtain ⟨rfl, rfl⟩ : b1 = b2 ∧ o1 = o2 := by rw [hq1] at hq2; injection hq2 with hq2; injection hq2 with h1 h2; exact ⟨h1, h2⟩
                    have hcm : cmpK x y = -1 := by
                      have h1 := List.pairwise_iff_getElem.1 (unhide SM) i (i + 1) (by omega) hjl (by omega)
                      rw [(List.getElem?_eq_some_iff.1 hx).2, (List.getElem?_eq_some_iff.1 hy).2] at h1
                      unfold ltK at h1
                      rcases isCmp_key.rng x y with h | h | h <;> omega
                    have x0 := re_cellK (unhide HBV) hb2 c0
                    have x1 := re_cellK (unhide HBV) hb2 c1
                    have x2 := re_cellK (unhide HBV) hb2 c2
                    have x3 := re_cellK (unhide HBV) hb2 c3
                    have x4 := re_cellK (unhide HBV) hb2 c4
                    have i1 : (i : Int) < (M.length : Int) := by omega
                    have i0 : (0 : Int) ≤ (i : Int) := by omega
                    have i2 : (i : Int) + 1 < (M.length : Int) := by omega
                    have i3 : (0 : Int) ≤ (i : Int) + 1 := by omega
                    have i4 : (0 : Int) < (i : Int) + 1 := by omega
                    have it : ((i : Int) + 1).toNat = i + 1 := by omega
                    have iw := wrap_nat i (by omega)
                    subst hq1
                    clear hx hy hq2 hj0 d0 d1 d2 d3 d4 c0 c1 c2 c3 c4
                    go_wp2
                    refine wp_region_quiet_below (by assumption) (by kernel_rfl) ?_
                    repeat (go_big_quiet_step (first | (go_at_fn 19; refine Calls.regrown_of (compareB _ _ _))))
                    refine wpQuiet_nil ?_
                    intro _ hw'
                    obtain ⟨⟨dq, osq⟩, hw''⟩ := hw'
                    subst hw''
                    have B3 := hide (below_sub (unhide HBi) (below_regrown wr dq osq))
                    generalize grow (redrawn wr dq) osq = W3 at B3 ⊢
                    clear y0 y1 y2 y3 y4 x0 x1 x2 x3 x4 kd1 kd2 kn1 kn2 hcm iw it
                    go_wp2
                    go_roundw
                    case rel => exact ⟨i + 1 + 1, by omega, by go_num, B3⟩
                    case measure => simp [intOf]; omega
                · have e1 : ¬ (j : Int) < (M.length : Int) := by omega
                  go_wp2
                  go_roundw
                  case rel => exact ⟨Or.inr (Or.inr rfl), HBi⟩
                  case measure => simp [intOf]

            · go_wp2
              go_ret
              exact ⟨rfl, below_sub (unhide BV) (below_sub (unhide BVY) (unhide HBo))⟩

      | false =>
        have hA := of_decide_eq_false (unhide HbA)
        have HNA := hide hA
        clear hA
        go_upto_region 7 with fail
        go_cut [53] from 40 (fun s53 V' => s53 = .bool bB ∧ V' = V)
        case first =>
          have hB := unhide HbB
          by_cases e1 : vk = 2
          · have e1' : (vk == 2) = true := by simpa using e1
            by_cases e2 : vn = 0
            · have e2' : (vn == 0) = true := by simpa using e2
              by_cases e3 : vs.size ≤ 64
              · have hb : bB = true := by rw [← hB]; exact decide_eq_true ⟨e1, e2, e3⟩
                have e4 : (vs.size : Int) ≤ 64 := by omega
                subst hb
                clear hB HbB e1 e2
                go_wp2
                go_meet
                exact ⟨rfl, rfl⟩
              · have hb : bB = false := by rw [← hB]; exact decide_eq_false (fun h => e3 h.2.2)
                have e4 : ¬ (vs.size : Int) ≤ 64 := by omega
                subst hb
                clear hB HbB e1 e2
                go_wp2
                go_meet
                exact ⟨rfl, rfl⟩
            · have e2' : (vn == 0) = false := by simpa using e2
              have hb : bB = false := by rw [← hB]; exact decide_eq_false (fun h => e2 h.2.1)
              subst hb
              clear hB HbB e1 e2
              go_wp2
              go_meet
              exact ⟨rfl, rfl⟩
          · have e1' : (vk == 2) = false := by simpa using e1
            have hb : bB = false := by rw [← hB]; exact decide_eq_false (fun h => e1 h.1)
            subst hb
            clear hB HbB e1
            go_wp2
            go_meet
            exact ⟨rfl, rfl⟩
        case rest =>
          obtain ⟨rfl, hwc⟩ := hcut
          obtain rfl := hwc.symm
          clear hwc
          cases bB with
          | true =>
            have hB := of_decide_eq_true (unhide HbB)
            have hne : ((M.length : Int) != (vs.size : Int) + 2) = false := by
              have h := unhide HML
              unfold wantN at h
              rw [if_neg (unhide HNA), if_pos hB] at h
              simp [h]
            have e4 : (vs.size : Int) ≤ 64 := by have := hB.2.2; omega
            clear hB
            go_upto_region 9 with fail
            go_cut [76] from 58 (fun s76 V' => s76 = .bool false ∧ V' = V)
            case first =>
              by_cases k3 : kind = 3
              · have l62 : (L.length : Int) ≤ 62 := by have := fL2 k3; omega
                have kb : (kind == 3) = true := by simpa using k3
                have d64 : decide ((64 : Int) < (L.length : Int)) = false := decide_eq_false (by omega)
                have d62 : decide ((62 : Int) < (L.length : Int)) = false := decide_eq_false (by omega)
                clear k3
                go_wp2
                go_meet
                exact ⟨by first | rfl | simp [d64, d62], rfl⟩
              · have kb : (kind == 3) = false := by simpa using k3
                have d64 : decide ((64 : Int) < (L.length : Int)) = false := decide_eq_false (by omega)
                go_wp2
                go_meet
                exact ⟨by first | rfl | simp [d64], rfl⟩
            case rest =>
              obtain ⟨rfl, hwc⟩ := hcut
              obtain rfl := hwc.symm
              clear hwc
              obtain ⟨Y, HY⟩ : ∃ Y, V.alloc (.cells #[.slice qL L.length cL, .slice qM M.length cM] 30) = Y := ⟨_, rfl⟩
              have y8 : Y.heap[V.heap.size]? = some (.cells #[.slice qL L.length cL, .slice qM M.length cM] 30 (0, 0)) := by rw [← HY]; exact World.alloc_heap_new _ _
              have bVY : Below V.heap.size V Y := by rw [← HY]; exact (Below.refl _ _).alloc (Nat.le_refl _) _
              have lY : V.heap.size < Y.heap.size := (Array.getElem?_eq_some_iff.1 y8).1
              have BVY := hide bVY
              have Y8 := hide y8
              clear y8 bVY a0 a1 a2 a3 a4 a5 a6 a7 a8 hne
              go_wp2
              clear HY
              go_loopw [81] (fun iv wr => (iv = .int .i64 0 ∨ iv = .int .i64 1 ∨ iv = .int .i64 2) ∧ Hid (Below Y.heap.size Y wr)) (fun iv _ => 2 - (intOf iv).toNat)
              case atStart => exact ⟨Or.inl rfl, hide (Below.refl _ _)⟩
              case round =>
                obtain ⟨ht3, HBo⟩ := hrel
                have ty8 := ((unhide HBo).block _ lY).trans (unhide Y8)
                have t0 : wr.cell? ⟨V.heap.size, 0, none⟩ = some (.slice qL L.length cL) := by unfold World.cell?; simp [ty8]
                have t1 : wr.cell? ⟨V.heap.size, 1, none⟩ = some (.slice qM M.length cM) := by unfold World.cell?; simp [ty8]
                clear ty8
                rcases ht3 with rfl | rfl | rfl
                · obtain ⟨V2, hV2⟩ : ∃ V2, V2 = wr := ⟨_, rfl⟩
                  subst hV2
                  go_wp2
                  go_loopw [87] (fun jv wr => ∃ j : Nat, j ≤ L.length ∧ jv = .int .i64 j ∧ Hid (Below Y.heap.size Y wr)) (fun jv _ => L.length - (intOf jv).toNat)
                  case atStart => exact ⟨0, Nat.zero_le _, rfl, HBo⟩
                  case round =>
                    obtain ⟨j, hj, rfl, HBi⟩ := hrel
                    have HBV := hide (below_sub (unhide BVY) (unhide HBi))
                    by_cases hjl : j < L.length
                    · obtain ⟨y, hy, _⟩ := get_at hjl
                      obtain ⟨b2, o2, hq2, hb2, d0, d1, d2, d3, d4⟩ := postAt (unhide S7) hy
                      obtain ⟨ky1, ky2⟩ := unhide KL y (List.mem_of_getElem? hy)
                      have e1 : (j : Int) < (L.length : Int) := by omega
                      have e0 : (0 : Int) ≤ (j : Int) := by omega
                      have kn1 : ¬ y.kind < 1 := by omega
                      have kn2 : ¬ 4 < y.kind := by omega
                      have kd1 : decide (y.kind < 1) = false := decide_eq_false kn1
                      have kd2 : decide (4 < y.kind) = false := decide_eq_false kn2
                      have y0 := re_cellK (unhide HBV) hb2 d0
                      have y1 := re_cellK (unhide HBV) hb2 d1
                      have y2 := re_cellK (unhide HBV) hb2 d2
                      have y3 := re_cellK (unhide HBV) hb2 d3
                      have y4 := re_cellK (unhide HBV) hb2 d4
                      by_cases hj0 : j = 0
                      · subst hj0
                        subst hq2
                        simp only [Nat.zero_mul, Nat.add_zero] at y0 y1 y2 y3 y4
                        clear hy d0 d1 d2 d3 d4
                        go_wp2
                        refine wp_region_quiet_below (by assumption) (by kernel_rfl) ?_
                        repeat (go_big_quiet_step (fail))
                        refine wpQuiet_nil ?_
                        intro _ hw'
                        obtain ⟨⟨dq, osq⟩, hw''⟩ := hw'
                        subst hw''
                        have B3 := hide (below_sub (unhide HBi) (below_regrown wr dq osq))
                        generalize grow (redrawn wr dq) osq = W3 at B3 ⊢
                        clear y0 y1 y2 y3 y4 kd1 kd2 kn1 kn2
                        go_wp2
                        go_roundw
                        case rel => exact ⟨0 + 1, by omega, by go_num, B3⟩
                        case measure => simp [intOf]; omega
                      · obtain ⟨i, rfl⟩ : ∃ i, j = i + 1 := ⟨j - 1, by omega⟩
                        obtain ⟨x, hx, _⟩ := get_at (l := L) (k := i) (by omega)
                        obtain ⟨b1, o1, hq1, _, c0, c1, c2, c3, c4⟩ := postAt (unhide S7) hx
                        obtain ⟨rfl, rfl⟩ : b1 = b2 ∧ o1 = o2 := by rw [hq1] at hq2; injection hq2 with hq2; injection hq2 with h1 h2; exact ⟨h1, h2⟩
                        have hcm : cmpK x y = -1 := by
                          have h1 := List.pairwise_iff_getElem.1 (unhide SL) i (i + 1) (by omega) hjl (by omega)
                          rw [(List.getElem?_eq_some_iff.1 hx).2, (List.getElem?_eq_some_iff.1 hy).2] at h1
                          unfold ltK at h1
                          rcases isCmp_key.rng x y with h | h | h <;> omega
                        have x0 := re_cellK (unhide HBV) hb2 c0
                        have x1 := re_cellK (unhide HBV) hb2 c1
                        have x2 := re_cellK (unhide HBV) hb2 c2
                        have x3 := re_cellK (unhide HBV) hb2 c3
                        have x4 := re_cellK (unhide HBV) hb2 c4
                        have i1 : (i : Int) < (L.length : Int) := by omega
                        have i0 : (0 : Int) ≤ (i : Int) := by omega
                        have i2 : (i : Int) + 1 < (L.length : Int) := by omega
                        have i3 : (0 : Int) ≤ (i : Int) + 1 := by omega
                        have i4 : (0 : Int) < (i : Int) + 1 := by omega
                        have it : ((i : Int) + 1).toNat = i + 1 := by omega
                        have iw := wrap_nat i (by omega)
                        subst hq1
                        clear hx hy hq2 hj0 d0 d1 d2 d3 d4 c0 c1 c2 c3 c4
                        go_wp2
                        refine wp_region_quiet_below (by assumption) (by kernel_rfl) ?_
                        repeat (go_big_quiet_step (first | (go_at_fn 19; refine Calls.regrown_of (compareB _ _ _))))
                        refine wpQuiet_nil ?_
                        intro _ hw'
                        obtain ⟨⟨dq, osq⟩, hw''⟩ := hw'
                        subst hw''
                        have B3 := hide (below_sub (unhide HBi) (below_regrown wr dq osq))
                        generalize grow (redrawn wr dq) osq = W3 at B3 ⊢
                        clear y0 y1 y2 y3 y4 x0 x1 x2 x3 x4 kd1 kd2 kn1 kn2 hcm iw it
                        go_wp2
                        go_roundw
                        case rel => exact ⟨i + 1 + 1, by omega, by go_num, B3⟩
                        case measure => simp [intOf]; omega
                    · have e1 : ¬ (j : Int) < (L.length : Int) := by omega
                      go_wp2
                      go_roundw
                      case rel => exact ⟨Or.inr (Or.inl rfl), HBi⟩
                      case measure => simp [intOf]

                · obtain ⟨V2, hV2⟩ : ∃ V2, V2 = wr := ⟨_, rfl⟩
                  subst hV2
                  go_wp2
                  go_loopw [87] (fun jv wr => ∃ j : Nat, j ≤ M.length ∧ jv = .int .i64 j ∧ Hid (Below Y.heap.size Y wr)) (fun jv _ => M.length - (intOf jv).toNat)
                  case atStart => exact ⟨0, Nat.zero_le _, rfl, HBo⟩
                  case round =>
                    obtain ⟨j, hj, rfl, HBi⟩ := hrel
                    have HBV := hide (below_sub (unhide BVY) (unhide HBi))
                    by_cases hjl : j < M.length
                    · obtain ⟨y, hy, _⟩ := get_at hjl
                      obtain ⟨b2, o2, hq2, hb2, d0, d1, d2, d3, d4⟩ := postAt (unhide S8) hy
                      obtain ⟨ky1, ky2⟩ := unhide KM y (List.mem_of_getElem? hy)
                      have e1 : (j : Int) < (M.length : Int) := by omega
                      have e0 : (0 : Int) ≤ (j : Int) := by omega
                      have kn1 : ¬ y.kind < 1 := by omega
                      have kn2 : ¬ 4 < y.kind := by omega
                      have kd1 : decide (y.kind < 1) = false := decide_eq_false kn1
                      have kd2 : decide (4 < y.kind) = false := decide_eq_false kn2
                      have y0 := re_cellK (unhide HBV) hb2 d0
                      have y1 := re_cellK (unhide HBV) hb2 d1
                      have y2 := re_cellK (unhide HBV) hb2 d2
                      have y3 := re_cellK (unhide HBV) hb2 d3
                      have y4 := re_cellK (unhide HBV) hb2 d4
                      by_cases hj0 : j = 0
                      · subst hj0
                        subst hq2
                        simp only [Nat.zero_mul, Nat.add_zero] at y0 y1 y2 y3 y4
                        clear hy d0 d1 d2 d3 d4
                        go_wp2
                        refine wp_region_quiet_below (by assumption) (by kernel_rfl) ?_
                        repeat (go_big_quiet_step (fail))
                        refine wpQuiet_nil ?_
                        intro _ hw'
                        obtain ⟨⟨dq, osq⟩, hw''⟩ := hw'
                        subst hw''
                        have B3 := hide (below_sub (unhide HBi) (below_regrown wr dq osq))
                        generalize grow (redrawn wr dq) osq = W3 at B3 ⊢
                        clear y0 y1 y2 y3 y4 kd1 kd2 kn1 kn2
                        go_wp2
                        go_roundw
                        case rel => exact ⟨0 + 1, by omega, by go_num, B3⟩
                        case measure => simp [intOf]; omega
                      · obtain ⟨i, rfl⟩ : ∃ i, j = i + 1 := ⟨j - 1, by omega⟩
                        obtain ⟨x, hx, _⟩ := get_at (l := M) (k := i) (by omega)
                        obtain ⟨b1, o1, hq1, _, c0, c1, c2, c3, c4⟩ := postAt (unhide S8) hx
                        obtain ⟨rfl, rfl⟩ : b1 = b2 ∧ o1 = o2 := by rw [hq1] at hq2; injection hq2 with hq2; injection hq2 with h1 h2; exact ⟨h1, h2⟩
                        have hcm : cmpK x y = -1 := by
                          have h1 := List.pairwise_iff_getElem.1 (unhide SM) i (i + 1) (by omega) hjl (by omega)
                          rw [(List.getElem?_eq_some_iff.1 hx).2, (List.getElem?_eq_some_iff.1 hy).2] at h1
                          unfold ltK at h1
                          rcases isCmp_key.rng x y with h | h | h <;> omega
                        have x0 := re_cellK (unhide HBV) hb2 c0
                        have x1 := re_cellK (unhide HBV) hb2 c1
                        have x2 := re_cellK (unhide HBV) hb2 c2
                        have x3 := re_cellK (unhide HBV) hb2 c3
                        have x4 := re_cellK (unhide HBV) hb2 c4
                        have i1 : (i : Int) < (M.length : Int) := by omega
                        have i0 : (0 : Int) ≤ (i : Int) := by omega
                        have i2 : (i : Int) + 1 < (M.length : Int) := by omega
                        have i3 : (0 : Int) ≤ (i : Int) + 1 := by omega
                        have i4 : (0 : Int) < (i : Int) + 1 := by omega
                        have it : ((i : Int) + 1).toNat = i + 1 := by omega
                        have iw := wrap_nat i (by omega)
                        subst hq1
                        clear hx hy hq2 hj0 d0 d1 d2 d3 d4 c0 c1 c2 c3 c4
                        go_wp2
                        refine wp_region_quiet_below (by assumption) (by kernel_rfl) ?_
                        repeat (go_big_quiet_step (first | (go_at_fn 19; refine Calls.regrown_of (compareB _ _ _))))
                        refine wpQuiet_nil ?_
                        intro _ hw'
                        obtain ⟨⟨dq, osq⟩, hw''⟩ := hw'
                        subst hw''
                        have B3 := hide (below_sub (unhide HBi) (below_regrown wr dq osq))
                        generalize grow (redrawn wr dq) osq = W3 at B3 ⊢
                        clear y0 y1 y2 y3 y4 x0 x1 x2 x3 x4 kd1 kd2 kn1 kn2 hcm iw it
                        go_wp2
                        go_roundw
                        case rel => exact ⟨i + 1 + 1, by omega, by go_num, B3⟩
                        case measure => simp [intOf]; omega
                    · have e1 : ¬ (j : Int) < (M.length : Int) := by omega
                      go_wp2
                      go_roundw
                      case rel => exact ⟨Or.inr (Or.inr rfl), HBi⟩
                      case measure => simp [intOf]

                · go_wp2
                  go_ret
                  exact ⟨rfl, below_sub (unhide BV) (below_sub (unhide BVY) (unhide HBo))⟩

          | false =>
            have hB := of_decide_eq_false (unhide HbB)
            have hne : ((M.length : Int) != 0) = false := by
              have h := unhide HML
              unfold wantN at h
              rw [if_neg (unhide HNA), if_neg hB] at h
              simp [h]
            clear hB
            go_upto_region 9 with fail
            go_cut [76] from 58 (fun s76 V' => s76 = .bool false ∧ V' = V)
            case first =>
              by_cases k3 : kind = 3
              · have l62 : (L.length : Int) ≤ 62 := by have := fL2 k3; omega
                have kb : (kind == 3) = true := by simpa using k3
                have d64 : decide ((64 : Int) < (L.length : Int)) = false := decide_eq_false (by omega)
                have d62 : decide ((62 : Int) < (L.length : Int)) = false := decide_eq_false (by omega)
                clear k3
                go_wp2
                go_meet
                exact ⟨by first | rfl | simp [d64, d62], rfl⟩
              · have kb : (kind == 3) = false := by simpa using k3
                have d64 : decide ((64 : Int) < (L.length : Int)) = false := decide_eq_false (by omega)
                go_wp2
                go_meet
                exact ⟨by first | rfl | simp [d64], rfl⟩
            case rest =>
              obtain ⟨rfl, hwc⟩ := hcut
              obtain rfl := hwc.symm
              clear hwc
              obtain ⟨Y, HY⟩ : ∃ Y, V.alloc (.cells #[.slice qL L.length cL, .slice qM M.length cM] 30) = Y := ⟨_, rfl⟩
              have y8 : Y.heap[V.heap.size]? = some (.cells #[.slice qL L.length cL, .slice qM M.length cM] 30 (0, 0)) := by rw [← HY]; exact World.alloc_heap_new _ _
              have bVY : Below V.heap.size V Y := by rw [← HY]; exact (Below.refl _ _).alloc (Nat.le_refl _) _
              have lY : V.heap.size < Y.heap.size := (Array.getElem?_eq_some_iff.1 y8).1
              have BVY := hide bVY
              have Y8 := hide y8
              clear y8 bVY a0 a1 a2 a3 a4 a5 a6 a7 a8 hne
              go_wp2
              clear HY
              go_loopw [81] (fun iv wr => (iv = .int .i64 0 ∨ iv = .int .i64 1 ∨ iv = .int .i64 2) ∧ Hid (Below Y.heap.size Y wr)) (fun iv _ => 2 - (intOf iv).toNat)
              case atStart => exact ⟨Or.inl rfl, hide (Below.refl _ _)⟩
              case round =>
                obtain ⟨ht3, HBo⟩ := hrel
                have ty8 := ((unhide HBo).block _ lY).trans (unhide Y8)
                have t0 : wr.cell? ⟨V.heap.size, 0, none⟩ = some (.slice qL L.length cL) := by unfold World.cell?; simp [ty8]
                have t1 : wr.cell? ⟨V.heap.size, 1, none⟩ = some (.slice qM M.length cM) := by unfold World.cell?; simp [ty8]
                clear ty8
                rcases ht3 with rfl | rfl | rfl
                · obtain ⟨V2, hV2⟩ : ∃ V2, V2 = wr := ⟨_, rfl⟩
                  subst hV2
                  go_wp2
                  go_loopw [87] (fun jv wr => ∃ j : Nat, j ≤ L.length ∧ jv = .int .i64 j ∧ Hid (Below Y.heap.size Y wr)) (fun jv _ => L.length - (intOf jv).toNat)
                  case atStart => exact ⟨0, Nat.zero_le _, rfl, HBo⟩
                  case round =>
                    obtain ⟨j, hj, rfl, HBi⟩ := hrel
                    have HBV := hide (below_sub (unhide BVY) (unhide HBi))
                    by_cases hjl : j < L.length
                    · obtain ⟨y, hy, _⟩ := get_at hjl
                      obtain ⟨b2, o2, hq2, hb2, d0, d1, d2, d3, d4⟩ := postAt (unhide S7) hy
                      obtain ⟨ky1, ky2⟩ := unhide KL y (List.mem_of_getElem? hy)
                      have e1 : (j : Int) < (L.length : Int) := by omega
                      have e0 : (0 : Int) ≤ (j : Int) := by omega
                      have kn1 : ¬ y.kind < 1 := by omega
                      have kn2 : ¬ 4 < y.kind := by omega
                      have kd1 : decide (y.kind < 1) = false := decide_eq_false kn1
                      have kd2 : decide (4 < y.kind) = false := decide_eq_false kn2
                      have y0 := re_cellK (unhide HBV) hb2 d0
                      have y1 := re_cellK (unhide HBV) hb2 d1
                      have y2 := re_cellK (unhide HBV) hb2 d2
                      have y3 := re_cellK (unhide HBV) hb2 d3
                      have y4 := re_cellK (unhide HBV) hb2 d4
                      by_cases hj0 : j = 0
                      · subst hj0
                        subst hq2
                        simp only [Nat.zero_mul, Nat.add_zero] at y0 y1 y2 y3 y4
                        clear hy d0 d1 d2 d3 d4
                        go_wp2
                        refine wp_region_quiet_below (by assumption) (by kernel_rfl) ?_
                        repeat (go_big_quiet_step (fail))
                        refine wpQuiet_nil ?_
                        intro _ hw'
                        obtain ⟨⟨dq, osq⟩, hw''⟩ := hw'
                        subst hw''
                        have B3 := hide (below_sub (unhide HBi) (below_regrown wr dq osq))
                        generalize grow (redrawn wr dq) osq = W3 at B3 ⊢
                        clear y0 y1 y2 y3 y4 kd1 kd2 kn1 kn2
                        go_wp2
                        go_roundw
                        case rel => exact ⟨0 + 1, by omega, by go_num, B3⟩
                        case measure => simp [intOf]; omega
                      · obtain ⟨i, rfl⟩ : ∃ i, j = i + 1 := ⟨j - 1, by omega⟩
                        obtain ⟨x, hx, _⟩ := get_at (l := L) (k := i) (by omega)
                        obtain ⟨b1, o1, hq1, _, c0, c1, c2, c3, c4⟩ := postAt (unhide S7) hx
                        obtain ⟨rfl, rfl⟩ : b1 = b2 ∧ o1 = o2 := by rw [hq1] at hq2; injection hq2 with hq2; injection hq2 with h1 h2; exact ⟨h1, h2⟩
                        have hcm : cmpK x y = -1 := by
                          have h1 := List.pairwise_iff_getElem.1 (unhide SL) i (i + 1) (by omega) hjl (by omega)
                          rw [(List.getElem?_eq_some_iff.1 hx).2, (List.getElem?_eq_some_iff.1 hy).2] at h1
                          unfold ltK at h1
                          rcases isCmp_key.rng x y with h | h | h <;> omega
                        have x0 := re_cellK (unhide HBV) hb2 c0
                        have x1 := re_cellK (unhide HBV) hb2 c1
                        have x2 := re_cellK (unhide HBV) hb2 c2
                        have x3 := re_cellK (unhide HBV) hb2 c3
                        have x4 := re_cellK (unhide HBV) hb2 c4
                        have i1 : (i : Int) < (L.length : Int) := by omega
                        have i0 : (0 : Int) ≤ (i : Int) := by omega
                        have i2 : (i : Int) + 1 < (L.length : Int) := by omega
                        have i3 : (0 : Int) ≤ (i : Int) + 1 := by omega
                        have i4 : (0 : Int) < (i : Int) + 1 := by omega
                        have it : ((i : Int) + 1).toNat = i + 1 := by omega
                        have iw := wrap_nat i (by omega)
                        subst hq1
                        clear hx hy hq2 hj0 d0 d1 d2 d3 d4 c0 c1 c2 c3 c4
                        go_wp2
                        refine wp_region_quiet_below (by assumption) (by kernel_rfl) ?_
                        repeat (go_big_quiet_step (first | (go_at_fn 19; refine Calls.regrown_of (compareB _ _ _))))
                        refine wpQuiet_nil ?_
                        intro _ hw'
                        obtain ⟨⟨dq, osq⟩, hw''⟩ := hw'
                        subst hw''
                        have B3 := hide (below_sub (unhide HBi) (below_regrown wr dq osq))
                        generalize grow (redrawn wr dq) osq = W3 at B3 ⊢
                        clear y0 y1 y2 y3 y4 x0 x1 x2 x3 x4 kd1 kd2 kn1 kn2 hcm iw it
                        go_wp2
                        go_roundw
                        case rel => exact ⟨i + 1 + 1, by omega, by go_num, B3⟩
                        case measure => simp [intOf]; omega
                    · have e1 : ¬ (j : Int) < (L.length : Int) := by omega
                      go_wp2
                      go_roundw
                      case rel => exact ⟨Or.inr (Or.inl rfl), HBi⟩
                      case measure => simp [intOf]

                · obtain ⟨V2, hV2⟩ : ∃ V2, V2 = wr := ⟨_, rfl⟩
                  subst hV2
                  go_wp2
                  go_loopw [87] (fun jv wr => ∃ j : Nat, j ≤ M.length ∧ jv = .int .i64 j ∧ Hid (Below Y.heap.size Y wr)) (fun jv _ => M.length - (intOf jv).toNat)
                  case atStart => exact ⟨0, Nat.zero_le _, rfl, HBo⟩
                  case round =>
                    obtain ⟨j, hj, rfl, HBi⟩ := hrel
                    have HBV := hide (below_sub (unhide BVY) (unhide HBi))
                    by_cases hjl : j < M.length
                    · obtain ⟨y, hy, _⟩ := get_at hjl
                      obtain ⟨b2, o2, hq2, hb2, d0, d1, d2, d3, d4⟩ := postAt (unhide S8) hy
                      obtain ⟨ky1, ky2⟩ := unhide KM y (List.mem_of_getElem? hy)
                      have e1 : (j : Int) < (M.length : Int) := by omega
                      have e0 : (0 : Int) ≤ (j : Int) := by omega
                      have kn1 : ¬ y.kind < 1 := by omega
                      have kn2 : ¬ 4 < y.kind := by omega
                      have kd1 : decide (y.kind < 1) = false := decide_eq_false kn1
                      have kd2 : decide (4 < y.kind) = false := decide_eq_false kn2
                      have y0 := re_cellK (unhide HBV) hb2 d0
                      have y1 := re_cellK (unhide HBV) hb2 d1
                      have y2 := re_cellK (unhide HBV) hb2 d2
                      have y3 := re_cellK (unhide HBV) hb2 d3
                      have y4 := re_cellK (unhide HBV) hb2 d4
                      by_cases hj0 : j = 0
                      · subst hj0
                        subst hq2
                        simp only [Nat.zero_mul, Nat.add_zero] at y0 y1 y2 y3 y4
                        clear hy d0 d1 d2 d3 d4
                        go_wp2
                        refine wp_region_quiet_below (by assumption) (by kernel_rfl) ?_
                        repeat (go_big_quiet_step (fail))
                        refine wpQuiet_nil ?_
                        intro _ hw'
                        obtain ⟨⟨dq, osq⟩, hw''⟩ := hw'
                        subst hw''
                        have B3 := hide (below_sub (unhide HBi) (below_regrown wr dq osq))
                        generalize grow (redrawn wr dq) osq = W3 at B3 ⊢
                        clear y0 y1 y2 y3 y4 kd1 kd2 kn1 kn2
                        go_wp2
                        go_roundw
                        case rel => exact ⟨0 + 1, by omega, by go_num, B3⟩
                        case measure => simp [intOf]; omega
                      · obtain ⟨i, rfl⟩ : ∃ i, j = i + 1 := ⟨j - 1, by omega⟩
                        obtain ⟨x, hx, _⟩ := get_at (l := M) (k := i) (by omega)
                        obtain ⟨b1, o1, hq1, _, c0, c1, c2, c3, c4⟩ := postAt (unhide S8) hx
                        obtain ⟨rfl, rfl⟩ : b1 = b2 ∧ o1 = o2 := by rw [hq1] at hq2; injection hq2 with hq2; injection hq2 with h1 h2; exact ⟨h1, h2⟩
                        have hcm : cmpK x y = -1 := by
                          have h1 := List.pairwise_iff_getElem.1 (unhide SM) i (i + 1) (by omega) hjl (by omega)
                          rw [(List.getElem?_eq_some_iff.1 hx).2, (List.getElem?_eq_some_iff.1 hy).2] at h1
                          unfold ltK at h1
                          rcases isCmp_key.rng x y with h | h | h <;> omega
                        have x0 := re_cellK (unhide HBV) hb2 c0
                        have x1 := re_cellK (unhide HBV) hb2 c1
                        have x2 := re_cellK (unhide HBV) hb2 c2
                        have x3 := re_cellK (unhide HBV) hb2 c3
                        have x4 := re_cellK (unhide HBV) hb2 c4
                        have i1 : (i : Int) < (M.length : Int) := by omega
                        have i0 : (0 : Int) ≤ (i : Int) := by omega
                        have i2 : (i : Int) + 1 < (M.length : Int) := by omega
                        have i3 : (0 : Int) ≤ (i : Int) + 1 := by omega
                        have i4 : (0 : Int) < (i : Int) + 1 := by omega
                        have it : ((i : Int) + 1).toNat = i + 1 := by omega
                        have iw := wrap_nat i (by omega)
                        subst hq1
                        clear hx hy hq2 hj0 d0 d1 d2 d3 d4 c0 c1 c2 c3 c4
                        go_wp2
                        refine wp_region_quiet_below (by assumption) (by kernel_rfl) ?_
                        repeat (go_big_quiet_step (first | (go_at_fn 19; refine Calls.regrown_of (compareB _ _ _))))
                        refine wpQuiet_nil ?_
                        intro _ hw'
                        obtain ⟨⟨dq, osq⟩, hw''⟩ := hw'
                        subst hw''
                        have B3 := hide (below_sub (unhide HBi) (below_regrown wr dq osq))
                        generalize grow (redrawn wr dq) osq = W3 at B3 ⊢
                        clear y0 y1 y2 y3 y4 x0 x1 x2 x3 x4 kd1 kd2 kn1 kn2 hcm iw it
                        go_wp2
                        go_roundw
                        case rel => exact ⟨i + 1 + 1, by omega, by go_num, B3⟩
                        case measure => simp [intOf]; omega
                    · have e1 : ¬ (j : Int) < (M.length : Int) := by omega
                      go_wp2
                      go_roundw
                      case rel => exact ⟨Or.inr (Or.inr rfl), HBi⟩
                      case measure => simp [intOf]

                · go_wp2
                  go_ret
                  exact ⟨rfl, below_sub (unhide BV) (below_sub (unhide BVY) (unhide HBo))⟩

end Go.Proofs.YtedakipjfpdajaaGreatDoor

/- KeyLists's law: Compare and Shared are the document's, and the lists stay. -/
import Derived.Test.YtmgdhdekhaohhaaGreatDoorCmpB
import Derived.Test.YtmgdhdekhaohhaaGreatDoorShr
import Derived.Test.YtmgdhdekhaohhaaGreatDoorOverG
namespace Go.Proofs.YtmgdhdekhaohhaaGreatDoor
open Go.RowKit Go.Sort Go.Shelf

theorem own_ge {B c : Nat} {w : World} {q : Option Addr} {l : List Ky} (h : OwnK encK 25 5 B w q c l) {a : Addr} (e : q = some a) : B ≤ a.block := by
  rcases h.2 with ⟨h1, _⟩ | ⟨g, cap', cur, hv, hB, hblk, _⟩
  · injection h1 with h1; rw [e] at h1; cases h1
  · injection hv with h1
    rw [e] at h1; cases h1
    exact hB
theorem sl_grown {w w' : World} {r : Option Nat} {q : Option Addr} {c : Nat} {l : List Ky} (h : SlOf encK 5 w q c l) (hg : w.grownBy w' r) (hr : ∀ a, q = some a → some a.block ≠ r) : SlOf encK 5 w' q c l := by
  refine ⟨h.1, h.2.1, h.2.2.1, fun h0 => ?_⟩
  obtain ⟨b, off, hq, hb, hc⟩ := h.2.2.2 h0
  refine ⟨b, off, hq, Nat.lt_of_lt_of_le hb hg.size, fun j u hj => ?_⟩
  have hcell := hc j u hj
  have hbk := hg.block b hb (hr _ hq)
  unfold World.cell? at hcell ⊢
  rw [hbk]; exact hcell
theorem own_blk (q : Option Addr) (n c : Nat) : (Value.slice q n c).ownBlock = q.map (·.block) := by cases q <;> rfl
def k77 : Ky := ⟨⟨#[]⟩, 77, 0, 0, ⟨#[]⟩⟩
set_option maxHeartbeats 8000000 in
set_option maxRecDepth 100000 in
theorem keyLists_law (qa : Option Addr) (ca : Nat) (a : List Ky) (qb : Option Addr) (cb : Nat) (b : List Ky) (w : World) (hfx : Calls Tryz.prog 5 #[] w fun e w' => e = .returned (.bool true) ∧ Below w.heap.size w w') (ha : SlOf encK 5 w qa ca a) (hb : SlOf encK 5 w qb cb b) (la : a.length * 56 + 112 ≤ 140737488355328) (lb : b.length * 56 + 112 ≤ 140737488355328) (hfa : FitK a) (hfb : FitK b) :
    Calls Tryz.prog 3 #[.slice qa a.length ca, .slice qb b.length cb] w fun e w' => e = .returned (.bool true) ∧ Below w.heap.size w w' := by
  have mixed : Tryz.prog.follows .mixedOrders = true := by kernel_rfl
  have en10 : ∀ args w, (callFunc 10 args).run Tryz.prog w = .ok (.enter 10 args) w := enters_of Tryz.func10 (by kernel_rfl) rfl
  have en11 : ∀ args w, (callFunc 11 args).run Tryz.prog w = .ok (.enter 11 args) w := enters_of Tryz.func11 (by kernel_rfl) rfl
  have a9 : (a.length : Int) ≤ 2513169434917 := by omega
  have b9 : (b.length : Int) ≤ 2513169434917 := by omega
  have HA := hide ha
  have HBB := hide hb
  have HFA := hide hfa
  have HFB := hide hfb
  clear ha hb hfb
  go_enter Tryz.func3, Tryz.ntmps3
  go_upto_region 4 with (first
    | (at_builtin; have mk := M4; refine wpList_app rowP rfl _ _ rfl w3.heap.size q4 c4 ([] ++ b) (some ⟨w4.heap.size, 0, none⟩) 1 [k77] b.length 1 (b.length + 1) (by simp) rfl rfl rfl rfl ((unhide O4).below ((Below.refl _ _).alloc (Nat.le_refl _) _)) (srcOneK _ _) (by unfold maxLen; omega) (by omega) (by simp <;> omega) ?_; intro q5 c5 w5 ho5 hb5 _ _; have O5 := hide ho5; have B5 := hide ((unhide B4).trans (((Below.refl w3.heap.size w4).alloc (unhide B4).size _).trans hb5)); clear ho5 hb5 mk)
    | (at_builtin; have mk := M3; refine wpList_app rowP rfl _ _ rfl w3.heap.size (some ⟨w3.heap.size, 0, none⟩) 0 [] qb cb b 0 b.length b.length rfl rfl (by omega) rfl rfl (OwnK.made _ _ (Nat.le_refl _)) ((unhide HBB).below (below_sub (unhide B3) ((Below.refl _ _).alloc (Nat.le_refl _) _))).src (by unfold maxLen; omega) (by omega) (by simp <;> omega) ?_; intro q4 c4 w4 ho4 hb4 _ _; have O4 := hide ho4; have B4 := hide (((Below.refl w3.heap.size w3).alloc (Nat.le_refl _) _).trans hb4); have M4 := hide hb4; have s34 := (unhide B4).size; clear ho4 hb4 mk)
    | (at_builtin; have mk := M2; refine wpList_app rowP rfl _ _ rfl w1.heap.size q2 c2 ([] ++ a) (some ⟨w2.heap.size, 0, none⟩) 1 [k77] a.length 1 (a.length + 1) (by simp) rfl rfl rfl rfl ((unhide O2).below ((Below.refl _ _).alloc (Nat.le_refl _) _)) (srcOneK _ _) (by unfold maxLen; omega) (by omega) (by simp <;> omega) ?_; intro q3 c3 w3 ho3 hb3 _ _; have O3 := hide ho3; have B3 := hide (below_sub (unhide B1) ((unhide B2).trans (((Below.refl w1.heap.size w2).alloc (unhide B2).size _).trans hb3))); have M3 := hide hb3; clear ho3 hb3 mk)
    | (at_builtin; refine wpList_app rowP rfl _ _ rfl w1.heap.size (some ⟨w1.heap.size, 0, none⟩) 0 [] qa ca a 0 a.length a.length rfl rfl (by omega) rfl rfl (OwnK.made _ _ (Nat.le_refl _)) ((unhide HA).below (below_sub (unhide B1) ((Below.refl _ _).alloc (Nat.le_refl _) _))).src (by unfold maxLen; omega) (by omega) (by simp <;> omega) ?_; intro q2 c2 w2 ho2 hb2 _ _; have O2 := hide ho2; have B2 := hide (((Below.refl w1.heap.size w1).alloc (Nat.le_refl _) _).trans hb2); have M2 := hide hb2; have s12 := (unhide B2).size; clear ho2 hb2)
    | (go_at_call 5; refine hfx.mono ?_; rintro e w1 ⟨rfl, b1⟩; have B1 := hide b1; clear b1))
  have hx3 : OwnK encK 25 5 w1.heap.size w5 q3 c3 (a ++ [k77]) := by have := (unhide O3).below (unhide B5); simpa using this
  have hy5 : OwnK encK 25 5 w3.heap.size w5 q5 c5 (b ++ [k77]) := by simpa using unhide O5
  obtain ⟨gx, rfl, _, lx, cx, mx⟩ := hx3.some_of (by simp)
  obtain ⟨gy, rfl, _, ly, cy, my⟩ := hy5.some_of (by simp)
  simp only [List.length_append, List.length_cons, List.length_nil] at cx cy
  obtain ⟨_, xk, _⟩ := hx3.at2 (k := a.length) (x := k77) (by simp)
  obtain ⟨_, yk, _⟩ := hy5.at2 (k := b.length) (x := k77) (by simp)
  have sx : SlOf encK 5 w5 (some ⟨gx, 0, none⟩) c3 a := by have := sl_take hx3.ls a.length; simpa using this
  have sy : SlOf encK 5 w5 (some ⟨gy, 0, none⟩) c5 b := by have := sl_take hy5.ls b.length; simpa using this
  have b5 : Below w.heap.size w w5 := below_sub (unhide B3) (unhide B5)
  obtain ⟨S, hS⟩ : ∃ S, shared a b = S := ⟨_, rfl⟩
  have sl : S.length ≤ a.length := by rw [← hS]; exact shared_len a b
  have hS1 : ∀ W, Below w5.heap.size w5 W → Calls Tryz.prog 6 #[.slice (some ⟨gx, 0, none⟩) a.length c3, .slice (some ⟨gy, 0, none⟩) b.length c5] W fun e w' => ∃ q c, e = .returned (.slice q S.length c) ∧ OwnK encK 25 5 w5.heap.size w' q c S ∧ Below W.heap.size W w' ∧ Below w5.heap.size w5 w' ∧ ∀ ad, q = some ad → W.heap.size ≤ ad.block ∧ ad.block < w'.heap.size := fun W hW => by
    have h := sharedK (some ⟨gx, 0, none⟩) c3 a (some ⟨gy, 0, none⟩) c5 b W (sx.below hW) (sy.below hW) (by omega) (by omega)
    rw [hS] at h
    exact h.mono fun e w' ⟨⟨q, c, he, ho⟩, hb⟩ => ⟨q, c, he, ho.mono hW.size, hb, below_sub hW hb, fun ad h => ⟨own_ge ho h, sl_lt ho h⟩⟩
  have hS2 : ∀ W, Below w5.heap.size w5 W → Calls Tryz.prog 6 #[.slice (some ⟨gy, 0, none⟩) b.length c5, .slice (some ⟨gx, 0, none⟩) a.length c3] W fun e w' => ∃ q c, e = .returned (.slice q S.length c) ∧ OwnK encK 25 5 w5.heap.size w' q c S ∧ Below W.heap.size W w' ∧ Below w5.heap.size w5 w' ∧ ∀ ad, q = some ad → W.heap.size ≤ ad.block ∧ ad.block < w'.heap.size := fun W hW => by
    have h := sharedK (some ⟨gy, 0, none⟩) c5 b (some ⟨gx, 0, none⟩) c3 a W (sy.below hW) (sx.below hW) (by omega) (by omega)
    rw [shared_comm b a, hS] at h
    exact h.mono fun e w' ⟨⟨q, c, he, ho⟩, hb⟩ => ⟨q, c, he, ho.mono hW.size, hb, below_sub hW hb, fun ad h => ⟨own_ge ho h, sl_lt ho h⟩⟩
  have hS3 : ∀ W, Below w.heap.size w W → Calls Tryz.prog 6 #[.slice qa a.length ca, .slice qb b.length cb] W fun e w' => (∃ q c, e = .returned (.slice q S.length c) ∧ SlOf encK 5 w' q c S) ∧ Below W.heap.size W w' := fun W hW => by
    have h := sharedK qa ca a qb cb b W ((unhide HA).below hW) ((unhide HBB).below hW) (by omega) (by omega)
    rw [hS] at h
    exact h.mono fun e w' ⟨⟨q, c, he, ho⟩, hb⟩ => ⟨⟨q, c, he, ho.ls⟩, hb⟩
  have hR : ∀ W, Below w.heap.size w W → Calls Tryz.prog 7 #[.slice qa a.length ca, .slice qb b.length cb] W fun e w' => (∃ q c, e = .returned (.slice q S.length c) ∧ OwnK encK 25 5 W.heap.size w' q c S) ∧ Below W.heap.size W w' := fun W hW => by
    have h := refShared qa ca a qb cb b W ((unhide HA).below hW) ((unhide HBB).below hW) (by omega) (by omega) (unhide HFA) (unhide HFB)
    rw [show shrK a b = shared a b from rfl, hS] at h
    exact h
  have hM := fun (q : Option Addr) (c : Nat) (q' : Option Addr) (c' : Nat) (W : World) (h1 : SlOf encK 5 W q c S) (h2 : SlOf encK 5 W q' c' S) => sameP q c S q' c' S W h1 h2 (by omega)
  have hMa := fun (W : World) (h1 : SlOf encK 5 W (some ⟨gx, 0, none⟩) c3 a) (h2 : SlOf encK 5 W qa ca a) => sameP (some ⟨gx, 0, none⟩) c3 a qa ca a W h1 h2 (by omega)
  have hMb := fun (W : World) (h1 : SlOf encK 5 W (some ⟨gy, 0, none⟩) c5 b) (h2 : SlOf encK 5 W qb cb b) => sameP (some ⟨gy, 0, none⟩) c5 b qb cb b W h1 h2 (by omega)
  simp only [decide_true] at hM hMa hMb
  have f0 : (0 : Int) ≤ (a.length : Int) := by omega
  have f1 : (a.length : Int) ≤ (c3 : Int) := by omega
  have f2 : (b.length : Int) ≤ (c5 : Int) := by omega
  have f3 : (0 : Int) ≤ (b.length : Int) := by omega
  have f4 : (a.length : Int) < ((a.length + 1 : Nat) : Int) := by omega
  have f5 : (b.length : Int) < ((b.length + 1 : Nat) : Int) := by omega
  have SX := hide sx
  have SY := hide sy
  have XK := hide xk
  have YK := hide yk
  have B5' := hide b5
  clear hx3 hy5 sx sy xk yk b5 hS O2 O3 O4 O5 M2 M3 M4 B2 B4 hfx
  go_cut [7, 8] from 26 (fun s7 s8 V => ∃ (q7 q8 : Option Addr) (c7 c8 : Nat), s7 = .slice q7 S.length c7 ∧ s8 = .slice q8 S.length c8 ∧ OwnK encK 25 5 w5.heap.size V q7 c7 S ∧ SlOf encK 5 V q8 c8 S ∧ Below w5.heap.size w5 V ∧ (∀ x y, q7 = some x → q8 = some y → y.block ≠ x.block) ∧ ∀ x, q7 = some x → w5.heap.size ≤ x.block ∧ x.block < V.heap.size)
  case first =>
    go_region_held3 (fun _ => True) (go_keep) (first
      | (go_at_call 6; (with_reducible refine (hS1 _ (by first | exact unhide C8 | exact (Below.refl _ _).drew | exact Below.refl _ _)).mono ?_); rintro e w7 ⟨q7, c7, rfl, o7, b7, b57, p7⟩; have O7 := hide o7; (first | have S8' := hide ((unhide O8).below b7) | skip); have C7 := hide b57; have P7 := hide p7; have s7 := b7.size; clear o7 b7 b57 p7)
      | (go_at_call 6; (with_reducible refine (hS2 _ (by first | exact unhide C7 | exact (Below.refl _ _).drew | exact Below.refl _ _)).mono ?_); rintro e w8 ⟨q8, c8, rfl, o8, b8, b58, p8⟩; have O8 := hide o8; (first | have O7' := hide ((unhide O7).below b8) | skip); have C8 := hide b58; have P8 := hide p8; have s8 := b8.size; clear o8 b8 b58 p8))
    all_goals
      go_wp2
      go_meet
      first
        | exact ⟨q7, q8, c7, c8, rfl, rfl, unhide O7', (unhide O8).ls, unhide C8, fun x y e1 e2 => by (have h1 := unhide P7 x e1; have h2 := unhide P8 y e2; omega), fun x e => by (have h1 := unhide P7 x e; simp at h1 s8; have := own_ge (unhide O7') e; exact ⟨this, by omega⟩)⟩
        | exact ⟨q7, q8, c7, c8, rfl, rfl, unhide O7, (unhide S8').ls, unhide C7, fun x y e1 e2 => by (have h1 := unhide P7 x e1; have h2 := unhide P8 y e2; omega), fun x e => ⟨own_ge (unhide O7) e, (unhide P7 x e).2⟩⟩
  case rest =>
    obtain ⟨q7, q8, c7, c8, rfl, rfl, o7, s8, b57, hap, hl7⟩ := hcut
    obtain ⟨V, rfl⟩ : ∃ V, V = wc := ⟨_, rfl⟩
    have O7 := hide o7
    have S8 := hide s8
    have B57 := hide b57
    have HAP := hide hap
    have HL7 := hide hl7
    have s57 := b57.size
    clear o7 s8 b57 hap hl7 hS1 hS2
    go_wp2_with (first
      | (go_at_call 7; refine (hR _ (below_sub (unhide B5') (unhide B57))).mono ?_; rintro e V9 ⟨⟨q9, c9, rfl, o9⟩, b9'⟩; have O9 := hide o9; have B9 := hide b9'; clear o9 b9')
      | (go_at_call 8; refine (over_any w5.heap.size q7 S.length c7 _ (by omega) (by have := (unhide B9).size; omega) (OwnK.raw ((unhide O7).below (unhide B9)))).mono ?_; rintro e W ⟨rfl, hg⟩; rw [own_blk] at hg; have HG := hide hg; clear hg; have S8W : Hid (SlOf encK 5 W q8 c8 S) := hide (sl_grown ((unhide S8).below (unhide B9)) (unhide HG) (fun y e h => by (cases q7 with | none => cases h | some x => (simp at h; exact unhide HAP x y rfl e h)))); have S9W : Hid (SlOf encK 5 W q9 c9 S) := hide (sl_grown (unhide O9).ls (unhide HG) (fun y e h => by (cases q7 with | none => cases h | some x => (simp at h; have h1 := own_ge (unhide O9) e; have h2 := (unhide HL7 x rfl).2; omega)))); have B5W : Hid (Below w5.heap.size w5 W) := hide (Below.grown (below_sub (unhide B57) (unhide B9)) (unhide HG) (by have := (unhide B9).size; omega) (fun k hk => by (cases q7 with | none => cases hk | some x => (simp at hk; have := (unhide HL7 x rfl).1; omega)))); have BW := hide (below_sub (unhide B5') (unhide B5W)))
      | (go_at_call 9; have mk := BY; refine (hMb _ ((unhide SY).below (below_sub (unhide B5W) (below_sub (unhide B11) (unhide B12)))) ((unhide HBB).below (below_sub (unhide BW) (below_sub (unhide B11) (unhide B12))))).mono ?_; rintro e w13 ⟨rfl, b13⟩; have B13 := hide (below_sub (unhide B11) (below_sub (unhide B12) b13)); have xk := ((below_sub (unhide B5W) (unhide B13)).cell (p := ⟨gx, a.length * 5 + 1, none⟩) lx).trans (unhide XK); have yk := ((below_sub (unhide B5W) (unhide B13)).cell (p := ⟨gy, b.length * 5 + 1, none⟩) ly).trans (unhide YK); clear b13 mk)
      | (go_at_call 9; have mk := BX; refine (hMa _ ((unhide SX).below (below_sub (unhide B5W) (unhide B11))) ((unhide HA).below (below_sub (unhide BW) (unhide B11)))).mono ?_; rintro e w12 ⟨rfl, b12⟩; have B12 := hide b12; have BY := hide b12; clear b12 mk)
      | (go_at_call 9; refine (hM q8 c8 q9 c9 _ (unhide S8W) (unhide S9W)).mono ?_; rintro e w11 ⟨rfl, b11⟩; have B11 := hide b11; have BX := hide b11; clear b11))
    have BWL := hide (below_sub (unhide BW) (unhide B13))
    have S9L := hide ((unhide S9W).below (unhide B13))
    clear xk yk hR hMa hMb f0 f1 f2 f3 f4 f5 O7 S8 S8W S9W O9 HG HAP HL7
    go_loopw [91] (fun iv wr => ∃ i : Nat, i ≤ a.length ∧ iv = .int .i64 i ∧ Hid (Below w13.heap.size w13 wr)) (fun iv _ => a.length - (intOf iv).toNat)
    case atStart => exact ⟨0, Nat.zero_le _, rfl, hide (Below.refl _ _)⟩
    case round =>
      obtain ⟨i, hi, rfl, HBo⟩ := hrel
      by_cases hi1 : i < a.length
      · obtain ⟨x, hx, _⟩ := get_at hi1
        obtain ⟨bx, ox, hqx, hbx, xc0, xc1, xc2, xc3, xc4⟩ := postAt (unhide HA) hx
        subst hqx
        have fx := unhide HFA x (List.mem_of_getElem? hx)
        have e1 : (i : Int) < (a.length : Int) := by omega
        have e0 : (0 : Int) ≤ (i : Int) := by omega
        clear hx hM hS3
        obtain ⟨V', hV'⟩ : ∃ V', V' = wr := ⟨_, rfl⟩
        subst hV'
        go_wp2
        go_loopw [11] (fun kv wr => ∃ k : Nat, k ≤ b.length ∧ k ≤ 30 ∧ kv = .int .i64 k ∧ Hid (Below w13.heap.size w13 wr)) (fun kv _ => 30 - (intOf kv).toNat)
        case atStart => exact ⟨0, Nat.zero_le _, by omega, rfl, HBo⟩
        case round =>
          obtain ⟨k, hk, hk30, rfl, HBi⟩ := hrel
          by_cases hkl : k < b.length ∧ k < 30
          · obtain ⟨hk1, hk2⟩ := hkl
            have d1 : (k : Int) < (b.length : Int) := by omega
            have d2 : (k : Int) < 30 := by omega
            have d0 : (0 : Int) ≤ (k : Int) := by omega
            obtain ⟨t, ht, _⟩ := get_at hk1
            obtain ⟨bt, ot, hqt, hbt, tc0, tc1, tc2, tc3, tc4⟩ := postAt (unhide HBB) ht
            subst hqt
            clear ht
            have x0 := re_cell (below_sub (unhide BWL) (unhide HBi)) hbx xc0
            have x1 := re_cell (below_sub (unhide BWL) (unhide HBi)) hbx xc1
            have x2 := re_cell (below_sub (unhide BWL) (unhide HBi)) hbx xc2
            have x3 := re_cell (below_sub (unhide BWL) (unhide HBi)) hbx xc3
            have x4 := re_cell (below_sub (unhide BWL) (unhide HBi)) hbx xc4
            have t0 := re_cell (below_sub (unhide BWL) (unhide HBi)) hbt tc0
            have t1 := re_cell (below_sub (unhide BWL) (unhide HBi)) hbt tc1
            have t2 := re_cell (below_sub (unhide BWL) (unhide HBi)) hbt tc2
            have t3 := re_cell (below_sub (unhide BWL) (unhide HBi)) hbt tc3
            have t4 := re_cell (below_sub (unhide BWL) (unhide HBi)) hbt tc4
            go_wp2
            refine wp_region_quiet_below (by assumption) (by kernel_rfl) ?_
            repeat (go_big_quiet_step (first | (go_at_fn 10; refine Calls.regrown_of (compareB _ _ _)) | (go_at_fn 11; refine Calls.regrown_of (refCmp _ _ _ fx.1 fx.2))))
            refine wpQuiet_nil ?_
            intro _ hw'
            obtain ⟨⟨dq, osq⟩, hw''⟩ := hw'
            subst hw''
            clear x0 x1 x2 x3 x4 t0 t1 t2 t3 t4
            go_wp2
            go_roundw
            case rel => exact ⟨k + 1, by omega, by omega, by go_num, hide (below_sub (unhide HBi) (below_regrown _ _ _))⟩
            case measure => simp [intOf]; omega
          · by_cases hk1 : k < b.length
            · have d1 : (k : Int) < (b.length : Int) := by omega
              have d2 : ¬ (k : Int) < 30 := by omega
              go_wp2
              go_roundw
              case rel => exact ⟨i + 1, by omega, by go_num, HBi⟩
              case measure => simp [intOf]; omega
            · have d1 : ¬ (k : Int) < (b.length : Int) := by omega
              go_wp2
              go_roundw
              case rel => exact ⟨i + 1, by omega, by go_num, HBi⟩
              case measure => simp [intOf]; omega

      · have e1 : ¬ (i : Int) < (a.length : Int) := by omega
        go_wp2_with (first
          | (go_at_call 9; refine (hM q14 c14 q9 c9 _ (unhide S14) ((unhide S9L).below (below_sub (unhide HBo) (unhide B14)))).mono ?_; rintro e w15 ⟨rfl, b15⟩; have B15 := hide b15; clear b15)
          | (go_at_call 6; refine (hS3 _ (below_sub (unhide BWL) (unhide HBo))).mono ?_; rintro e w14 ⟨⟨q14, c14, rfl, s14⟩, b14⟩; have S14 := hide s14; have B14 := hide b14; clear s14 b14))
        go_ret
        exact ⟨ret_bool (by simp), below_sub (unhide BWL) (below_sub (unhide HBo) (below_sub (unhide B14) (unhide B15)))⟩
end Go.Proofs.YtmgdhdekhaohhaaGreatDoor

/- The statement's fixed calls. -/
import Derived.Test.YtfigjfmldpfjkaaGreatJ7
namespace Go.Proofs.YtfigjfmldpfjkaaGreat
open Go.RowKit Go.Sort Go.Shelf

def bF : List UInt8 := headB 1 ++ encs [cF]
theorem bF_sc : scE bF = 0 ∧ scN bF = 1 ∧ scC bF = [cF] ∧ scL bF = bF.length := sc_of 1 [cF] (by decide) (by decide) (fun c hc => by obtain rfl : c = cF := (by simpa using hc); exact mayF)
theorem bF_len : bF.length ≤ 5000 := by
  unfold bF
  have := encs_len [cF] (fun c hc => by obtain rfl : c = cF := (by simpa using hc); exact mayF)
  rw [List.length_append, head1_len]
  simp at this
  omega
def s1F : JS := onJ ⟨headB 1, 6⟩ 3
def s2F : JS := onJ ⟨bF, 6⟩ 4
def s3F : JS := onJ ⟨bF, bF.length⟩ 5
def s4F : JS := onJ ⟨bF, bF.length⟩ 0
def x1F : JX := ⟨0, 0, 6, 0⟩
def x2F : JX := ⟨0, 1, 6 + (encs [cF]).length, 1⟩
def x3F : JX := ⟨0, 1, 6 + (encs [cF]).length, 0⟩
theorem openF1 {B : Nat → Prop} {w : World} {g : Nat} (hd : JAt B w g newJ) (hB : Sub B w) :
    Calls Tryz.prog 7 #[.pointer (some ⟨g, 0, none⟩)] w fun e w' => (∃ gj q c, e = .returned (.tuple #[.pointer (some ⟨gj, 0, none⟩), .int .i64 1, .slice q 0 c, .int .i64 0]) ∧ w.heap.size ≤ gj ∧ JrAt B w' gj g s1F x1F) ∧ Kpt B w w' := by
  have hs : stB newJ = headB 1 := rfl
  obtain ⟨a1, a2, a3, a4⟩ := sc_of 1 [] (by decide) (by decide) (fun c hc => by cases hc)
  have e0 : headB 1 ++ encs [] = headB 1 := by simp [encs]
  rw [e0] at a1 a2 a3 a4
  have h := opens_yes hd hB (by show 0 ≤ _; omega) (by show 0 ≤ _; omega) (by rw [hs, head1_len]; omega) (by rw [open_new])
  rw [open_new, hs, a2, a3, a4, head1_len] at h
  refine h.mono ?_
  rintro e w' ⟨⟨gj, q, c, h1, h2, h3, h4⟩, h5⟩
  exact ⟨⟨gj, q, c, h1, h3, h4⟩, h5⟩
theorem openF2 {B : Nat → Prop} {w : World} {g : Nat} (hd : JAt B w g s4F) (hB : Sub B w) :
    Calls Tryz.prog 7 #[.pointer (some ⟨g, 0, none⟩)] w fun e w' => (∃ gj q c, e = .returned (.tuple #[.pointer (some ⟨gj, 0, none⟩), .int .i64 5, .slice q 1 c, .int .i64 0]) ∧ OwnK encC 63 3 w.heap.size w' q c [cF] ∧ JAt B w' g s4F) ∧ Kpt B w w' := by
  have hs : stB s4F = bF := rfl
  obtain ⟨a1, a2, a3, a4⟩ := bF_sc
  have hl := bF_len
  have ho : openM s4F = (0, s4F) := open_keep a1 a4 rfl
  have h := opens_yes hd hB (by show 0 ≤ _; omega) (by show bF.length ≤ _; omega) (by rw [hs]; omega) (by rw [ho])
  rw [ho, hs, a2, a3, a4] at h
  refine h.mono ?_
  rintro e w' ⟨⟨gj, q, c, h1, h2, h3, h4⟩, h5⟩
  exact ⟨⟨gj, q, c, h1, h2, h4.disk.more fun i hi => Or.inl (Or.inl hi)⟩, h5⟩
theorem appF {B : Nat → Prop} {w : World} {gj g : Nat} (hr : JrAt B w gj g s1F x1F) (hB : Sub B w) (q : Option Addr) (c : Nat) (hs : SlOf encC 3 w q c [cF]) :
    Calls Tryz.prog 11 #[.pointer (some ⟨gj, 0, none⟩), .slice q 1 c] w fun e w' => e = .returned (.int .i64 0) ∧ JrAt B w' gj g s2F x2F ∧ Kpt B w w' := by
  have hj : jApp s1F x1F [cF] = (0, s2F, x2F) := app_on _ _ _ rfl (fun c hc => by obtain rfl : c = cF := (by simpa using hc); exact mayF) (by simp)
  have h := japp_any hr q c [cF] hB (by show 3 ≤ _; omega) hs (by simp) ⟨by show 0 ≤ _; omega, by show 6 ≤ _; omega, by show 0 ≤ _; omega⟩ (by show (headB 1).length + _ ≤ _; rw [head1_len]; simp)
  rw [hj] at h
  exact h
theorem synF' {B : Nat → Prop} {w : World} {gj g : Nat} (hr : JrAt B w gj g s2F x2F) (hB : Sub B w) :
    Calls Tryz.prog 12 #[.pointer (some ⟨gj, 0, none⟩)] w fun e w' => e = .returned (.int .i64 0) ∧ JrAt B w' gj g s3F x3F ∧ Kpt B w w' := by
  have hj : jSyn s2F x2F = (0, s3F, x3F) := syn_on _ _ _ rfl (by show (1 : Nat) ≠ 0; decide)
  have h := jsyn_any hr hB (by show 4 ≤ _; omega)
  rw [hj] at h
  exact h
theorem rewF {B : Nat → Prop} {w : World} {gj g : Nat} (hr : JrAt B w gj g s3F x3F) (hB : Sub B w) :
    Calls Tryz.prog 13 #[.pointer (some ⟨gj, 0, none⟩), .int .i64 0, .slice none 0 0] w fun e w' => e = .returned (.int .i64 2) ∧ JrAt B w' gj g s3F x3F ∧ Kpt B w w' := by
  have hw : whE 0 [] = 2 := (wh_range (by omega) []).1
  have hj : jRew s3F x3F 0 [] = (2, s3F, x3F) := by
    unfold jRew
    rw [if_neg (fun h9 => h9 rfl), if_pos (by rw [hw]; decide), hw]
  have h := jrew_any hr 0 none 0 [] hB (by show 5 ≤ _; omega) (sl_nilC w) (by simp) (by show 0 + 20 + _ ≤ _; simp)
  rw [hj] at h
  exact h
theorem crashF {B : Nat → Prop} {w : World} {g : Nat} (hd : JAt B w g s3F) (hB : Sub B w) :
    Calls Tryz.prog 15 #[.pointer (some ⟨g, 0, none⟩), .slice none 0 0] w fun e w' => (∃ gf, e = .returned (.pointer (some ⟨gf, 0, none⟩)) ∧ JAt (· < w.heap.size) w' gf s4F) ∧ Kpt B w w' := by
  have hl := bF_len
  have h := crashJ_any hd hB (by show 5 ≤ _; omega) (by show bF.length ≤ _; omega) (by show 0 ≤ _; omega) none 0 [] (sl_nilI w) (by simp) (fun h => by cases h)
  have e9 : crashM s3F [] = s4F := by
    show onJ (foundF ⟨bF, bF.length⟩ (chAt [] 0)) 0 = _
    rw [found_all]
    rfl
  rw [e9] at h
  exact h.mono (by rintro e w' ⟨h1, _, h3⟩; exact ⟨h1, h3⟩)
set_option maxHeartbeats 4000000 in
set_option maxRecDepth 100000 in
theorem fixed_any (w : World) : Calls Tryz.prog 5 #[] w fun e w' => e = .returned (.bool true) ∧ Below w.heap.size w w' := by
  have mixed : Tryz.prog.follows .mixedOrders = true := by kernel_rfl
  have e9 : ∀ args w, (callFunc 19 args).run Tryz.prog w = .ok (.enter 19 args) w := enters_of Tryz.func19 (by kernel_rfl) rfl
  have hN := new_js w
  have hO := fun (W : World) (h1 : JAt (· < w.heap.size) W (w.heap.size + 1) newJ) (h2 : Sub (· < w.heap.size) W) => openF1 h1 h2
  have hac1 : ∀ (B : Nat → Prop) (W : World), JAt B W (w.heap.size + 1) s1F → Calls Tryz.prog 19 #[.pointer (some ⟨w.heap.size + 1, 0, none⟩)] W fun e w' => e = .returned (.int .i64 3) ∧ w' = W := fun B W h => actsJ_any h
  have hby : ∀ (W : World) (gj g : Nat), BoxJ W gj g x1F → Calls Tryz.prog 20 #[.pointer (some ⟨gj, 0, none⟩)] W fun e w' => e = .returned (.int .i64 6) ∧ w' = W := fun W gj g h => bytes_any h
  have hap := fun (B : Nat → Prop) (W : World) (gj g : Nat) (h1 : JrAt B W gj g s1F x1F) (h2 : Sub B W) (q : Option Addr) (h3 : SlOf encC 3 W q 1 [cF]) => appF h1 h2 q 1 h3
  have hpe : ∀ (W : World) (gj g : Nat), BoxJ W gj g x2F → Calls Tryz.prog 21 #[.pointer (some ⟨gj, 0, none⟩)] W fun e w' => e = .returned (.int .i64 1) ∧ w' = W := fun W gj g h => pending_any h
  have hsy := fun (B : Nat → Prop) (W : World) (gj g : Nat) (h1 : JrAt B W gj g s2F x2F) (h2 : Sub B W) => synF' h1 h2
  have hco : ∀ (W : World) (gj g : Nat), BoxJ W gj g x3F → Calls Tryz.prog 22 #[.pointer (some ⟨gj, 0, none⟩)] W fun e w' => e = .returned (.int .i64 1) ∧ w' = W := fun W gj g h => count_any h
  have hac2 : ∀ (B : Nat → Prop) (W : World), JAt B W (w.heap.size + 1) s3F → Calls Tryz.prog 19 #[.pointer (some ⟨w.heap.size + 1, 0, none⟩)] W fun e w' => e = .returned (.int .i64 5) ∧ w' = W := fun B W h => actsJ_any h
  have hre := fun (B : Nat → Prop) (W : World) (gj g : Nat) (h1 : JrAt B W gj g s3F x3F) (h2 : Sub B W) => rewF h1 h2
  have hcr := fun (B : Nat → Prop) (W : World) (g : Nat) (h1 : JAt B W g s3F) (h2 : Sub B W) => crashF h1 h2
  have hO2 := fun (B : Nat → Prop) (W : World) (g : Nat) (h1 : JAt B W g s4F) (h2 : Sub B W) => openF2 h1 h2
  have hac3 : ∀ (B : Nat → Prop) (W : World) (g : Nat), JAt B W g s4F → Calls Tryz.prog 19 #[.pointer (some ⟨g, 0, none⟩)] W fun e w' => e = .returned (.int .i64 0) ∧ w' = W := fun B W g h => actsJ_any h
  have hS0 : Sub (· < w.heap.size) w := fun i hi => hi
  have HS0 := hide hS0
  have heq : ∀ W : World, (binOp .eql 63 (.agg #[.int .i64 1, .int .i64 4, .string tF]) (.agg #[.int .i64 1, .int .i64 4, .string tF])).run Tryz.prog W = .ok (.bool true) W := fun W => by have := eqlC cF cF W; rw [decide_eq_true rfl] at this; exact this
  clear hS0
  go_enter Tryz.func5, Tryz.ntmps5
  go_wp2_with (first
    | (go_at_call 6; refine hN.mono ?_; rintro e w1 ⟨rfl, d1, b1⟩; have D1 := hide d1; have K1 := hide (Kpt.of (B := (· < w.heap.size)) b1); clear d1 b1)
    | (go_at_call 7; (with_reducible refine (hO2 _ w6 gf (unhide D6) (unhide S6)).mono ?_); rintro e w7 ⟨⟨gj7, q7, c7, rfl, o7, d7⟩, k7⟩; have O7 := hide o7; have D7 := hide d7; have K7 := hide k7; clear o7 d7 k7)
    | (go_at_call 7; refine (hO w1 (unhide D1) ((unhide HS0).trans (unhide K1).size)).mono ?_; rintro e w2 ⟨⟨gj, q2, c2, rfl, hgj, j2⟩, k2⟩; have J2 := hide j2; have K2 := hide ((unhide K1).trans k2); obtain ⟨Y, hY⟩ : ∃ Y, w2.alloc (.cells #[.int .i64 1, .int .i64 4, .string tF] 63) = Y := ⟨_, rfl⟩; have bY : Below w2.heap.size w2 Y := (by rw [← hY]; exact (Below.refl _ _).alloc (Nat.le_refl _) _); have kY : Y.heap[w2.heap.size]? = some (.cells #[.int .i64 1, .int .i64 4, .string tF] 63 (0, 0)) := (by rw [← hY]; exact heap_alloc_new _ _); have sY : Y.heap.size = w2.heap.size + 1 := (by rw [← hY]; simp); obtain ⟨⟨v0, v1, v2⟩, _⟩ := cells3 kY; obtain ⟨Z, hZ⟩ : ∃ Z, Y.alloc (.cells #[.int .i64 1, .int .i64 4, .string tF] 63) = Z := ⟨_, rfl⟩; have bZ : Below Y.heap.size Y Z := (by rw [← hZ]; exact (Below.refl _ _).alloc (Nat.le_refl _) _); have slZ : SlOf encC 3 Z (some ⟨Y.heap.size, 0, none⟩) 1 [cF] := (by rw [← hZ]; exact sl_one Y cF); obtain ⟨B1, hB1⟩ : ∃ B1 : Nat → Prop, ∀ i, B1 i ↔ (i < w.heap.size ∨ i = w2.heap.size) := ⟨fun i => i < w.heap.size ∨ i = w2.heap.size, fun _ => Iff.rfl⟩; have bYZ := below_sub bY bZ; have jZ : JrAt B1 Z gj (w.heap.size + 1) s1F x1F := (j2.more (fun i hi => by rcases (hB1 i).1 hi with h | h; exact Or.inl h; exact Or.inr (Or.inl (by omega)))).below bYZ; have sZ : Sub B1 Z := (fun i hi => by have := (unhide K2).size; have := bYZ.size; have := bZ.size; rcases (hB1 i).1 hi with h | h <;> omega); have cZ : Z.heap[w2.heap.size]? = some (.cells #[.int .i64 1, .int .i64 4, .string tF] 63 (0, 0)) := (bZ.block _ (by omega)).trans kY; have JZ := hide jZ; have SZ := hide sZ; have SLZ := hide slZ; have CZ := hide cZ; have KZ := hide ((unhide K2).trans (Kpt.of bYZ)); have HB1 := hide hB1; have HSY := hide sY; clear j2 k2 bY kY bZ bYZ slZ jZ sZ cZ hB1 sY)
    | (go_at_call 19; (with_reducible refine (hac2 _ w4 (unhide J4).disk).mono ?_); rintro e wa ⟨rfl, hwa⟩; obtain rfl := hwa.symm)
    | (go_at_call 19; (with_reducible refine (hac1 _ w2 (unhide J2).disk).mono ?_); rintro e wa ⟨rfl, hwa⟩; obtain rfl := hwa.symm)
    | (go_at_call 20; refine (hby w2 gj _ (unhide J2).box).mono ?_; rintro e wa ⟨rfl, hwa⟩; obtain rfl := hwa.symm)
    | (go_at_call 11; refine (hap B1 Z gj _ (unhide JZ) (unhide SZ) _ (unhide SLZ)).mono ?_; rintro e w3 ⟨rfl, j3, k3⟩; have J3 := hide j3; have K3 := hide k3; clear j3 k3)
    | (go_at_call 21; refine (hpe w3 gj _ (unhide J3).box).mono ?_; rintro e wa ⟨rfl, hwa⟩; obtain rfl := hwa.symm)
    | (go_at_call 12; refine (hsy B1 w3 gj _ (unhide J3) ((unhide SZ).trans (unhide K3).size)).mono ?_; rintro e w4 ⟨rfl, j4, k4⟩; have J4 := hide j4; have K4 := hide ((unhide K3).trans k4); clear j4 k4)
    | (go_at_call 22; refine (hco w4 gj _ (unhide J4).box).mono ?_; rintro e wa ⟨rfl, hwa⟩; obtain rfl := hwa.symm)
    | (go_at_call 13; refine (hre B1 w4 gj _ (unhide J4) ((unhide SZ).trans (unhide K4).size)).mono ?_; rintro e w5 ⟨rfl, j5, k5⟩; have J5 := hide j5; have K5 := hide ((unhide K4).trans k5); clear j5 k5)
    | (go_at_call 15; refine (hcr (PlusB B1 gj) w5 _ (unhide J5).disk (((unhide SZ).trans (unhide K5).size).plus (unhide J5).lt)).mono ?_; rintro e w6 ⟨⟨gf, rfl, d6⟩, k6⟩; have D6 := hide d6; have S6 : Hid (Sub (· < w5.heap.size) w6) := hide (fun i hi => Nat.lt_of_lt_of_le hi k6.size); have K6 := hide ((unhide K5).trans (PlusB.less k6)); have Z56 := hide k6.size; clear d6 k6))
  have hsz := unhide HSY
  have h56 := unhide Z56
  have hz3 := (unhide K5).size
  have hzz : w2.heap.size < Z.heap.size := (Array.getElem?_eq_some_iff.1 (unhide CZ)).1
  have hc6 := ((unhide K6).block w2.heap.size ((unhide HB1 _).2 (Or.inr rfl)) hzz).trans (unhide CZ)
  have hc7 := ((unhide K7).block w2.heap.size (by show w2.heap.size < w5.heap.size; omega) (by omega)).trans hc6
  obtain ⟨⟨m0, m1, m2⟩, _⟩ := cells3 hc7
  obtain ⟨b, off, hq, hb, l0, l1, l2⟩ := changeAt (unhide O7).ls (x := cF) (j := 0) rfl
  subst hq
  simp only [Nat.zero_mul, Nat.add_zero] at l0 l1 l2
  have g0 := cell_regrown m0
  have g1 := cell_regrown m1
  have g2 := cell_regrown m2
  have g3 := cell_regrown l0
  have g4 := cell_regrown l1
  have g5 := cell_regrown l2
  have hac := fun (d : Nat) (os : Array Obj) => hac3 _ _ gf ((unhide D7).below (below_regrown w7 d os))
  have hacb : ∀ (d : Nat) (os : Array Obj), Calls Tryz.prog 19 #[.pointer (some ⟨gf, 0, none⟩)] (grow (redrawn w7 d) os) fun e w' => e = .returned (.int .i64 0) ∧ Below (grow (redrawn w7 d) os).heap.size (grow (redrawn w7 d) os) w' := fun d os => (hac d os).mono (by rintro e w' ⟨h1, rfl⟩; exact ⟨h1, Below.refl _ _⟩)
  have K06 : Kpt (· < w.heap.size) w w6 := (unhide KZ).trans ((unhide K6).mono fun i hi => (unhide HB1 i).2 (Or.inl hi))
  have K07 : Kpt (· < w.heap.size) w w7 := K06.trans ((unhide K7).mono fun i hi => by have h1 : i < w.heap.size := hi; have := (unhide KZ).size; show i < w5.heap.size; omega)
  have HK := hide K07
  clear hsz h56 hz3 hzz hc6 hc7 K06 K07 hac hac1 hac2 hac3 hN hO hby hap hpe hsy hco hre hcr hO2
  refine wp_region_quiet_below (by assumption) (by kernel_rfl) ?_
  repeat (go_big_quiet_step ((go_at_fn 19; refine Calls.regrown_of (hacb _ _))))
  refine wpQuiet_nil ?_
  intro _ hw'
  obtain ⟨⟨dq, osq⟩, hw''⟩ := hw'
  subst hw''
  go_wp2
  go_ret
  exact ⟨rfl, ((unhide HK).trans (Kpt.of (below_regrown _ _ _))).below fun i hi => ⟨hi, hi⟩⟩
end Go.Proofs.YtfigjfmldpfjkaaGreat

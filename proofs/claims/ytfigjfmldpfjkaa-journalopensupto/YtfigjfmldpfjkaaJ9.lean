/- The statement JournalOpens. -/
import Derived.Test.YtfigjfmldpfjkaaJ8
namespace Go.Proofs.Ytfigjfmldpfjkaa
open Go.RowKit Go.Sort Go.Shelf

theorem next_le (n : Int) (cs : List Ch) : n ≤ nextN n cs := by
  induction cs generalizing n with
  | nil => exact Int.le_refl _
  | cons c l ih => exact Int.le_trans (by split <;> omega) (ih (if c.kind = 1 then max n (c.id + 1) else n))
theorem next_more (n : Int) (cs : List Ch) (c : Ch) : nextN n cs ≤ nextN n (cs ++ [c]) := by
  rw [nextN_snoc]; split <;> omega
theorem open_some {data : List UInt8} (h : scE data = 0) : ∃ n a : Nat, scN data = (n : Int) ∧ 1 ≤ n ∧ n ≤ 1099511627777 ∧ (∀ c ∈ scC data, MayB c) ∧ a ≤ 3 ∧ openM (onJ ⟨data, data.length⟩ 0) = (0, onJ ⟨headB n ++ encs (scC data), (headB n ++ encs (scC data)).length⟩ a) ∧ scL data = (headB n ++ encs (scC data)).length ∧ (headB n ++ encs (scC data)).length ≤ data.length := by
  obtain ⟨n, h1, h2, h3, h4, h5, r, h6⟩ := sc_back h
  have hle := sc_le h
  by_cases hL : scL data = data.length
  · refine ⟨n, 0, h1, h2, h3, h4, by omega, ?_, h5, by omega⟩
    have hr : r = [] := by
      have h7 := congrArg List.length h6
      rw [List.length_append] at h7
      exact List.length_eq_zero_iff.1 (by omega)
    rw [hr, List.append_nil] at h6
    rw [← h6]
    exact open_keep (fl := ⟨data, data.length⟩) (acts := 0) h hL rfl
  · refine ⟨n, 3, h1, h2, h3, h4, by omega, ?_, h5, by omega⟩
    rw [open_cut (fl := ⟨data, data.length⟩) (acts := 0) h hL]
    show ((0 : Int), onJ ⟨data.take (scL data), scL data⟩ (0 + 3)) = _
    have ht : data.take (scL data) = headB n ++ encs (scC data) := by
      have h8 := congrArg (List.take (scL data)) h6
      rw [h8, h5, List.take_left]
    rw [ht, h5]
theorem sc_no {l : List UInt8} (h : scE l ≠ 0) : scE l = 31 := by
  by_cases hk : headOk l = true
  · exact absurd (if_pos hk) h
  · exact if_neg hk
theorem mod_len (n : Nat) : modZ (n : Int) (n + 1) = n := by
  unfold modZ
  rw [Int.emod_eq_of_lt (by omega) (by omega)]
  simp
theorem found_len (data : List UInt8) : foundF ⟨data, 0⟩ (chAt [(data.length : Int)] 0) = ⟨data, data.length⟩ := by
  have h : keptN ⟨data, 0⟩ (data.length : Int) = data.length := by
    unfold keptN
    simp only [Nat.sub_zero, mod_len, Nat.zero_add]
  show foundF ⟨data, 0⟩ (data.length : Int) = _
  unfold foundF
  rw [h, List.take_length]
theorem sl_oneI (w : World) (x : Int) : SlOf encI 1 (w.alloc (.cells #[.int .i64 x] 3)) (some ⟨w.heap.size, 0, none⟩) 1 [x] := by
  refine ⟨(fun h => by cases h), Nat.le_refl _, by unfold maxLen; omega, LsOf.one (by simp) fun k hk => ?_⟩
  rw [cellA]
  obtain rfl : k = 0 := by omega
  rfl
/-- The data on a new disk. -/
theorem put_law {B : Nat → Prop} {w : World} {g : Nat} (hd : JAt B w g newJ) (hB : Sub B w) (q : Option Addr) (k : Nat) (data : List UInt8) (hs : SlOf encB 1 w q k data) (hl : data.length ≤ 4000000) :
    Calls Try.prog 6 #[.pointer (some ⟨g, 0, none⟩), .string nJ, .slice q data.length k] w fun e w' => e = .returned (.int .i64 0) ∧ JAt B w' g (onJ ⟨data, 0⟩ 1) ∧ Kpt B w w' := by
  have h := appJ_any hd hB (by show 0 ≤ _; omega) q k data hs (by show 0 + _ ≤ _; omega)
  have e9 : appJ newJ data = (0, onJ ⟨data, 0⟩ 1) := appJ_yes rfl (by show (0 : Nat) ≠ 1; decide) data
  rw [e9] at h
  exact h
/-- A crash with one choice. -/
theorem crash_law {B : Nat → Prop} {w : World} {g : Nat} {fl fl' : Fl} {a : Nat} (hd : JAt B w g (onJ fl a)) (hB : Sub B w) (ha : a ≤ 1000) (hl : fl.bytes.length ≤ 4000000000) (x : Int) (hf : foundF fl x = fl') :
    Calls Try.prog 7 #[.pointer (some ⟨g, 0, none⟩), .slice (some ⟨w.heap.size, 0, none⟩) 1 1] (w.alloc (.cells #[.int .i64 x] 3)) fun e w' => (∃ gf, e = .returned (.pointer (some ⟨gf, 0, none⟩)) ∧ JAt (· < w.heap.size + 1) w' gf (onJ fl' 0)) ∧ Kpt B w w' ∧ w.heap.size + 1 ≤ w'.heap.size := by
  have hb : Below w.heap.size w (w.alloc (.cells #[.int .i64 x] 3)) := (Below.refl _ _).alloc (Nat.le_refl _) _
  have hsz : (w.alloc (.cells #[.int .i64 x] 3)).heap.size = w.heap.size + 1 := by simp
  have hgl : g < w.heap.size := by
    obtain ⟨n, _, m, h, q, c, hi⟩ := hd
    exact (Array.getElem?_eq_some_iff.1 hi.box).1
  have h := crashJ_any (hd.below hb) (hB.trans hb.size) (by show a ≤ _; omega) (by show fl.bytes.length ≤ _; omega) (by show 0 ≤ _; omega) (some ⟨w.heap.size, 0, none⟩) 1 [x] (sl_oneI w x) (by simp) (by intro _ b off e; injection e with e; injection e with e; omega)
  rw [hsz, crash_on, show chAt [x] 0 = x from rfl, hf] at h
  exact h.mono (by rintro e w' ⟨h1, _, h3⟩; exact ⟨h1, (Kpt.of hb).trans h3, by have := h3.size; omega⟩)
set_option maxHeartbeats 4000000 in
set_option maxRecDepth 100000 in
theorem opens_head (q0 : Option Addr) (k0 : Nat) (data : List UInt8) (ch : Int) (c : Ch) (w : World) (s0 : SlOf encB 1 w q0 k0 data) (l0 : data.length ≤ 4000000) (he : scE data ≠ 0) :
    Calls Try.prog 3 #[.slice q0 data.length k0, .int .i64 ch, .agg #[.int .i64 c.kind, .int .i64 c.id, .string c.text]] w fun e w' => e = .returned (.bool true) ∧ Below w.heap.size w w' := by
  obtain ⟨Y, hY⟩ : ∃ Y, w.alloc (.cells #[.int .i64 c.kind, .int .i64 c.id, .string c.text] 24) = Y := ⟨_, rfl⟩
  have bY : Below w.heap.size w Y := by rw [← hY]; exact (Below.refl _ _).alloc (Nat.le_refl _) _
  have kY : Y.heap[w.heap.size]? = some (.cells #[.int .i64 c.kind, .int .i64 c.id, .string c.text] 24 (0, 0)) := by rw [← hY]; exact heap_alloc_new _ _
  have hfx := fixed_any Y
  have hN := fun (W : World) => new_js W
  have hpu := fun (B : Nat → Prop) (W : World) (g : Nat) (h1 : JAt B W g newJ) (h2 : Sub B W) (h3 : SlOf encB 1 W q0 k0 data) => put_law h1 h2 q0 k0 data h3 l0
  have hcr := fun (B : Nat → Prop) (W : World) (g : Nat) (h1 : JAt B W g (onJ ⟨data, 0⟩ 1)) (h2 : Sub B W) => crash_law h1 h2 (by omega) (by show data.length ≤ _; omega) (data.length : Int) (found_len data)
  have HS := hide (s0.below bY)
  have HY := hide bY
  have HC := hide kY
  have hyl : w.heap.size < Y.heap.size := (Array.getElem?_eq_some_iff.1 kY).1
  have HYL := hide hyl
  obtain ⟨D, hD⟩ : ∃ D, data.length = D := ⟨_, rfl⟩
  have hO : ∀ (B : Nat → Prop) (W : World) (g : Nat), JAt B W g (onJ ⟨data, data.length⟩ 0) → Sub B W → Calls Try.prog 8 #[.pointer (some ⟨g, 0, none⟩)] W fun e w' => e = .returned (.tuple #[.pointer none, .int .i64 0, .slice none 0 0, .int .i64 31]) ∧ JAt B w' g (onJ ⟨data, data.length⟩ 0) ∧ Kpt B W w' := fun B W g h1 h2 => by
    have e9 : openM (onJ ⟨data, data.length⟩ 0) = (31, onJ ⟨data, data.length⟩ 0) := (open_head (fl := ⟨data, data.length⟩) he).trans (by show (scE data, _) = _; rw [sc_no he])
    have h := opens_no h1 h2 (by show 0 ≤ _; omega) (by show data.length ≤ _; omega) (by show data.length ≤ _; omega) (by rw [e9]; show (31 : Int) ≠ 0; decide)
    rw [e9] at h
    exact h
  have hac : ∀ (B : Nat → Prop) (W : World) (g : Nat), JAt B W g (onJ ⟨data, data.length⟩ 0) → Calls Try.prog 9 #[.pointer (some ⟨g, 0, none⟩)] W fun e w' => e = .returned (.int .i64 0) ∧ w' = W := fun B W g h => actsJ_any h
  rw [hD] at hcr hO hac
  simp only [hD] at hpu
  rw [hD]
  clear he
  clear s0 l0 bY kY hyl hD
  go_enter Try.func3, Try.ntmps3
  go_wp2_with (first
    | (go_at_call 4; refine hfx.mono ?_; rintro e w1 ⟨rfl, b1⟩; have S1 := hide ((unhide HS).below b1); have C1 := hide ((b1.block _ (unhide HYL)).trans (unhide HC)); have L1 := hide (Nat.lt_of_lt_of_le (unhide HYL) b1.size); have B1 := hide ((unhide HY).trans (b1.mono (unhide HY).size)); clear b1)
    | (go_at_call 5; refine (hN w1).mono ?_; rintro e w2 ⟨rfl, d2, b2⟩; have D2 := hide d2; have S2 := hide ((unhide S1).below b2); have U2 : Hid (Sub (· < w1.heap.size) w2) := hide (fun i hi => Nat.lt_of_lt_of_le hi b2.size); have K2 := hide (Kpt.of (B := (· < w1.heap.size)) b2); clear d2 b2)
    | (go_at_call 6; refine (hpu _ w2 _ (unhide D2) (unhide U2) (unhide S2)).mono ?_; rintro e w3 ⟨rfl, d3, k3⟩; have D3 := hide d3; have U3 := hide ((unhide U2).trans k3.size); have K3 := hide ((unhide K2).trans k3); clear d3 k3)
    | (go_at_call 7; (with_reducible refine (hcr _ w3 _ (unhide D3) (unhide U3)).mono ?_); rintro e w4 ⟨⟨gf, rfl, d4⟩, k4, z4⟩; have D4 := hide d4; have K4 := hide ((unhide K3).trans k4); have U4 : Hid (Sub (· < w3.heap.size + 1) w4) := hide (fun i hi => Nat.lt_of_lt_of_le hi z4); have M4 : Hid (∀ i, i < w1.heap.size → i < w3.heap.size + 1) := hide (fun i hi => by have := (unhide K3).size; omega); clear d4 k4 z4)
    | (go_at_call 8; refine (hO _ w4 gf (unhide D4) (unhide U4)).mono ?_; rintro e w5 ⟨rfl, d5, k5⟩; have D5 := hide d5; have K5 := hide ((unhide K4).trans (k5.mono (unhide M4))); clear d5 k5)
    | (go_at_call 9; refine (hac _ w5 gf (unhide D5)).mono ?_; rintro e wa ⟨rfl, hwa⟩; obtain rfl := hwa.symm))
  go_ret
  exact ⟨rfl, (unhide B1).trans ((unhide K5).below fun i hi => ⟨Nat.lt_of_lt_of_le hi (unhide B1).size, Nat.lt_of_lt_of_le hi (unhide B1).size⟩)⟩
set_option maxHeartbeats 4000000 in
set_option maxRecDepth 100000 in
theorem opens_form (q0 : Option Addr) (k0 : Nat) (data : List UInt8) (ch : Int) (c : Ch) (w : World) (s0 : SlOf encB 1 w q0 k0 data) (l0 : data.length ≤ 4000000) (he : scE data = 0) (hc : ¬ MayB c) :
    Calls Try.prog 3 #[.slice q0 data.length k0, .int .i64 ch, .agg #[.int .i64 c.kind, .int .i64 c.id, .string c.text]] w fun e w' => e = .returned (.bool true) ∧ Below w.heap.size w w' := by
  obtain ⟨Y, hY⟩ : ∃ Y, w.alloc (.cells #[.int .i64 c.kind, .int .i64 c.id, .string c.text] 24) = Y := ⟨_, rfl⟩
  have bY : Below w.heap.size w Y := by rw [← hY]; exact (Below.refl _ _).alloc (Nat.le_refl _) _
  have kY : Y.heap[w.heap.size]? = some (.cells #[.int .i64 c.kind, .int .i64 c.id, .string c.text] 24 (0, 0)) := by rw [← hY]; exact heap_alloc_new _ _
  have hfx := fixed_any Y
  have hN := fun (W : World) => new_js W
  have hpu := fun (B : Nat → Prop) (W : World) (g : Nat) (h1 : JAt B W g newJ) (h2 : Sub B W) (h3 : SlOf encB 1 W q0 k0 data) => put_law h1 h2 q0 k0 data h3 l0
  have hcr := fun (B : Nat → Prop) (W : World) (g : Nat) (h1 : JAt B W g (onJ ⟨data, 0⟩ 1)) (h2 : Sub B W) => crash_law h1 h2 (by omega) (by show data.length ≤ _; omega) (data.length : Int) (found_len data)
  have HS := hide (s0.below bY)
  have HY := hide bY
  have HC := hide kY
  have hyl : w.heap.size < Y.heap.size := (Array.getElem?_eq_some_iff.1 kY).1
  have HYL := hide hyl
  obtain ⟨D, hD⟩ : ∃ D, data.length = D := ⟨_, rfl⟩
  obtain ⟨n, a, n1, n2, n3, hmay, ha, hop, hsl, hbl⟩ := open_some he
  obtain ⟨K, hK⟩ : ∃ K, scC data = K := ⟨_, rfl⟩
  rw [hK] at hmay hop hsl hbl
  obtain ⟨b, hb⟩ : ∃ b, headB n ++ encs K = b := ⟨_, rfl⟩
  rw [hb] at hop hsl hbl
  have hkl : K.length ≤ b.length := by
    have h8 : K.length ≤ (encs K).length := by
      clear hK hb hmay
      induction K with
      | nil => exact Nat.zero_le _
      | cons c l ih => rw [encs_cons, List.length_append, List.length_cons]; have := one_len8 c; omega
    rw [← hb, List.length_append]
    omega
  have hX1 := next_le (n : Int) K
  have hO : ∀ (B : Nat → Prop) (W : World) (g : Nat), JAt B W g (onJ ⟨data, data.length⟩ 0) → Sub B W → Calls Try.prog 8 #[.pointer (some ⟨g, 0, none⟩)] W fun e w' => (∃ gj q c, e = .returned (.tuple #[.pointer (some ⟨gj, 0, none⟩), .int .i64 (nextN (n : Int) K), .slice q K.length c, .int .i64 0]) ∧ OwnK encC 24 3 W.heap.size w' q c K ∧ W.heap.size ≤ gj ∧ JrAt B w' gj g (onJ ⟨b, b.length⟩ a) ⟨0, K.length, b.length, 0⟩) ∧ Kpt B W w' := fun B W g h1 h2 => by
    have h := opens_yes h1 h2 (by show 0 ≤ _; omega) (by show data.length ≤ _; omega) (by show data.length ≤ _; omega) (by rw [hop])
    rw [hop, show stB (onJ ⟨data, data.length⟩ 0) = data from rfl, n1, hK, hsl] at h
    exact h
  have hlo : ∀ (B : Nat → Prop) (W : World) (g : Nat), JAt B W g (onJ ⟨b, b.length⟩ a) → Calls Try.prog 10 #[.pointer (some ⟨g, 0, none⟩), .string nJ] W fun e w' => e = .returned (.int .i64 0) ∧ Below W.heap.size W w' := fun B W g h => by
    have h9 := looseJ_any h rfl rfl (by show b.length ≤ _; omega)
    rw [show looseO (onJ ⟨b, b.length⟩ a).j = 0 from Nat.sub_self _] at h9
    exact h9
  have hco : ∀ (W : World) (gj g : Nat), BoxJ W gj g ⟨0, K.length, b.length, 0⟩ → Calls Try.prog 11 #[.pointer (some ⟨gj, 0, none⟩)] W fun e w' => e = .returned (.int .i64 (K.length : Int)) ∧ w' = W := fun W gj g h => count_any h
  have hpe : ∀ (W : World) (gj g : Nat), BoxJ W gj g ⟨0, K.length, b.length, 0⟩ → Calls Try.prog 12 #[.pointer (some ⟨gj, 0, none⟩)] W fun e w' => e = .returned (.int .i64 0) ∧ w' = W := fun W gj g h => pending_any h
  have hso := fun (W : World) => sl_one W c
  have hm1 : ¬ ∀ x ∈ [c], MayB x := fun h => hc (h c (by simp))
  have hap : ∀ (B : Nat → Prop) (W : World) (gj g : Nat) (q : Option Addr), JrAt B W gj g (onJ ⟨b, b.length⟩ a) ⟨0, K.length, b.length, 0⟩ → Sub B W → SlOf encC 3 W q 1 [c] → Calls Try.prog 13 #[.pointer (some ⟨gj, 0, none⟩), .slice q 1 1] W fun e w' => e = .returned (.int .i64 1) ∧ JrAt B w' gj g (onJ ⟨b, b.length⟩ a) ⟨0, K.length, b.length, 0⟩ ∧ Kpt B W w' := fun B W gj g q h1 h2 h3 => by
    have h := japp_any h1 q 1 [c] h2 (by show a ≤ _; omega) h3 (by simp) ⟨by show K.length ≤ _; omega, by show b.length ≤ _; omega, by show 0 ≤ _; omega⟩ (by show b.length + _ ≤ _; simp; omega)
    have e9 : jApp (onJ ⟨b, b.length⟩ a) ⟨0, K.length, b.length, 0⟩ [c] = (1, onJ ⟨b, b.length⟩ a, ⟨0, K.length, b.length, 0⟩) := (if_neg (fun h9 => h9 rfl)).trans (if_pos hm1)
    rw [e9] at h
    exact h
  have hsy : ∀ (B : Nat → Prop) (W : World) (gj g : Nat), JrAt B W gj g (onJ ⟨b, b.length⟩ a) ⟨0, K.length, b.length, 0⟩ → Sub B W → Calls Try.prog 14 #[.pointer (some ⟨gj, 0, none⟩)] W fun e w' => e = .returned (.int .i64 0) ∧ JrAt B w' gj g (onJ ⟨b, b.length⟩ a) ⟨0, K.length, b.length, 0⟩ ∧ Kpt B W w' := fun B W gj g h1 h2 => by
    have h := jsyn_any h1 h2 (by show a ≤ _; omega)
    have e9 : jSyn (onJ ⟨b, b.length⟩ a) ⟨0, K.length, b.length, 0⟩ = (0, onJ ⟨b, b.length⟩ a, ⟨0, K.length, b.length, 0⟩) := (if_neg (fun h9 => h9 rfl)).trans (if_pos rfl)
    rw [e9] at h
    exact h
  have hcr2 := fun (B : Nat → Prop) (W : World) (g : Nat) (h1 : JAt B W g (onJ ⟨b, b.length⟩ a)) (h2 : Sub B W) => crash_law h1 h2 (by omega) (by show b.length ≤ _; omega) ch (found_all b ch)
  obtain ⟨g1, g2, g3, g4⟩ := sc_of n K n2 n3 hmay
  rw [hb] at g1 g2 g3 g4
  have hO9 : ∀ (B : Nat → Prop) (W : World) (g : Nat), JAt B W g (onJ ⟨b, b.length⟩ 0) → Sub B W → Calls Try.prog 8 #[.pointer (some ⟨g, 0, none⟩)] W fun e w' => (∃ gj q c, e = .returned (.tuple #[.pointer (some ⟨gj, 0, none⟩), .int .i64 (nextN (n : Int) K), .slice q K.length c, .int .i64 0]) ∧ OwnK encC 24 3 W.heap.size w' q c K) ∧ Kpt B W w' := fun B W g h1 h2 => by
    have ho9 : openM (onJ ⟨b, b.length⟩ 0) = (0, onJ ⟨b, b.length⟩ 0) := open_keep g1 g4 rfl
    have h := opens_yes h1 h2 (by show 0 ≤ _; omega) (by show b.length ≤ _; omega) (by show b.length ≤ _; omega) (by rw [ho9])
    rw [ho9, show stB (onJ ⟨b, b.length⟩ 0) = b from rfl, g2, g3] at h
    exact h.mono (by rintro e w' ⟨⟨gj, q, c, h1, h2, _⟩, h3⟩; exact ⟨⟨gj, q, c, h1, h2⟩, h3⟩)
  have hsa := fun (q q' : Option Addr) (c c' : Nat) (W : World) (h1 : SlOf encC 3 W q c K) (h2 : SlOf encC 3 W q' c' K) => sameC_any q q' c c' K K W h1 h2 (by omega) (by omega)
  rw [decide_eq_true rfl] at hsa
  generalize nextN (n : Int) K = X at *
  have hX0 : ¬ X < 1 := by omega
  have hX3 : decide (X < 1) = false := decide_eq_false hX0
  rw [hD] at hcr hO
  simp only [hD] at hpu
  rw [hD]
  clear he hc hm1 hK hb hop hsl hbl hkl hmay n1 n2 n3 g1 g2 g3 g4 hX1 ha
  clear s0 l0 bY kY hyl hD
  go_enter Try.func3, Try.ntmps3
  go_wp2_with (first
    | (go_at_call 4; refine hfx.mono ?_; rintro e w1 ⟨rfl, b1⟩; have S1 := hide ((unhide HS).below b1); have C1 := hide ((b1.block _ (unhide HYL)).trans (unhide HC)); have L1 := hide (Nat.lt_of_lt_of_le (unhide HYL) b1.size); have B1 := hide ((unhide HY).trans (b1.mono (unhide HY).size)); clear b1)
    | (go_at_call 5; refine (hN w1).mono ?_; rintro e w2 ⟨rfl, d2, b2⟩; have D2 := hide d2; have S2 := hide ((unhide S1).below b2); have U2 : Hid (Sub (· < w1.heap.size) w2) := hide (fun i hi => Nat.lt_of_lt_of_le hi b2.size); have K2 := hide (Kpt.of (B := (· < w1.heap.size)) b2); clear d2 b2)
    | (go_at_call 6; refine (hpu _ w2 _ (unhide D2) (unhide U2) (unhide S2)).mono ?_; rintro e w3 ⟨rfl, d3, k3⟩; have D3 := hide d3; have U3 := hide ((unhide U2).trans k3.size); have K3 := hide ((unhide K2).trans k3); clear d3 k3)
    | (go_at_call 7; (with_reducible refine (hcr2 (PlusB (PlusRow B4 q5) gj) w7 gf (unhide E7) (unhide U7)).mono ?_); rintro e w8 ⟨⟨gf2, rfl, d8⟩, k8, z8⟩; have D8 := hide d8; have O8 := hide (own_kept (B := B4) (unhide O7) ((PlusB.less k8))); have K8 := hide ((unhide K7).trans (PlusB.less k8)); have U8 : Hid (Sub (· < w7.heap.size + 1) w8) := hide (fun i hi => Nat.lt_of_lt_of_le hi z8); clear d8 k8 z8)
    | (go_at_call 7; (with_reducible refine (hcr _ w3 _ (unhide D3) (unhide U3)).mono ?_); rintro e w4 ⟨⟨gf, rfl, d4⟩, k4, z4⟩; have D4 := hide d4; have K4 := hide ((unhide K3).trans k4); have U4 : Hid (Sub (· < w3.heap.size + 1) w4) := hide (fun i hi => Nat.lt_of_lt_of_le hi z4); have M4 : Hid (∀ i, i < w1.heap.size → i < w3.heap.size + 1) := hide (fun i hi => by have := (unhide K3).size; omega); clear d4 k4 z4)
    | (go_at_call 8; (with_reducible refine (hO9 _ w8 gf2 (unhide D8) (unhide U8)).mono ?_); rintro e w9 ⟨⟨gj9, q9, c9, rfl, o9⟩, k9⟩; have M9 := hide o9; have O9 := hide (own_sameG (unhide O8) (fun p hp => k9.block p.block (by have h1 := (unhide P7) p hp; show p.block < w7.heap.size + 1; omega) (by have h1 := (unhide P7) p hp; have h2 := (unhide U8) p.block (by show p.block < w7.heap.size + 1; omega); exact h2))); have K9 := hide ((unhide K8).trans (k9.mono (B' := PlusRow B4 q5) (fun i hi => by have h1 := unhide U7' i hi; show i < w7.heap.size + 1; omega))); clear o9 k9)
    | (go_at_call 8; (with_reducible refine (hO _ w4 gf (unhide D4) (unhide U4)).mono ?_); rintro e w5 ⟨⟨gj, q5, c5, rfl, o5, hgj, j5⟩, k5⟩; obtain ⟨B4, hB4⟩ : ∃ B4 : Nat → Prop, B4 = (· < w3.heap.size + 1) := ⟨_, rfl⟩; have K5 := hide ((unhide K4).trans (k5.mono (unhide M4))); have C5 : Hid (w5.heap[w.heap.size]? = some (.cells #[.int .i64 c.kind, .int .i64 c.id, .string c.text] 24 (0, 0))) := hide (((unhide K5).block _ (unhide L1) (unhide L1)).trans (unhide C1)); have J5 := hide j5; have O5 := hide o5; have U5 := hide ((unhide U4).trans k5.size); have HB4 := hide hB4; clear o5 j5 k5 hB4)
    | (go_at_call 10; refine (hlo _ w5 gf (unhide J5).disk).mono ?_; rintro e w5b ⟨rfl, b5⟩; have Jb := hide ((unhide J5).below b5); have Ob := hide ((unhide O5).below b5); have Ub := hide ((unhide U5).trans b5.size); have Kb := hide ((unhide K5).trans (Kpt.of b5)); have Cb := hide ((b5.block _ (Array.getElem?_eq_some_iff.1 (unhide C5)).1).trans (unhide C5)); obtain ⟨⟨v0, v1, v2⟩, _⟩ := cells3 (unhide Cb); obtain ⟨Z, hZ⟩ : ∃ Z, w5b.alloc (.cells #[.int .i64 c.kind, .int .i64 c.id, .string c.text] 24) = Z := ⟨_, rfl⟩; have bZ : Below w5b.heap.size w5b Z := (by rw [← hZ]; exact (Below.refl _ _).alloc (Nat.le_refl _) _); have slZ : SlOf encC 3 Z (some ⟨w5b.heap.size, 0, none⟩) 1 [c] := (by rw [← hZ]; exact hso w5b); have jZ : JrAt (PlusRow B4 q5) Z gj gf (onJ ⟨b, b.length⟩ a) ⟨0, K.length, b.length, 0⟩ := (by rw [unhide HB4]; exact ((unhide Jb).more (fun i hi => by rcases hi with h | ⟨p, hp, rfl⟩; exact Or.inl h; obtain ⟨_, cur, hc⟩ := own_cellsG (unhide Ob) hp; exact Or.inr (Or.inr ⟨cur, 24, hc, by decide, by decide, by decide, by decide⟩))).below bZ); have uZ : Sub (PlusRow B4 q5) Z := (by rw [unhide HB4]; exact ((unhide Ub).with_row (unhide Ob)).trans bZ.size); have oZ := (unhide Ob).below bZ; have JZ := hide jZ; have UZ := hide uZ; have OZ := hide oZ; have SLZ := hide slZ; have KZ := hide ((unhide Kb).trans (Kpt.of bZ)); clear b5 bZ slZ jZ uZ oZ)
    | (go_at_call 11; refine (hco w5b gj _ (unhide Jb).box).mono ?_; rintro e wa ⟨rfl, hwa⟩; obtain rfl := hwa.symm)
    | (go_at_call 12; refine (hpe w5b gj _ (unhide Jb).box).mono ?_; rintro e wa ⟨rfl, hwa⟩; obtain rfl := hwa.symm)
    | (go_at_call 13; refine (hap _ Z gj _ _ (unhide JZ) (unhide UZ) (unhide SLZ)).mono ?_; rintro e w6 ⟨rfl, j6, k6⟩; have J6 := hide j6; have U6 := hide ((unhide UZ).trans k6.size); have O6 := hide (own_kept (unhide OZ) k6); have K6 := hide k6; clear j6 k6)
    | (go_at_call 14; refine (hsy _ w6 gj _ (unhide J6) (unhide U6)).mono ?_; rintro e w7 ⟨rfl, j7, k7⟩; have J7 := hide j7; have E7 : Hid (JAt (PlusB (PlusRow B4 q5) gj) w7 gf _) := hide j7.disk; have U7' := hide ((unhide U6).trans k7.size); have U7 := hide ((unhide U7').plus j7.lt); have O7 := hide (own_kept (unhide O6) k7); have K7 := hide ((unhide K6).trans k7); have P7 : Hid (∀ p, q5 = some p → p.block < w7.heap.size) := hide (fun p hp => unhide U7' p.block (Or.inr ⟨p, hp, rfl⟩)); clear j7 k7)
    | (go_at_call 15; refine (hsa q5 q9 c5 c9 w9 (unhide O9).ls (unhide M9).ls).mono ?_; rintro e w10 ⟨rfl, b10⟩; have B10 := hide b10; clear b10))
  go_ret
  have hk19 : Kpt (· < w1.heap.size) w1 w9 := (unhide KZ).trans ((unhide K9).mono fun i hi => Or.inl (by rw [unhide HB4]; exact unhide M4 i hi))
  have hk := hk19.trans (Kpt.of (unhide B10))
  exact ⟨rfl, (unhide B1).trans (hk.below fun i hi => ⟨Nat.lt_of_lt_of_le hi (unhide B1).size, Nat.lt_of_lt_of_le hi (unhide B1).size⟩)⟩
set_option maxHeartbeats 4000000 in
set_option maxRecDepth 100000 in
theorem opens_more (q0 : Option Addr) (k0 : Nat) (data : List UInt8) (ch : Int) (c : Ch) (w : World) (s0 : SlOf encB 1 w q0 k0 data) (l0 : data.length ≤ 4000000) (he : scE data = 0) (hc : MayB c) :
    Calls Try.prog 3 #[.slice q0 data.length k0, .int .i64 ch, .agg #[.int .i64 c.kind, .int .i64 c.id, .string c.text]] w fun e w' => e = .returned (.bool true) ∧ Below w.heap.size w w' := by
  obtain ⟨Y, hY⟩ : ∃ Y, w.alloc (.cells #[.int .i64 c.kind, .int .i64 c.id, .string c.text] 24) = Y := ⟨_, rfl⟩
  have bY : Below w.heap.size w Y := by rw [← hY]; exact (Below.refl _ _).alloc (Nat.le_refl _) _
  have kY : Y.heap[w.heap.size]? = some (.cells #[.int .i64 c.kind, .int .i64 c.id, .string c.text] 24 (0, 0)) := by rw [← hY]; exact heap_alloc_new _ _
  have hfx := fixed_any Y
  have hN := fun (W : World) => new_js W
  have hpu := fun (B : Nat → Prop) (W : World) (g : Nat) (h1 : JAt B W g newJ) (h2 : Sub B W) (h3 : SlOf encB 1 W q0 k0 data) => put_law h1 h2 q0 k0 data h3 l0
  have hcr := fun (B : Nat → Prop) (W : World) (g : Nat) (h1 : JAt B W g (onJ ⟨data, 0⟩ 1)) (h2 : Sub B W) => crash_law h1 h2 (by omega) (by show data.length ≤ _; omega) (data.length : Int) (found_len data)
  have HS := hide (s0.below bY)
  have HY := hide bY
  have HC := hide kY
  have hyl : w.heap.size < Y.heap.size := (Array.getElem?_eq_some_iff.1 kY).1
  have HYL := hide hyl
  obtain ⟨D, hD⟩ : ∃ D, data.length = D := ⟨_, rfl⟩
  obtain ⟨n, a, n1, n2, n3, hmay, ha, hop, hsl, hbl⟩ := open_some he
  obtain ⟨K, hK⟩ : ∃ K, scC data = K := ⟨_, rfl⟩
  rw [hK] at hmay hop hsl hbl
  obtain ⟨b, hb⟩ : ∃ b, headB n ++ encs K = b := ⟨_, rfl⟩
  rw [hb] at hop hsl hbl
  have hkl : K.length ≤ b.length := by
    have h8 : K.length ≤ (encs K).length := by
      clear hK hb hmay
      induction K with
      | nil => exact Nat.zero_le _
      | cons c l ih => rw [encs_cons, List.length_append, List.length_cons]; have := one_len8 c; omega
    rw [← hb, List.length_append]
    omega
  have hX1 := next_le (n : Int) K
  have hO : ∀ (B : Nat → Prop) (W : World) (g : Nat), JAt B W g (onJ ⟨data, data.length⟩ 0) → Sub B W → Calls Try.prog 8 #[.pointer (some ⟨g, 0, none⟩)] W fun e w' => (∃ gj q c, e = .returned (.tuple #[.pointer (some ⟨gj, 0, none⟩), .int .i64 (nextN (n : Int) K), .slice q K.length c, .int .i64 0]) ∧ OwnK encC 24 3 W.heap.size w' q c K ∧ W.heap.size ≤ gj ∧ JrAt B w' gj g (onJ ⟨b, b.length⟩ a) ⟨0, K.length, b.length, 0⟩) ∧ Kpt B W w' := fun B W g h1 h2 => by
    have h := opens_yes h1 h2 (by show 0 ≤ _; omega) (by show data.length ≤ _; omega) (by show data.length ≤ _; omega) (by rw [hop])
    rw [hop, show stB (onJ ⟨data, data.length⟩ 0) = data from rfl, n1, hK, hsl] at h
    exact h
  have hlo : ∀ (B : Nat → Prop) (W : World) (g : Nat), JAt B W g (onJ ⟨b, b.length⟩ a) → Calls Try.prog 10 #[.pointer (some ⟨g, 0, none⟩), .string nJ] W fun e w' => e = .returned (.int .i64 0) ∧ Below W.heap.size W w' := fun B W g h => by
    have h9 := looseJ_any h rfl rfl (by show b.length ≤ _; omega)
    rw [show looseO (onJ ⟨b, b.length⟩ a).j = 0 from Nat.sub_self _] at h9
    exact h9
  have hco : ∀ (W : World) (gj g : Nat), BoxJ W gj g ⟨0, K.length, b.length, 0⟩ → Calls Try.prog 11 #[.pointer (some ⟨gj, 0, none⟩)] W fun e w' => e = .returned (.int .i64 (K.length : Int)) ∧ w' = W := fun W gj g h => count_any h
  have hpe : ∀ (W : World) (gj g : Nat), BoxJ W gj g ⟨0, K.length, b.length, 0⟩ → Calls Try.prog 12 #[.pointer (some ⟨gj, 0, none⟩)] W fun e w' => e = .returned (.int .i64 0) ∧ w' = W := fun W gj g h => pending_any h
  have hso := fun (W : World) => sl_one W c
  have hm1 : ∀ x ∈ [c], MayB x := fun x hx => by obtain rfl : x = c := (by simpa using hx); exact hc
  have hel := encs_len [c] hm1
  obtain ⟨b2, hb2⟩ : ∃ b2, b ++ encs [c] = b2 := ⟨_, rfl⟩
  have hb2l : b2.length ≤ 5000000 := by rw [← hb2, List.length_append]; simp at hel; omega
  have hb2e : headB n ++ encs (K ++ [c]) = b2 := by rw [← hb2, ← hb, encs_snoc, List.append_assoc]; simp [encs]
  have hap : ∀ (B : Nat → Prop) (W : World) (gj g : Nat) (q : Option Addr), JrAt B W gj g (onJ ⟨b, b.length⟩ a) ⟨0, K.length, b.length, 0⟩ → Sub B W → SlOf encC 3 W q 1 [c] → Calls Try.prog 13 #[.pointer (some ⟨gj, 0, none⟩), .slice q 1 1] W fun e w' => e = .returned (.int .i64 0) ∧ JrAt B w' gj g (onJ ⟨b2, b.length⟩ (a + 1)) ⟨0, K.length + 1, b.length + (encs [c]).length, 0 + 1⟩ ∧ Kpt B W w' := fun B W gj g q h1 h2 h3 => by
    have h := japp_any h1 q 1 [c] h2 (by show a ≤ _; omega) h3 (by simp) ⟨by show K.length ≤ _; omega, by show b.length ≤ _; omega, by show 0 ≤ _; omega⟩ (by show b.length + _ ≤ _; simp; omega)
    rw [app_on ⟨b, b.length⟩ a _ rfl hm1 (by simp)] at h
    rw [← hb2]
    exact h
  have hsy : ∀ (B : Nat → Prop) (W : World) (gj g : Nat), JrAt B W gj g (onJ ⟨b2, b.length⟩ (a + 1)) ⟨0, K.length + 1, b.length + (encs [c]).length, 0 + 1⟩ → Sub B W → Calls Try.prog 14 #[.pointer (some ⟨gj, 0, none⟩)] W fun e w' => e = .returned (.int .i64 0) ∧ JrAt B w' gj g (onJ ⟨b2, b2.length⟩ (a + 1 + 1)) ⟨0, K.length + 1, b.length + (encs [c]).length, 0⟩ ∧ Kpt B W w' := fun B W gj g h1 h2 => by
    have h := jsyn_any h1 h2 (by show a + 1 ≤ _; omega)
    rw [syn_on ⟨b2, b.length⟩ (a + 1) _ rfl (by show 0 + 1 ≠ 0; decide)] at h
    exact h
  have hcr2 := fun (B : Nat → Prop) (W : World) (g : Nat) (h1 : JAt B W g (onJ ⟨b2, b2.length⟩ (a + 1 + 1))) (h2 : Sub B W) => crash_law h1 h2 (by omega) (by show b2.length ≤ _; omega) ch (found_all b2 ch)
  obtain ⟨Kx, hKx⟩ : ∃ Kx, K ++ [c] = Kx := ⟨_, rfl⟩
  have hm2 : ∀ x ∈ K ++ [c], MayB x := fun x hx => by
    rcases List.mem_append.1 hx with h | h
    · exact hmay x h
    · exact hm1 x h
  obtain ⟨g1, g2, g3, g4⟩ := sc_of n (K ++ [c]) n2 n3 hm2
  rw [hb2e] at g1 g2 g3 g4
  have hX2 := next_more (n : Int) K c
  rw [hKx] at g3 hX2
  have hO9 : ∀ (B : Nat → Prop) (W : World) (g : Nat), JAt B W g (onJ ⟨b2, b2.length⟩ 0) → Sub B W → Calls Try.prog 8 #[.pointer (some ⟨g, 0, none⟩)] W fun e w' => (∃ gj q c, e = .returned (.tuple #[.pointer (some ⟨gj, 0, none⟩), .int .i64 (nextN (n : Int) Kx), .slice q Kx.length c, .int .i64 0]) ∧ OwnK encC 24 3 W.heap.size w' q c Kx) ∧ Kpt B W w' := fun B W g h1 h2 => by
    have ho9 : openM (onJ ⟨b2, b2.length⟩ 0) = (0, onJ ⟨b2, b2.length⟩ 0) := open_keep g1 g4 rfl
    have h := opens_yes h1 h2 (by show 0 ≤ _; omega) (by show b2.length ≤ _; omega) (by show b2.length ≤ _; omega) (by rw [ho9])
    rw [ho9, show stB (onJ ⟨b2, b2.length⟩ 0) = b2 from rfl, g2, g3] at h
    exact h.mono (by rintro e w' ⟨⟨gj, q, c, h1, h2, _⟩, h3⟩; exact ⟨⟨gj, q, c, h1, h2⟩, h3⟩)
  have hk2l : Kx.length = K.length + 1 := by rw [← hKx]; simp
  have hsa := fun (q q' : Option Addr) (c c' : Nat) (W : World) (h1 : SlOf encC 3 W q c Kx) (h2 : SlOf encC 3 W q' c' Kx) => sameC_any q q' c c' Kx Kx W h1 h2 (by omega) (by omega)
  rw [decide_eq_true rfl] at hsa
  generalize nextN (n : Int) Kx = X2 at *
  generalize nextN (n : Int) K = X at *
  have hX0 : ¬ X < 1 := by omega
  have hX3 : decide (X < 1) = false := decide_eq_false hX0
  have hX4 : decide (X2 ≥ X) = true := decide_eq_true hX2
  have hX5 : decide (X ≤ X2) = true := decide_eq_true hX2
  have hKb : K.length ≤ 4000000 := by omega
  obtain ⟨L, hL⟩ : ∃ L, K.length = L := ⟨_, rfl⟩
  obtain ⟨L2, hL2⟩ : ∃ L2, Kx.length = L2 := ⟨_, rfl⟩
  have HKx := hide hKx
  have HL := hide hL
  have HL2 := hide hL2
  have HLL : Hid (L + 1 = L2) := hide (by omega)
  have hLb : L ≤ 4000000 := by omega
  have hLb2 : L2 ≤ 4000001 := by omega
  rw [hD] at hcr hO
  simp only [hD] at hpu
  rw [hD]
  simp only [hL] at hO hco hpe hap hsy
  simp only [hL2] at hO9 hsa
  clear he hc hm1 hK hb hop hsl hbl hkl hmay n1 n2 n3 g1 g2 g3 g4 hX1 ha hb2 hb2l hb2e hel hm2 hKx hk2l hL hL2 hKb
  clear s0 l0 bY kY hyl hD
  go_enter Try.func3, Try.ntmps3
  go_wp2_with (first
    | (go_at_call 4; refine hfx.mono ?_; rintro e w1 ⟨rfl, b1⟩; have S1 := hide ((unhide HS).below b1); have C1 := hide ((b1.block _ (unhide HYL)).trans (unhide HC)); have L1 := hide (Nat.lt_of_lt_of_le (unhide HYL) b1.size); have B1 := hide ((unhide HY).trans (b1.mono (unhide HY).size)); clear b1)
    | (go_at_call 5; refine (hN w1).mono ?_; rintro e w2 ⟨rfl, d2, b2⟩; have D2 := hide d2; have S2 := hide ((unhide S1).below b2); have U2 : Hid (Sub (· < w1.heap.size) w2) := hide (fun i hi => Nat.lt_of_lt_of_le hi b2.size); have K2 := hide (Kpt.of (B := (· < w1.heap.size)) b2); clear d2 b2)
    | (go_at_call 6; refine (hpu _ w2 _ (unhide D2) (unhide U2) (unhide S2)).mono ?_; rintro e w3 ⟨rfl, d3, k3⟩; have D3 := hide d3; have U3 := hide ((unhide U2).trans k3.size); have K3 := hide ((unhide K2).trans k3); clear d3 k3)
    | (go_at_call 7; (with_reducible refine (hcr2 (PlusB (PlusRow B4 q5) gj) w7 gf (unhide E7) (unhide U7)).mono ?_); rintro e w8 ⟨⟨gf2, rfl, d8⟩, k8, z8⟩; have D8 := hide d8; have O8 := hide (own_kept (B := B4) (unhide O7) ((PlusB.less k8))); have K8 := hide ((unhide K7).trans (PlusB.less k8)); have U8 : Hid (Sub (· < w7.heap.size + 1) w8) := hide (fun i hi => Nat.lt_of_lt_of_le hi z8); clear d8 k8 z8)
    | (go_at_call 7; (with_reducible refine (hcr _ w3 _ (unhide D3) (unhide U3)).mono ?_); rintro e w4 ⟨⟨gf, rfl, d4⟩, k4, z4⟩; have D4 := hide d4; have K4 := hide ((unhide K3).trans k4); have U4 : Hid (Sub (· < w3.heap.size + 1) w4) := hide (fun i hi => Nat.lt_of_lt_of_le hi z4); have M4 : Hid (∀ i, i < w1.heap.size → i < w3.heap.size + 1) := hide (fun i hi => by have := (unhide K3).size; omega); clear d4 k4 z4)
    | (go_at_call 8; (with_reducible refine (hO9 _ w8 gf2 (unhide D8) (unhide U8)).mono ?_); rintro e w9 ⟨⟨gj9, q9, c9, rfl, o9⟩, k9⟩; have M9 := hide o9; have O9 := hide (own_sameG (unhide O8) (fun p hp => k9.block p.block (by have h1 := (unhide P7) p hp; show p.block < w7.heap.size + 1; omega) (by have h1 := (unhide P7) p hp; have h2 := (unhide U8) p.block (by show p.block < w7.heap.size + 1; omega); exact h2))); have K9 := hide ((unhide K8).trans (k9.mono (B' := PlusRow B4 q5) (fun i hi => by have h1 := unhide U7' i hi; show i < w7.heap.size + 1; omega))); clear o9 k9)
    | (go_at_call 8; (with_reducible refine (hO _ w4 gf (unhide D4) (unhide U4)).mono ?_); rintro e w5 ⟨⟨gj, q5, c5, rfl, o5, hgj, j5⟩, k5⟩; obtain ⟨B4, hB4⟩ : ∃ B4 : Nat → Prop, B4 = (· < w3.heap.size + 1) := ⟨_, rfl⟩; have K5 := hide ((unhide K4).trans (k5.mono (unhide M4))); have C5 : Hid (w5.heap[w.heap.size]? = some (.cells #[.int .i64 c.kind, .int .i64 c.id, .string c.text] 24 (0, 0))) := hide (((unhide K5).block _ (unhide L1) (unhide L1)).trans (unhide C1)); have J5 := hide j5; have O5 := hide o5; have U5 := hide ((unhide U4).trans k5.size); have HB4 := hide hB4; clear o5 j5 k5 hB4)
    | (go_at_call 10; refine (hlo _ w5 gf (unhide J5).disk).mono ?_; rintro e w5b ⟨rfl, b5⟩; have Jb := hide ((unhide J5).below b5); have Ob := hide ((unhide O5).below b5); have Ub := hide ((unhide U5).trans b5.size); have Kb := hide ((unhide K5).trans (Kpt.of b5)); have Cb := hide ((b5.block _ (Array.getElem?_eq_some_iff.1 (unhide C5)).1).trans (unhide C5)); obtain ⟨⟨v0, v1, v2⟩, _⟩ := cells3 (unhide Cb); obtain ⟨Z, hZ⟩ : ∃ Z, w5b.alloc (.cells #[.int .i64 c.kind, .int .i64 c.id, .string c.text] 24) = Z := ⟨_, rfl⟩; have bZ : Below w5b.heap.size w5b Z := (by rw [← hZ]; exact (Below.refl _ _).alloc (Nat.le_refl _) _); have slZ : SlOf encC 3 Z (some ⟨w5b.heap.size, 0, none⟩) 1 [c] := (by rw [← hZ]; exact hso w5b); have jZ : JrAt (PlusRow B4 q5) Z gj gf (onJ ⟨b, b.length⟩ a) ⟨0, L, b.length, 0⟩ := (by rw [unhide HB4]; exact ((unhide Jb).more (fun i hi => by rcases hi with h | ⟨p, hp, rfl⟩; exact Or.inl h; obtain ⟨_, cur, hc⟩ := own_cellsG (unhide Ob) hp; exact Or.inr (Or.inr ⟨cur, 24, hc, by decide, by decide, by decide, by decide⟩))).below bZ); have uZ : Sub (PlusRow B4 q5) Z := (by rw [unhide HB4]; exact ((unhide Ub).with_row (unhide Ob)).trans bZ.size); have oZ := (unhide Ob).below bZ; have JZ := hide jZ; have UZ := hide uZ; have OZ := hide oZ; have SLZ := hide slZ; have KZ := hide ((unhide Kb).trans (Kpt.of bZ)); clear b5 bZ slZ jZ uZ oZ)
    | (go_at_call 11; refine (hco w5b gj _ (unhide Jb).box).mono ?_; rintro e wa ⟨rfl, hwa⟩; obtain rfl := hwa.symm)
    | (go_at_call 12; refine (hpe w5b gj _ (unhide Jb).box).mono ?_; rintro e wa ⟨rfl, hwa⟩; obtain rfl := hwa.symm)
    | (go_at_call 13; refine (hap _ Z gj _ _ (unhide JZ) (unhide UZ) (unhide SLZ)).mono ?_; rintro e w6 ⟨rfl, j6, k6⟩; have J6 := hide j6; have U6 := hide ((unhide UZ).trans k6.size); have O6 := hide (own_kept (unhide OZ) k6); have K6 := hide k6; clear j6 k6)
    | (go_at_call 14; refine (hsy _ w6 gj _ (unhide J6) (unhide U6)).mono ?_; rintro e w7 ⟨rfl, j7, k7⟩; have J7 := hide j7; have E7 : Hid (JAt (PlusB (PlusRow B4 q5) gj) w7 gf _) := hide j7.disk; have U7' := hide ((unhide U6).trans k7.size); have U7 := hide ((unhide U7').plus j7.lt); have O7 := hide (own_kept (unhide O6) k7); have K7 := hide ((unhide K6).trans k7); have P7 : Hid (∀ p, q5 = some p → p.block < w7.heap.size) := hide (fun p hp => unhide U7' p.block (Or.inr ⟨p, hp, rfl⟩)); clear j7 k7))
  have hk19 : Kpt (· < w1.heap.size) w1 w9 := (unhide KZ).trans ((unhide K9).mono fun i hi => Or.inl (by rw [unhide HB4]; exact unhide M4 i hi))
  have hc9 : w9.heap[w.heap.size]? = some (.cells #[.int .i64 c.kind, .int .i64 c.id, .string c.text] 24 (0, 0)) := (hk19.block _ (unhide L1) (unhide L1)).trans (unhide C1)
  have HK19 := hide hk19
  have HC9 := hide hc9
  clear hk19 hc9
  obtain ⟨E1, hE⟩ : ∃ E1, w9.alloc (.cells #[] 24) = E1 := ⟨_, rfl⟩
  obtain ⟨F1, hF⟩ : ∃ F1, w9.alloc (.cells #[.int .i64 c.kind, .int .i64 c.id, .string c.text] 24) = F1 := ⟨_, rfl⟩
  obtain ⟨EF, hEF⟩ : ∃ EF, E1.alloc (.cells #[.int .i64 c.kind, .int .i64 c.id, .string c.text] 24) = EF := ⟨_, rfl⟩
  obtain ⟨FE, hFE⟩ : ∃ FE, F1.alloc (.cells #[] 24) = FE := ⟨_, rfl⟩
  have zE : E1.heap.size = w9.heap.size + 1 := by rw [← hE]; simp
  have zF : F1.heap.size = w9.heap.size + 1 := by rw [← hF]; simp
  have bE : Below w9.heap.size w9 E1 := by rw [← hE]; exact (Below.refl _ _).alloc (Nat.le_refl _) _
  have bF : Below w9.heap.size w9 F1 := by rw [← hF]; exact (Below.refl _ _).alloc (Nat.le_refl _) _
  have bEF0 : Below E1.heap.size E1 EF := by rw [← hEF]; exact (Below.refl _ _).alloc (Nat.le_refl _) _
  have bFE0 : Below F1.heap.size F1 FE := by rw [← hFE]; exact (Below.refl _ _).alloc (Nat.le_refl _) _
  have bEF := below_sub bE bEF0
  have bFE := below_sub bF bFE0
  have oE : OwnK encC 24 3 w9.heap.size E1 (some ⟨w9.heap.size, 0, none⟩) 0 [] := by rw [← hE]; exact OwnK.made _ _ (Nat.le_refl _)
  have oEF := oE.below bEF0
  have oFE : OwnK encC 24 3 w9.heap.size FE (some ⟨F1.heap.size, 0, none⟩) 0 [] := by rw [← hFE]; exact OwnK.made _ _ (by omega)
  have sEF : SrcK encC 3 EF (some ⟨E1.heap.size, 0, none⟩) 1 [c] := by rw [← hEF]; exact srcC _ _ _
  have sF : SrcK encC 3 F1 (some ⟨w9.heap.size, 0, none⟩) 1 [c] := by rw [← hF]; exact srcC _ _ _
  have kEF : EF.heap[E1.heap.size]? = some (.cells #[.int .i64 c.kind, .int .i64 c.id, .string c.text] 24 (0, 0)) := by rw [← hEF]; exact heap_alloc_new _ _
  have kFE : FE.heap[w9.heap.size]? = some (.cells #[.int .i64 c.kind, .int .i64 c.id, .string c.text] 24 (0, 0)) := (bFE0.block _ (by omega)).trans (by rw [← hF]; exact heap_alloc_new _ _)
  have hsr : ∀ (W : World) (g : Nat), W.heap[g]? = some (.cells #[.int .i64 c.kind, .int .i64 c.id, .string c.text] 24 (0, 0)) → SrcK encC 3 W (some ⟨g, 0, none⟩) 1 [c] := fun W g hg => by
    have : SlOf encC 3 W (some ⟨g, 0, none⟩) 1 [c] := by
      refine ⟨(fun h => by cases h), Nat.le_refl _, by unfold maxLen; omega, LsOf.one (Array.getElem?_eq_some_iff.1 hg).1 fun k hk => ?_⟩
      rw [cell_of_block hg]
      have hk' : k = 0 ∨ k = 1 ∨ k = 2 := by omega
      rcases hk' with rfl | rfl | rfl <;> rfl
    exact this.src
  have hl9 := unhide O9
  have OE := hide (oE.below (Below.refl _ _).drew)
  have OEF := hide (oEF.below (Below.refl _ _).drew)
  have OFE := hide (oFE.below (Below.refl _ _).drew)
  have SE := hide ((hl9.below bE).below (Below.refl _ _).drew).ls.src
  have SEF := hide ((hl9.below bEF).below (Below.refl _ _).drew).ls.src
  have SFE := hide ((hl9.below bFE).below (Below.refl _ _).drew).ls.src
  have BE := hide bE
  have BF := hide bF
  have BEF := hide bEF
  have BFE := hide bFE
  have KEF := hide kEF
  have KFE := hide kFE
  have HSR := hide hsr
  have ZE := hide zE
  have ZF := hide zF
  have hzEF := (show w9.heap.size ≤ EF.heap.size from bEF.size)
  have hzFE := (show w9.heap.size ≤ FE.heap.size from bFE.size)
  have hzE1 := (show w9.heap.size ≤ E1.heap.size from bE.size)
  have ZEF := hide hzEF
  have ZFE := hide hzFE
  have ZE1 := hide hzE1
  have hks : ∀ W, Below w9.heap.size w9 W → (W.cell? ⟨w.heap.size, 0, none⟩ = some (.int .i64 c.kind) ∧ W.cell? ⟨w.heap.size, 1, none⟩ = some (.int .i64 c.id)) ∧ W.cell? ⟨w.heap.size, 2, none⟩ = some (.string c.text) := fun W hW => by
    have h9 := (hW.block _ (Array.getElem?_eq_some_iff.1 (unhide HC9)).1).trans (unhide HC9)
    obtain ⟨⟨x0, x1, x2⟩, _⟩ := cells3 h9
    exact ⟨⟨x0, x1⟩, x2⟩
  have HKS := hide hks
  obtain ⟨⟨m0, m1⟩, m2⟩ := hks w9 (Below.refl _ _)
  clear zE zF bE bF bEF0 bFE0 bEF bFE oE oEF oFE sEF sF hks kEF kFE hsr hl9 hzEF hzFE hzE1 v0 v1 v2
  go_region_held3 (fun W => (W.cell? ⟨w.heap.size, 0, none⟩ = some (.int .i64 c.kind) ∧ W.cell? ⟨w.heap.size, 1, none⟩ = some (.int .i64 c.id)) ∧ W.cell? ⟨w.heap.size, 2, none⟩ = some (.string c.text))
    (first | exact unhide HKS _ (unhide BR) | exact unhide HKS _ (unhide BR).drew | exact unhide HKS _ (unhide BQ) | exact unhide HKS _ (unhide BQ).drew | exact unhide HKS _ (unhide BPF) | exact unhide HKS _ (unhide BPF).drew | exact unhide HKS _ (unhide BP) | exact unhide HKS _ (unhide BP).drew | exact unhide HKS _ (unhide BE) | exact unhide HKS _ (unhide BF) | exact unhide HKS _ (unhide BEF) | exact unhide HKS _ (unhide BFE) | exact unhide HKS _ (unhide BE).drew | exact unhide HKS _ (unhide BF).drew | exact unhide HKS _ (unhide BEF).drew | exact unhide HKS _ (unhide BFE).drew | exact unhide HKS _ (Below.refl _ _).drew | exact unhide HKS _ (Below.refl _ _))
    ((first
      | (refine step_app rowC (by rfl) (.tmp 132) (.tmp 133) (by rfl) w9.heap.size (some ⟨w9.heap.size, 0, none⟩) 0 [] q5 c5 K 0 L L rfl (unhide HL) (Nat.zero_add L) (by rfl) (by rfl) (unhide OE) (unhide SE) (by unfold maxLen; omega) (by omega) (unhide ZE1) ?_; intro qP cP wP oP bP _ gP; have bP' := (unhide BE).drew.trans bP; have BP := hide bP'; obtain ⟨PF, hPF⟩ : ∃ PF, wP.alloc (.cells #[.int .i64 c.kind, .int .i64 c.id, .string c.text] 24) = PF := ⟨_, rfl⟩; have bPF : Below w9.heap.size w9 PF := (by rw [← hPF]; exact bP'.alloc bP'.size _); have oPF : OwnK encC 24 3 w9.heap.size PF qP cP ([] ++ K) := (by rw [← hPF]; exact oP.below ((Below.refl _ _).alloc (Nat.le_refl _) _)); have kPF : PF.heap[wP.heap.size]? = some (.cells #[.int .i64 c.kind, .int .i64 c.id, .string c.text] 24 (0, 0)) := (by rw [← hPF]; exact heap_alloc_new _ _); have BPF := hide bPF; have OPF := hide oPF; have OPFd := hide (oPF.below (Below.refl _ _).drew); have SPF := hide (unhide HSR PF _ kPF); have SPFd := hide (unhide HSR PF.drew _ kPF); clear oP bP gP bP' bPF oPF kPF)
      | (refine step_app rowC (by rfl) (.tmp 132) (.tmp 133) (by rfl) w9.heap.size (some ⟨w9.heap.size, 0, none⟩) 0 [] q5 c5 K 0 L L rfl (unhide HL) (Nat.zero_add L) (by rfl) (by rfl) (unhide OEF) (unhide SEF) (by unfold maxLen; omega) (by omega) (unhide ZEF) ?_; intro qP cP wP oP bP _ gP; have bP' := (unhide BEF).drew.trans bP; have gP' : EF.drew.grownBy wP (some w9.heap.size) := gP; have kP := (gP'.block E1.heap.size (Array.getElem?_eq_some_iff.1 (unhide KEF)).1 (by have := unhide ZE; intro e; injection e with e; omega)).trans (unhide KEF); have BP := hide bP'; have BPF := hide bP'; have OPF := hide oP; have OPFd := hide (oP.below (Below.refl _ _).drew); have SPF := hide (unhide HSR wP _ kP); have SPFd := hide (unhide HSR wP.drew _ kP); clear oP bP bP' gP gP' kP)
      | (refine step_app rowC (by rfl) (.tmp 132) (.tmp 133) (by rfl) w9.heap.size (some ⟨F1.heap.size, 0, none⟩) 0 [] q5 c5 K 0 L L rfl (unhide HL) (Nat.zero_add L) (by rfl) (by rfl) (unhide OFE) (unhide SFE) (by unfold maxLen; omega) (by omega) (unhide ZFE) ?_; intro qP cP wP oP bP _ gP; have bP' := (unhide BFE).drew.trans bP; have gP' : FE.drew.grownBy wP (some F1.heap.size) := gP; have kP := (gP'.block w9.heap.size (Array.getElem?_eq_some_iff.1 (unhide KFE)).1 (by have := unhide ZF; intro e; injection e with e; omega)).trans (unhide KFE); have BP := hide bP'; have BPF := hide bP'; have OPF := hide oP; have OPFd := hide (oP.below (Below.refl _ _).drew); have SPF := hide (unhide HSR wP _ kP); have SPFd := hide (unhide HSR wP.drew _ kP); clear oP bP bP' gP gP' kP)
      | (refine step_app rowC (by rfl) (.tmp 134) (.tmp 136) (by rfl) w9.heap.size qP cP ([] ++ K) (some ⟨wP.heap.size, 0, none⟩) 1 [c] L 1 L2 (unhide HL) rfl (unhide HLL) (by rfl) (by rfl) (by first | exact unhide OPF | exact unhide OPFd) (by first | exact unhide SPF | exact unhide SPFd) (by unfold maxLen; omega) (by omega) (by first | exact (unhide BPF).size | exact (unhide BPF).drew.size) ?_; intro qQ cQ wQ oQ bQ _ _; have OQ : Hid (OwnK encC 24 3 w9.heap.size wQ qQ cQ Kx) := hide (by rw [← unhide HKx]; exact oQ); have BQ : Hid (Below w9.heap.size w9 wQ) := hide (by first | exact (unhide BPF).trans bQ | exact (unhide BPF).drew.trans bQ); have MQ : Hid (OwnK encC 24 3 w8.heap.size wQ q9 c9 Kx) := hide ((unhide M9).below (unhide BQ)); clear oQ bQ)
      | (refine step_app rowC (by rfl) (.tmp 134) (.tmp 136) (by rfl) w9.heap.size qP cP ([] ++ K) (some ⟨E1.heap.size, 0, none⟩) 1 [c] L 1 L2 (unhide HL) rfl (unhide HLL) (by rfl) (by rfl) (by first | exact unhide OPF | exact unhide OPFd) (by first | exact unhide SPF | exact unhide SPFd) (by unfold maxLen; omega) (by omega) (by first | exact (unhide BPF).size | exact (unhide BPF).drew.size) ?_; intro qQ cQ wQ oQ bQ _ _; have OQ : Hid (OwnK encC 24 3 w9.heap.size wQ qQ cQ Kx) := hide (by rw [← unhide HKx]; exact oQ); have BQ : Hid (Below w9.heap.size w9 wQ) := hide (by first | exact (unhide BPF).trans bQ | exact (unhide BPF).drew.trans bQ); have MQ : Hid (OwnK encC 24 3 w8.heap.size wQ q9 c9 Kx) := hide ((unhide M9).below (unhide BQ)); clear oQ bQ)
      | (refine step_app rowC (by rfl) (.tmp 134) (.tmp 136) (by rfl) w9.heap.size qP cP ([] ++ K) (some ⟨w9.heap.size, 0, none⟩) 1 [c] L 1 L2 (unhide HL) rfl (unhide HLL) (by rfl) (by rfl) (by first | exact unhide OPF | exact unhide OPFd) (by first | exact unhide SPF | exact unhide SPFd) (by unfold maxLen; omega) (by omega) (by first | exact (unhide BPF).size | exact (unhide BPF).drew.size) ?_; intro qQ cQ wQ oQ bQ _ _; have OQ : Hid (OwnK encC 24 3 w9.heap.size wQ qQ cQ Kx) := hide (by rw [← unhide HKx]; exact oQ); have BQ : Hid (Below w9.heap.size w9 wQ) := hide (by first | exact (unhide BPF).trans bQ | exact (unhide BPF).drew.trans bQ); have MQ : Hid (OwnK encC 24 3 w8.heap.size wQ q9 c9 Kx) := hide ((unhide M9).below (unhide BQ)); clear oQ bQ)
      | (go_at_call 15; refine (hsa q9 qQ c9 cQ wQ (unhide MQ).ls (unhide OQ).ls).mono ?_; rintro e wR ⟨rfl, bR⟩; have BR : Hid (Below w9.heap.size w9 wR) := hide ((unhide BQ).trans (bR.mono (unhide BQ).size)); clear bR)))
  all_goals
    go_wp2
    go_ret
    have hk := (unhide HK19).trans (Kpt.of (unhide BR))
    exact ⟨rfl, (unhide B1).trans (hk.below fun i hi => ⟨Nat.lt_of_lt_of_le hi (unhide B1).size, Nat.lt_of_lt_of_le hi (unhide B1).size⟩)⟩
theorem opens_law (q0 : Option Addr) (k0 : Nat) (data : List UInt8) (ch : Int) (c : Ch) (w : World) (s0 : SlOf encB 1 w q0 k0 data) (l0 : data.length ≤ 4000000) :
    Calls Try.prog 3 #[.slice q0 data.length k0, .int .i64 ch, .agg #[.int .i64 c.kind, .int .i64 c.id, .string c.text]] w fun e w' => e = .returned (.bool true) ∧ Below w.heap.size w w' := by
  by_cases he : scE data = 0
  · by_cases hc : MayB c
    · exact opens_more q0 k0 data ch c w s0 l0 he hc
    · exact opens_form q0 k0 data ch c w s0 l0 he hc
  · exact opens_head q0 k0 data ch c w s0 l0 he
end Go.Proofs.Ytfigjfmldpfjkaa

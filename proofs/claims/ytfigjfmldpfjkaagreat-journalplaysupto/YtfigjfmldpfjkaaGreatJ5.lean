/- journal.Open. -/
import Derived.Test.YtfigjfmldpfjkaaGreatJ4
namespace Go.Proofs.YtfigjfmldpfjkaaGreat
open Go.RowKit Go.Sort Go.Shelf

/-- What a journal keeps in mind. -/
structure JX where
  failed : Int
  cnt : Nat
  bytes : Nat
  pend : Nat
def BoxJ (w : World) (gj g : Nat) (x : JX) : Prop := w.heap[gj]? = some (.cells #[.pointer (some ⟨g, 0, none⟩), .int .i64 x.failed, .int .i64 (x.cnt : Int), .int .i64 (x.bytes : Int), .int .i64 (x.pend : Int)] 68 (0, 0))
/-- A journal in memory, over its disk. -/
structure JrAt (B : Nat → Prop) (w : World) (gj g : Nat) (s : JS) (x : JX) : Prop where
  box : BoxJ w gj g x
  nb : ¬ B gj
  disk : JAt (fun i => B i ∨ i = gj) w g s
theorem JrAt.lt {B : Nat → Prop} {w : World} {gj g : Nat} {s : JS} {x : JX} (h : JrAt B w gj g s x) : gj < w.heap.size := (Array.getElem?_eq_some_iff.1 h.box).1
theorem JrAt.below {B : Nat → Prop} {w w' : World} {gj g : Nat} {s : JS} {x : JX} (h : JrAt B w gj g s x) (hb : Below w.heap.size w w') : JrAt B w' gj g s x := ⟨(hb.block gj h.lt).trans h.box, h.nb, h.disk.below hb⟩
theorem JrAt.more {B B' : Nat → Prop} {w : World} {gj g : Nat} {s : JS} {x : JX} (h : JrAt B w gj g s x) (hB : ∀ i, B' i → B i ∨ w.heap.size ≤ i ∨ ∃ cur t, w.heap[i]? = some (.cells cur t (0, 0)) ∧ t ≠ 68 ∧ t ≠ 51 ∧ t ≠ 118 ∧ t ≠ 5) : JrAt B' w gj g s x := by
  refine ⟨h.box, fun hb => ?_, h.disk.more fun i hi => ?_⟩
  · rcases hB gj hb with h1 | h1 | ⟨cur, t, h1, h2, _⟩
    · exact h.nb h1
    · have := h.lt; omega
    · have h3 : w.heap[gj]? = _ := h.box
      rw [h3] at h1; injection h1 with h1; injection h1 with _ h1; exact h2 h1.symm
  · rcases hi with hi | hi
    · rcases hB i hi with h1 | h1 | ⟨cur, t, h1, h2, h3⟩
      · exact Or.inl (Or.inl h1)
      · exact Or.inr (Or.inl h1)
      · exact Or.inr (Or.inr ⟨cur, t, h1, h3⟩)
    · exact Or.inl (Or.inr hi)
def openM (s : JS) : Int × JS := if s.off = true then (40, s) else if (disM s).1 ≠ 0 then disM s else mendM (disM s).2
theorem open_off {s : JS} (h : s.off = true) : openM s = (40, s) := if_pos h
theorem open_dis {s : JS} (h : s.off = false) (h2 : (disM s).1 ≠ 0) : openM s = disM s := (if_neg (by rw [h]; decide)).trans (if_pos h2)
theorem open_mend {s : JS} (h : s.off = false) (h2 : (disM s).1 = 0) : openM s = mendM (disM s).2 := (if_neg (by rw [h]; decide)).trans (if_neg (fun h9 => h9 h2))
theorem dis_acts (s : JS) : (disM s).2.acts ≤ s.acts + 1 := by
  unfold disM
  split
  · exact Nat.le_succ _
  · exact remR_acts s
theorem dis_j (s : JS) : (disM s).2.j = s.j := by
  unfold disM
  split
  · rfl
  · unfold remR
    split
    · rfl
    · split
      · rfl
      · split <;> rfl
theorem dis_off {s : JS} (h : s.off = false) (h2 : (disM s).1 = 0) : (disM s).2.off = false := by
  cases hf : s.f with
  | none => simp only [disM, hf]; exact h
  | some fl =>
    have e : disM s = remR s := by unfold disM; rw [hf]
    rw [e] at h2 ⊢
    by_cases h1 : s.named = 1
    · rw [remR_down h hf h1] at h2; cases h2
    · rw [remR_yes h hf h1]; exact h
theorem dis_f {s : JS} (h : s.off = false) (h2 : (disM s).1 = 0) : (disM s).2.f = none := by
  cases hf : s.f with
  | none => simp only [disM, hf]
  | some fl =>
    have e : disM s = remR s := by unfold disM; rw [hf]
    rw [e] at h2 ⊢
    by_cases h1 : s.named = 1
    · rw [remR_down h hf h1] at h2; cases h2
    · rw [remR_yes h hf h1]
theorem stB_j {s s' : JS} (h : s.j = s'.j) : stB s = stB s' := by unfold stB; rw [h]
theorem opens_off {B : Nat → Prop} {w : World} {g : Nat} {s : JS} (hd : JAt B w g s) (ho : s.off = true) :
    Calls Tryz.prog 7 #[.pointer (some ⟨g, 0, none⟩)] w fun e w' => e = .returned (.tuple #[.pointer none, .int .i64 0, .slice none 0 0, .int .i64 40]) ∧ w' = w := by
  obtain ⟨n, hn, hd⟩ := hd
  have hof := off_any hd
  rw [show (s.dk n).off = true from ho] at hof
  clear hd
  go_enter Tryz.func7, Tryz.ntmps7
  go_wp2_with (go_at_call 14; refine hof.mono ?_; rintro e w1 ⟨rfl, hw1⟩; obtain rfl := hw1.symm)
  refine bodyPost_ret (v := .tuple #[.pointer none, .int .i64 0, .slice none 0 0, .int .i64 40]) (by simp [results, Tryz.f7, go_sem]) rfl ?_
  exact ⟨rfl, rfl⟩
theorem offJ_any {B : Nat → Prop} {w : World} {g : Nat} {s : JS} (hd : JAt B w g s) : Calls Tryz.prog 14 #[.pointer (some ⟨g, 0, none⟩)] w fun e w' => e = .returned (.bool s.off) ∧ w' = w := by
  obtain ⟨n, hn, hd⟩ := hd
  exact off_any hd
set_option maxHeartbeats 1000000 in
set_option maxRecDepth 100000 in
theorem opens_dis {B : Nat → Prop} {w : World} {g : Nat} {s : JS} (hd : JAt B w g s) (hB : Sub B w) (ha : s.acts ≤ 99999980) (ho : s.off = false) (he : (disM s).1 ≠ 0) :
    Calls Tryz.prog 7 #[.pointer (some ⟨g, 0, none⟩)] w fun e w' => e = .returned (.tuple #[.pointer none, .int .i64 0, .slice none 0 0, .int .i64 (openM s).1]) ∧ JAt B w' g (openM s).2 ∧ Kpt B w w' := by
  rw [open_dis ho he]
  have hof := offJ_any hd
  rw [ho] at hof
  have hdi := discard_any hd hB (by omega) ho
  obtain ⟨E, S, hR⟩ : ∃ E S, disM s = (E, S) := ⟨_, _, rfl⟩
  rw [hR] at hdi he ⊢
  have hE : (E == 0) = false := beq_eq_false_iff_ne.2 he
  clear hd hB he hR
  go_enter Tryz.func7, Tryz.ntmps7
  go_wp2_with (first
    | (go_at_call 14; refine hof.mono ?_; rintro e w1 ⟨rfl, hw1⟩; obtain rfl := hw1.symm)
    | (go_at_call 23; refine hdi.mono ?_; rintro e w2 ⟨rfl, d2, k2⟩; have D2 := hide d2; have K2 := hide k2; clear d2 k2))
  refine bodyPost_ret (v := .tuple #[.pointer none, .int .i64 0, .slice none 0 0, .int .i64 E]) (by simp [results, Tryz.f7, go_sem]) rfl ?_
  exact ⟨rfl, unhide D2, unhide K2⟩
set_option maxHeartbeats 1000000 in
set_option maxRecDepth 100000 in
theorem opens_bad {B : Nat → Prop} {w : World} {g : Nat} {s : JS} (hd : JAt B w g s) (hB : Sub B w) (ha : s.acts ≤ 99999980) (ho : s.off = false) (h0 : (disM s).1 = 0) (hl : szO s.j ≤ 140737488355328) (hz : (stB s).length ≤ 4000000000000) (he : scE (stB s) ≠ 0) :
    Calls Tryz.prog 7 #[.pointer (some ⟨g, 0, none⟩)] w fun e w' => e = .returned (.tuple #[.pointer none, .int .i64 0, .slice none 0 0, .int .i64 (openM s).1]) ∧ JAt B w' g (openM s).2 ∧ Kpt B w w' := by
  have hst : stB (disM s).2 = stB s := stB_j (dis_j s)
  rw [open_mend ho h0, mend_bad (by rw [hst]; exact he), hst]
  have hof := offJ_any hd
  rw [ho] at hof
  have hdi := discard_any hd hB (by omega) ho
  have hac := dis_acts s
  have hoff := dis_off ho h0
  have hj := dis_j s
  have hme := fun (W : World) (hW : JAt B W g (disM s).2) => mend_no hW (by omega) hoff (by rw [hj]; exact hl) (by rw [hst]; exact hz) (by rw [hst]; exact he)
  simp only [hst] at hme
  rw [h0] at hdi
  generalize (disM s).2 = S at *
  generalize scE (stB s) = E at *
  have hE : (E == 0) = false := beq_eq_false_iff_ne.2 he
  clear hd hB he hst hj h0 hz hl
  go_enter Tryz.func7, Tryz.ntmps7
  go_wp2_with (first
    | (go_at_call 14; refine hof.mono ?_; rintro e w1 ⟨rfl, hw1⟩; obtain rfl := hw1.symm)
    | (go_at_call 23; refine hdi.mono ?_; rintro e w2 ⟨rfl, d2, k2⟩; have D2 := hide d2; have K2 := hide k2; clear d2 k2)
    | (go_at_call 24; refine (hme w2 (unhide D2)).mono ?_; rintro e w3 ⟨rfl, b3⟩; have D3 := hide ((unhide D2).below b3); have K3 := hide ((unhide K2).trans (Kpt.of b3)); clear b3))
  refine bodyPost_ret (v := .tuple #[.pointer none, .int .i64 0, .slice none 0 0, .int .i64 E]) (by simp [results, Tryz.f7, go_sem]) rfl ?_
  exact ⟨rfl, unhide D3, unhide K3⟩
set_option maxHeartbeats 1000000 in
set_option maxRecDepth 100000 in
theorem opens_down {B : Nat → Prop} {w : World} {g : Nat} {s : JS} (hd : JAt B w g s) (hB : Sub B w) (ha : s.acts ≤ 99999980) (ho : s.off = false) (h0 : (disM s).1 = 0) (hl : szO s.j ≤ 140737488355328) (hz : (stB s).length ≤ 4000000000000) (he0 : scE (stB s) = 0) (he : (openM s).1 ≠ 0) :
    Calls Tryz.prog 7 #[.pointer (some ⟨g, 0, none⟩)] w fun e w' => e = .returned (.tuple #[.pointer none, .int .i64 0, .slice none 0 0, .int .i64 (openM s).1]) ∧ JAt B w' g (openM s).2 ∧ Kpt B w w' := by
  have hst : stB (disM s).2 = stB s := stB_j (dis_j s)
  rw [open_mend ho h0] at he ⊢
  have hof := offJ_any hd
  rw [ho] at hof
  have hdi := discard_any hd hB (by omega) ho
  have hac := dis_acts s
  have hoff := dis_off ho h0
  have hj := dis_j s
  have hf0 := dis_f ho h0
  have hme := fun (W : World) (hW : JAt B W g (disM s).2) (hBW : Sub B W) => mend_yes hW hBW (by omega) hoff (by rw [hj]; exact hl) (by rw [hf0, hst]; simp only [szO]; omega) (by rw [hst]; exact hz) (by rw [hst]; exact he0)
  simp only [hst] at hme
  rw [h0] at hdi
  obtain ⟨E, S9, hR⟩ : ∃ E S9, mendM (disM s).2 = (E, S9) := ⟨_, _, rfl⟩
  simp only [hR] at hme
  rw [hR] at he ⊢
  generalize (disM s).2 = S at *
  generalize scN (stB s) = X at *
  generalize scC (stB s) = K at *
  generalize scL (stB s) = L at *
  have hE : (E == 0) = false := beq_eq_false_iff_ne.2 he
  have HB := hide hB
  clear hd hB he hst hj h0 hz hl hR hf0
  go_enter Tryz.func7, Tryz.ntmps7
  go_wp2_with (first
    | (go_at_call 14; refine hof.mono ?_; rintro e w1 ⟨rfl, hw1⟩; obtain rfl := hw1.symm)
    | (go_at_call 23; refine hdi.mono ?_; rintro e w2 ⟨rfl, d2, k2⟩; have D2 := hide d2; have K2 := hide k2; clear d2 k2)
    | (go_at_call 24; refine (hme w2 (unhide D2) ((unhide HB).trans (unhide K2).size)).mono ?_; rintro e w3 ⟨⟨q3, c3, rfl, o3⟩, d3, k3⟩; have D3 := hide d3; have K3 := hide ((unhide K2).trans k3); clear o3 d3 k3))
  refine bodyPost_ret (v := .tuple #[.pointer none, .int .i64 0, .slice none 0 0, .int .i64 E]) (by simp [results, Tryz.f7, go_sem]) rfl ?_
  exact ⟨rfl, unhide D3, unhide K3⟩
/-- An Open that is refused, whatever the ground. -/
theorem opens_no {B : Nat → Prop} {w : World} {g : Nat} {s : JS} (hd : JAt B w g s) (hB : Sub B w) (ha : s.acts ≤ 99999980) (hl : szO s.j ≤ 140737488355328) (hz : (stB s).length ≤ 4000000000000) (he : (openM s).1 ≠ 0) :
    Calls Tryz.prog 7 #[.pointer (some ⟨g, 0, none⟩)] w fun e w' => e = .returned (.tuple #[.pointer none, .int .i64 0, .slice none 0 0, .int .i64 (openM s).1]) ∧ JAt B w' g (openM s).2 ∧ Kpt B w w' := by
  cases ho : s.off with
  | true =>
    rw [open_off ho]
    exact (opens_off hd ho).mono (by rintro e w' ⟨h1, rfl⟩; exact ⟨h1, hd, Kpt.refl _ _⟩)
  | false =>
    by_cases h0 : (disM s).1 = 0
    · by_cases h1 : scE (stB s) = 0
      · exact opens_down hd hB ha ho h0 hl hz h1 he
      · exact opens_bad hd hB ha ho h0 hl hz h1
    · exact opens_dis hd hB ha ho h0
/-- An Open that is answered OK: what it is over. -/
theorem open_ok {s : JS} (h : (openM s).1 = 0) : s.off = false ∧ (disM s).1 = 0 ∧ scE (stB s) = 0 ∧ openM s = mendM (disM s).2 := by
  cases ho : s.off with
  | true => rw [open_off ho] at h; cases h
  | false =>
    by_cases h0 : (disM s).1 = 0
    · refine ⟨rfl, h0, ?_, open_mend ho h0⟩
      rw [open_mend ho h0] at h
      by_cases h1 : scE (stB (disM s).2) = 0
      · rw [← stB_j (dis_j s)]; exact h1
      · rw [mend_bad h1] at h; exact absurd h h1
    · rw [open_dis ho h0] at h; exact absurd h h0
set_option maxHeartbeats 2000000 in
set_option maxRecDepth 100000 in
theorem opens_yes {B : Nat → Prop} {w : World} {g : Nat} {s : JS} (hd : JAt B w g s) (hB : Sub B w) (ha : s.acts ≤ 99999980) (hl : szO s.j ≤ 140737488355328) (hz : (stB s).length ≤ 4000000000000) (he : (openM s).1 = 0) :
    Calls Tryz.prog 7 #[.pointer (some ⟨g, 0, none⟩)] w fun e w' => (∃ gj q c, e = .returned (.tuple #[.pointer (some ⟨gj, 0, none⟩), .int .i64 (nextN (scN (stB s)) (scC (stB s))), .slice q (scC (stB s)).length c, .int .i64 0]) ∧ OwnK encC 63 3 w.heap.size w' q c (scC (stB s)) ∧ w.heap.size ≤ gj ∧ JrAt B w' gj g (openM s).2 ⟨0, (scC (stB s)).length, scL (stB s), 0⟩) ∧ Kpt B w w' := by
  obtain ⟨ho, h0, he0, hop⟩ := open_ok he
  have hst : stB (disM s).2 = stB s := stB_j (dis_j s)
  rw [hop] at he ⊢
  have hof := offJ_any hd
  rw [ho] at hof
  have hdi := discard_any hd hB (by omega) ho
  have hac := dis_acts s
  have hoff := dis_off ho h0
  have hj := dis_j s
  have hf0 := dis_f ho h0
  have hme := fun (W : World) (hW : JAt B W g (disM s).2) (hBW : Sub B W) => mend_yes hW hBW (by omega) hoff (by rw [hj]; exact hl) (by rw [hf0, hst]; simp only [szO]; omega) (by rw [hst]; exact hz) (by rw [hst]; exact he0)
  simp only [hst] at hme
  rw [h0] at hdi
  obtain ⟨E, S9, hR⟩ : ∃ E S9, mendM (disM s).2 = (E, S9) := ⟨_, _, rfl⟩
  simp only [hR] at hme
  rw [hR] at he ⊢
  obtain rfl : E = 0 := he
  have hmay : ∀ c ∈ scC (stB s), MayB c := by obtain ⟨_, _, _, _, h, _⟩ := sc_back he0; exact h
  have hkl : (scC (stB s)).length ≤ 4000000000000 := by
    obtain ⟨_, _, _, _, _, h5, r, h6⟩ := sc_back he0
    have h7 := congrArg List.length h6
    have h8 : (scC (stB s)).length ≤ (encs (scC (stB s))).length := by
      generalize scC (stB s) = l
      induction l with
      | nil => exact Nat.zero_le _
      | cons c l ih => rw [encs_cons, List.length_append, List.length_cons]; have := one_len8 c; omega
    rw [List.length_append, List.length_append] at h7
    omega
  generalize (disM s).2 = S at *
  generalize scN (stB s) = X at *
  generalize scC (stB s) = K at *
  generalize scL (stB s) = L at *
  have hnx := fun (q : Option Addr) (c : Nat) (W : World) (hW : SlOf encC 3 W q c K) => next_num X q c K W hW hkl hmay
  have HB := hide hB
  have HKL := hide hkl
  clear hd hB hst hj h0 hz hl hR hf0 hmay hkl he0 hop
  go_enter Tryz.func7, Tryz.ntmps7
  go_wp2_with (first
    | (go_at_call 14; refine hof.mono ?_; rintro e w1 ⟨rfl, hw1⟩; obtain rfl := hw1.symm)
    | (go_at_call 23; refine hdi.mono ?_; rintro e w2 ⟨rfl, d2, k2⟩; have D2 := hide d2; have K2 := hide k2; clear d2 k2)
    | (go_at_call 24; refine (hme w2 (unhide D2) ((unhide HB).trans (unhide K2).size)).mono ?_; rintro e w3 ⟨⟨q3, c3, rfl, o3⟩, d3, k3⟩; have O3 := hide (o3.mono (unhide K2).size); have D3 := hide d3; have K3 := hide ((unhide K2).trans k3); obtain ⟨Y, hY⟩ : ∃ Y, w3.alloc (.cells #[.pointer (some ⟨g, 0, none⟩), .int .i64 0, .int .i64 (K.length : Int), .int .i64 (L : Int), .int .i64 0] 68) = Y := ⟨_, rfl⟩; have bY : Below w3.heap.size w3 Y := (by rw [← hY]; exact (Below.refl _ _).alloc (Nat.le_refl _) _); have kY : Y.heap[w3.heap.size]? = some (.cells #[.pointer (some ⟨g, 0, none⟩), .int .i64 0, .int .i64 (K.length : Int), .int .i64 (L : Int), .int .i64 0] 68 (0, 0)) := (by rw [← hY]; exact heap_alloc_new _ _); have BY := hide bY; have KY := hide kY; have OY := hide ((unhide O3).below bY); clear o3 d3 k3 bY kY)
    | (go_at_call 25; refine (hnx q3 c3 Y (unhide OY).ls).mono ?_; rintro e w4 ⟨rfl, b4⟩; have B4 := hide b4; clear b4))
  refine bodyPost_ret (v := .tuple #[.pointer (some ⟨w3.heap.size, 0, none⟩), .int .i64 (nextN X K), .slice q3 K.length c3, .int .i64 0]) (by simp [results, Tryz.f7, go_sem]) rfl ?_
  have b34 := below_sub (unhide BY) (unhide B4)
  have hlt : w3.heap.size < Y.heap.size := (Array.getElem?_eq_some_iff.1 (unhide KY)).1
  refine ⟨⟨w3.heap.size, q3, c3, rfl, (unhide OY).below (unhide B4), (unhide K3).size, ?_, ?_, ?_⟩, (unhide K3).trans (Kpt.of b34)⟩
  · exact ((unhide B4).block _ hlt).trans (unhide KY)
  · intro hb; have := unhide HB _ hb; have := (unhide K3).size; omega
  · exact ((unhide D3).more fun i hi => by rcases hi with h | h; exact Or.inl h; exact Or.inr (Or.inl (by omega))).below b34
end Go.Proofs.YtfigjfmldpfjkaaGreat

/- journal.writeAnew. -/
import Derived.Test.YtfigjfmldpfjkaaGreatJ2
namespace Go.Proofs.YtfigjfmldpfjkaaGreat
open Go.RowKit Go.Sort Go.Shelf

theorem wa1 {B : Nat → Prop} {w : World} {g : Nat} {s : JS} (hd : JAt B w g s) (hB : Sub B w) (ha : s.acts ≤ 100000000) (b1 b2 : Nat) (p : Option Addr) (k : Nat) (data : List UInt8) (hdt : SlOf encB 1 w p k data) (hl : szO s.f + data.length ≤ 140737488355328)
    (c1 : w.cell? ⟨b1, 0, none⟩ = some (.pointer (some ⟨g, 0, none⟩))) (c2 : w.cell? ⟨b2, 0, none⟩ = some (.slice p data.length k)) :
    Calls Tryz.prog 72 #[.pointer (some ⟨b1, 0, none⟩), .pointer (some ⟨b2, 0, none⟩)] w fun e w' => e = .returned (.int .i64 (appR s data).1) ∧ JAt B w' g (appR s data).2 ∧ Kpt B w w' := by
  have h := appR_any hd hB ha p k data hdt hl
  obtain ⟨E, S, hES⟩ : ∃ E S, appR s data = (E, S) := ⟨_, _, rfl⟩
  rw [hES] at h ⊢
  clear hd hB hES hdt hl
  go_enter Tryz.func72, Tryz.ntmps72
  go_wp2_with (go_at_call 29; refine h.mono ?_; rintro e w1 ⟨rfl, d1, b1'⟩; have D1 := hide d1; have B1 := hide b1'; clear d1 b1')
  go_ret
  exact ⟨rfl, unhide D1, unhide B1⟩
theorem wa2 {B : Nat → Prop} {w : World} {g : Nat} {s : JS} (hd : JAt B w g s) (hB : Sub B w) (ha : s.acts ≤ 100000000) (b1 : Nat)
    (c1 : w.cell? ⟨b1, 0, none⟩ = some (.pointer (some ⟨g, 0, none⟩))) :
    Calls Tryz.prog 73 #[.pointer (some ⟨b1, 0, none⟩)] w fun e w' => e = .returned (.int .i64 (synR s).1) ∧ JAt B w' g (synR s).2 ∧ Kpt B w w' := by
  have h := synR_any hd hB ha
  obtain ⟨E, S, hES⟩ : ∃ E S, synR s = (E, S) := ⟨_, _, rfl⟩
  rw [hES] at h ⊢
  clear hd hB hES
  go_enter Tryz.func73, Tryz.ntmps73
  go_wp2_with (go_at_call 37; refine h.mono ?_; rintro e w1 ⟨rfl, d1, b1'⟩; have D1 := hide d1; have B1 := hide b1'; clear d1 b1')
  go_ret
  exact ⟨rfl, unhide D1, unhide B1⟩
theorem wa3 {B : Nat → Prop} {w : World} {g : Nat} {s : JS} (hd : JAt B w g s) (hB : Sub B w) (ha : s.acts ≤ 100000000) (b1 : Nat)
    (c1 : w.cell? ⟨b1, 0, none⟩ = some (.pointer (some ⟨g, 0, none⟩))) :
    Calls Tryz.prog 74 #[.pointer (some ⟨b1, 0, none⟩)] w fun e w' => e = .returned (.int .i64 (renM s).1) ∧ JAt B w' g (renM s).2 ∧ Kpt B w w' := by
  have h := renM_any hd hB ha
  obtain ⟨E, S, hES⟩ : ∃ E S, renM s = (E, S) := ⟨_, _, rfl⟩
  rw [hES] at h ⊢
  clear hd hB hES
  go_enter Tryz.func74, Tryz.ntmps74
  go_wp2_with (go_at_call 75; refine h.mono ?_; rintro e w1 ⟨rfl, d1, b1'⟩; have D1 := hide d1; have B1 := hide b1'; clear d1 b1')
  go_ret
  exact ⟨rfl, unhide D1, unhide B1⟩
def writeM (s : JS) (b : List UInt8) : Int × JS := if (appR s b).1 ≠ 0 then appR s b else if (synR (appR s b).2).1 ≠ 0 then synR (appR s b).2 else renM (synR (appR s b).2).2
theorem appR_acts (s : JS) (b : List UInt8) : (appR s b).2.acts ≤ s.acts + 1 := by
  unfold appR
  split
  · exact Nat.le_succ _
  · split
    · exact Nat.le_succ _
    · exact Nat.le_refl _
theorem synR_acts (s : JS) : (synR s).2.acts ≤ s.acts + 1 := by
  unfold synR
  split
  · exact Nat.le_succ _
  · split
    · exact Nat.le_succ _
    · split
      · exact Nat.le_succ _
      · exact Nat.le_refl _
theorem renM_acts (s : JS) : (renM s).2.acts ≤ s.acts + 1 := by
  unfold renM
  split
  · exact Nat.le_succ _
  · split
    · exact Nat.le_succ _
    · split
      · exact Nat.le_succ _
      · exact Nat.le_refl _
theorem remR_acts (s : JS) : (remR s).2.acts ≤ s.acts + 1 := by
  unfold remR
  split
  · exact Nat.le_succ _
  · split
    · exact Nat.le_succ _
    · split
      · exact Nat.le_succ _
      · exact Nat.le_refl _
theorem writeM_acts (s : JS) (b : List UInt8) : (writeM s b).2.acts ≤ s.acts + 3 := by
  have h1 := appR_acts s b
  have h2 := synR_acts (appR s b).2
  have h3 := renM_acts (synR (appR s b).2).2
  unfold writeM
  split
  · omega
  · split <;> omega
/-- How far the writing has come. -/
def WSt (s : JS) (b : List UInt8) (i : Int) (S : JS) : Prop :=
  (i = 0 ∧ S = s) ∨ (i = 1 ∧ (appR s b).1 = 0 ∧ S = (appR s b).2) ∨ (i = 2 ∧ (appR s b).1 = 0 ∧ (synR (appR s b).2).1 = 0 ∧ S = (synR (appR s b).2).2) ∨ (i = 3 ∧ writeM s b = (0, S))
theorem cell_of_block {w : World} {b : Nat} {cur : Array Value} {t : TypeId} (h : w.heap[b]? = some (.cells cur t (0, 0))) (j : Nat) : w.cell? ⟨b, j, none⟩ = cur[j]? := by unfold World.cell?; rw [h]; rfl
theorem write_1 {s : JS} {b : List UInt8} (h : (appR s b).1 ≠ 0) : writeM s b = appR s b := if_pos h
theorem write_2 {s : JS} {b : List UInt8} (h : (appR s b).1 = 0) (h2 : (synR (appR s b).2).1 ≠ 0) : writeM s b = synR (appR s b).2 := (if_neg (fun h9 => h9 h)).trans (if_pos h2)
theorem write_3 {s : JS} {b : List UInt8} (h : (appR s b).1 = 0) (h2 : (synR (appR s b).2).1 = 0) : writeM s b = renM (synR (appR s b).2).2 := (if_neg (fun h9 => h9 h)).trans (if_neg (fun h9 => h9 h2))
set_option maxHeartbeats 2000000 in
set_option maxRecDepth 100000 in
theorem write_js {B : Nat → Prop} {w : World} {g : Nat} {s : JS} (hd : JAt B w g s) (hB : Sub B w) (ha : s.acts ≤ 99999990) (p : Option Addr) (k : Nat) (data : List UInt8) (hdt : SlOf encB 1 w p k data) (hl : szO s.f + data.length ≤ 140737488355328) :
    Calls Tryz.prog 39 #[.pointer (some ⟨g, 0, none⟩), .slice p data.length k] w fun e w' => e = .returned (.int .i64 (writeM s data).1) ∧ JAt B w' g (writeM s data).2 ∧ Kpt B w w' := by
  obtain ⟨z1, hz1⟩ : ∃ z1, w.alloc (.cells #[.pointer (some ⟨g, 0, none⟩)] 25) = z1 := ⟨_, rfl⟩
  obtain ⟨z2, hz2⟩ : ∃ z2, z1.alloc (.cells #[.slice p data.length k] 40) = z2 := ⟨_, rfl⟩
  obtain ⟨z3, hz3⟩ : ∃ z3, z2.alloc (.cells #[.func (.func 72) #[] #[.pointer (some ⟨w.heap.size, 0, none⟩), .pointer (some ⟨z1.heap.size, 0, none⟩)], .func (.func 73) #[] #[.pointer (some ⟨w.heap.size, 0, none⟩)], .func (.func 74) #[] #[.pointer (some ⟨w.heap.size, 0, none⟩)]] 53) = z3 := ⟨_, rfl⟩
  have s1 : z1.heap.size = w.heap.size + 1 := by rw [← hz1]; simp
  have s2 : z2.heap.size = z1.heap.size + 1 := by rw [← hz2]; simp
  have s3 : z3.heap.size = z2.heap.size + 1 := by rw [← hz3]; simp
  have b1 : Below w.heap.size w z1 := by rw [← hz1]; exact (Below.refl _ _).alloc (Nat.le_refl _) _
  have b2 : Below z1.heap.size z1 z2 := by rw [← hz2]; exact (Below.refl _ _).alloc (Nat.le_refl _) _
  have b3 : Below z2.heap.size z2 z3 := by rw [← hz3]; exact (Below.refl _ _).alloc (Nat.le_refl _) _
  have k1 : z3.heap[w.heap.size]? = some (.cells #[.pointer (some ⟨g, 0, none⟩)] 25 (0, 0)) := (b3.block _ (by omega)).trans ((b2.block _ (by omega)).trans (by rw [← hz1]; exact heap_alloc_new _ _))
  have k2 : z3.heap[z1.heap.size]? = some (.cells #[.slice p data.length k] 40 (0, 0)) := (b3.block _ (by omega)).trans (by rw [← hz2]; exact heap_alloc_new _ _)
  have k3 : z3.heap[z2.heap.size]? = some (.cells #[.func (.func 72) #[] #[.pointer (some ⟨w.heap.size, 0, none⟩), .pointer (some ⟨z1.heap.size, 0, none⟩)], .func (.func 73) #[] #[.pointer (some ⟨w.heap.size, 0, none⟩)], .func (.func 74) #[] #[.pointer (some ⟨w.heap.size, 0, none⟩)]] 53 (0, 0)) := by rw [← hz3]; exact heap_alloc_new _ _
  have bz : Below w.heap.size w z3 := below_sub (below_sub b1 b2) b3
  obtain ⟨B', hB'⟩ : ∃ B' : Nat → Prop, B' = fun i => B i ∨ (w.heap.size ≤ i ∧ i < z3.heap.size) := ⟨_, rfl⟩
  have hB2 : ∀ i, B' i ↔ B i ∨ (w.heap.size ≤ i ∧ i < z3.heap.size) := fun i => by rw [hB']
  have hd0 : JAt B' z3 g s := (hd.more (B' := B') fun i hi => by rcases (hB2 i).1 hi with h | h; exact Or.inl h; exact Or.inr (Or.inl h.1)).below bz
  have hs0 : Sub B' z3 := fun i hi => by rcases (hB2 i).1 hi with h | h; have := hB i h; omega; exact h.2
  have hdt0 := hdt.below bz
  have hend : ∀ V S, JAt B' V g S → Kpt B' z3 V → JAt B V g S ∧ Kpt B w V := fun V S h1 h2 => ⟨h1.more fun i hi => Or.inl ((hB2 i).2 (Or.inl hi)), (Kpt.of bz).trans (h2.mono fun i hi => (hB2 i).2 (Or.inl hi))⟩
  have hcl : ∀ V, Kpt B' z3 V → (V.cell? ⟨w.heap.size, 0, none⟩ = some (.pointer (some ⟨g, 0, none⟩)) ∧ V.cell? ⟨z1.heap.size, 0, none⟩ = some (.slice p data.length k)) ∧ V.cell? ⟨z2.heap.size, 0, none⟩ = some (.func (.func 72) #[] #[.pointer (some ⟨w.heap.size, 0, none⟩), .pointer (some ⟨z1.heap.size, 0, none⟩)]) ∧ V.cell? ⟨z2.heap.size, 1, none⟩ = some (.func (.func 73) #[] #[.pointer (some ⟨w.heap.size, 0, none⟩)]) ∧ V.cell? ⟨z2.heap.size, 2, none⟩ = some (.func (.func 74) #[] #[.pointer (some ⟨w.heap.size, 0, none⟩)]) := fun V hV => by
    have e1 := (hV.block w.heap.size ((hB2 _).2 (Or.inr ⟨by omega, by omega⟩)) (by omega)).trans k1
    have e2 := (hV.block z1.heap.size ((hB2 _).2 (Or.inr ⟨by omega, by omega⟩)) (by omega)).trans k2
    have e3 := (hV.block z2.heap.size ((hB2 _).2 (Or.inr ⟨by omega, by omega⟩)) (by omega)).trans k3
    exact ⟨⟨cell_of_block e1 0, cell_of_block e2 0⟩, cell_of_block e3 0, cell_of_block e3 1, cell_of_block e3 2⟩
  have ha1 := appR_acts s data
  have ha2 := synR_acts (appR s data).2
  have HD := hide hd0
  have HS := hide hs0
  have HT := hide hdt0
  have HE := hide hend
  have HC := hide hcl
  have S1 := hide s1
  have S2 := hide s2
  have S3 := hide s3
  clear hd hB hdt s1 s2 s3 b1 b2 b3 k1 k2 k3 bz hB' hB2 hd0 hs0 hdt0 hend hcl
  go_enter Tryz.func39, Tryz.ntmps39
  go_wp2
  go_loopw [15] (fun v wr => ∃ (i : Int) (S : JS), v = .int .i64 i ∧ Hid (WSt s data i S) ∧ Hid (JAt B' wr g S) ∧ Hid (Kpt B' z3 wr) ∧ Hid (i = 0 → wr = z3)) (fun v _ => (3 - intOf v).toNat)
  case atStart => exact ⟨0, s, rfl, hide (Or.inl ⟨rfl, rfl⟩), HD, hide (Kpt.refl _ _), hide (fun _ => rfl)⟩
  case round =>
    obtain ⟨i, S, rfl, HW, HJ, HK, HZ⟩ := hrel
    obtain ⟨⟨x0, x1⟩, x2, x3, x4⟩ := unhide HC wr (unhide HK)
    have hsub : Sub B' wr := (unhide HS).trans (unhide HK).size
    rcases unhide HW with ⟨rfl, rfl⟩ | ⟨rfl, h1, rfl⟩ | ⟨rfl, h1, h2, rfl⟩ | ⟨rfl, h3⟩
    · have h := wa1 (unhide HJ) hsub (by omega) w.heap.size z1.heap.size p k data (by rw [unhide HZ rfl]; exact unhide HT) hl x0 x1
      by_cases he : (appR S data).1 = 0
      · rw [he] at h
        have HEQ := hide he
        clear he hsub
        go_wp2_with (go_at_call 72; refine h.mono ?_; rintro e w1 ⟨rfl, d1, q1⟩; have D1 := hide d1; have Q1 := hide ((unhide HK).trans q1); clear d1 q1)
        go_roundw
        case rel => exact ⟨1, _, rfl, hide (Or.inr (Or.inl ⟨rfl, unhide HEQ, rfl⟩)), D1, Q1, hide (fun h => absurd h (by decide))⟩
        case measure => simp [intOf]
      · obtain ⟨E, S9, hR⟩ : ∃ E S9, appR S data = (E, S9) := ⟨_, _, rfl⟩
        have HWR := hide ((write_1 he).trans hR)
        rw [hR] at h he
        have hE : (E == 0) = false := beq_eq_false_iff_ne.2 he
        clear he hsub hR
        go_wp2_with (go_at_call 72; refine h.mono ?_; rintro e w1 ⟨rfl, d1, q1⟩; have D1 := hide (unhide HE w1 _ d1 ((unhide HK).trans q1)); clear d1 q1)
        go_ret
        rw [unhide HWR]
        exact ⟨rfl, (unhide D1).1, (unhide D1).2⟩
    · have h := wa2 (unhide HJ) hsub (by omega) w.heap.size x0
      by_cases he : (synR (appR s data).2).1 = 0
      · rw [he] at h
        have HEQ := hide he
        clear he hsub
        go_wp2_with (go_at_call 73; refine h.mono ?_; rintro e w1 ⟨rfl, d1, q1⟩; have D1 := hide d1; have Q1 := hide ((unhide HK).trans q1); clear d1 q1)
        go_roundw
        case rel => exact ⟨2, _, rfl, hide (Or.inr (Or.inr (Or.inl ⟨rfl, h1, unhide HEQ, rfl⟩))), D1, Q1, hide (fun h => absurd h (by decide))⟩
        case measure => simp [intOf]
      · obtain ⟨E, S9, hR⟩ : ∃ E S9, synR (appR s data).2 = (E, S9) := ⟨_, _, rfl⟩
        have HWR := hide ((write_2 h1 he).trans hR)
        rw [hR] at h he
        have hE : (E == 0) = false := beq_eq_false_iff_ne.2 he
        clear he hsub hR
        go_wp2_with (go_at_call 73; refine h.mono ?_; rintro e w1 ⟨rfl, d1, q1⟩; have D1 := hide (unhide HE w1 _ d1 ((unhide HK).trans q1)); clear d1 q1)
        go_ret
        rw [unhide HWR]
        exact ⟨rfl, (unhide D1).1, (unhide D1).2⟩
    · have h := wa3 (unhide HJ) hsub (by omega) w.heap.size x0
      by_cases he : (renM (synR (appR s data).2).2).1 = 0
      · rw [he] at h
        have HEQ := hide he
        clear he hsub
        go_wp2_with (go_at_call 74; refine h.mono ?_; rintro e w1 ⟨rfl, d1, q1⟩; have D1 := hide d1; have Q1 := hide ((unhide HK).trans q1); clear d1 q1)
        go_roundw
        case rel => exact ⟨3, _, rfl, hide (Or.inr (Or.inr (Or.inr ⟨rfl, by rw [write_3 h1 h2, ← unhide HEQ]⟩))), D1, Q1, hide (fun h => absurd h (by decide))⟩
        case measure => simp [intOf]
      · obtain ⟨E, S9, hR⟩ : ∃ E S9, renM (synR (appR s data).2).2 = (E, S9) := ⟨_, _, rfl⟩
        have HWR := hide ((write_3 h1 h2).trans hR)
        rw [hR] at h he
        have hE : (E == 0) = false := beq_eq_false_iff_ne.2 he
        clear he hsub hR
        go_wp2_with (go_at_call 74; refine h.mono ?_; rintro e w1 ⟨rfl, d1, q1⟩; have D1 := hide (unhide HE w1 _ d1 ((unhide HK).trans q1)); clear d1 q1)
        go_ret
        rw [unhide HWR]
        exact ⟨rfl, (unhide D1).1, (unhide D1).2⟩
    · have HWR := hide h3
      have D1 := hide (unhide HE wr _ (unhide HJ) (unhide HK))
      clear hsub h3
      go_wp2
      go_ret
      rw [unhide HWR]
      exact ⟨rfl, (unhide D1).1, (unhide D1).2⟩
end Go.Proofs.YtfigjfmldpfjkaaGreat

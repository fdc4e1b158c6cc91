/- The reader in memory: sums. -/
import Derived.Test.YtfigjfmldpfjkaaGreatRd3
import Derived.Laws.BytesArg
import Derived.Laws.IdiomStrings
namespace Go.Proofs.YtfigjfmldpfjkaaGreat
open Go.RowKit Go.Sort

theorem conv_sl {w : World} {q : Option Addr} {c : Nat} {l : List UInt8} (h : SlOf encB 1 w q c l) : (convert 40 9 (.slice q l.length c)).run Tryz.prog w = .ok (.string ⟨l.toArray⟩) w := by
  by_cases hl : 0 < l.length
  · obtain ⟨b, off, rfl, _, hA⟩ := h.2.2.2 hl
    refine run_convert_bytes_back w 40 9 5 _ c l Tryz.underlying40 Tryz.underlying5 Tryz.underlying9 fun j hj => ?_
    rw [add_plain]
    exact hA j _ (by rw [flatB, List.getElem?_map, List.getElem?_eq_getElem hj]; rfl)
  · obtain rfl : l = [] := List.length_eq_zero_iff.1 (by omega)
    cases q with
    | none =>
      have := (h.1 rfl).2
      subst this
      exact run_convert_bytes_nil w 40 5 Tryz.underlying40 Tryz.underlying5 0 0 9 Tryz.underlying9
    | some a => exact run_convert_bytes_back w 40 9 5 a c [] Tryz.underlying40 Tryz.underlying5 Tryz.underlying9 fun j hj => by simp at hj
theorem bytes_eq (l m : List UInt8) : (l == m) = decide (l = m) := by rw [Bool.eq_iff_iff]; simp
theorem sl_grown {w w' : World} {g b off c : Nat} {l : List UInt8} (h : SlOf encB 1 w (some ⟨b, off, none⟩) c l) (hg : w.grownBy w' (some g)) (hne : b ≠ g) : SlOf encB 1 w' (some ⟨b, off, none⟩) c l := by
  refine ⟨h.1, h.2.1, h.2.2.1, fun hl => ?_⟩
  obtain ⟨b', off', hq, hb, hA⟩ := h.2.2.2 hl
  injection hq with hq
  injection hq with h1 h2
  subst h1 h2
  refine ⟨b, off, rfl, Nat.lt_of_lt_of_le hb hg.size, fun j u hj => ?_⟩
  have hblk := hg.block b hb (fun e => hne (by injection e))
  have hc : w'.cell? ⟨b, off + j, none⟩ = w.cell? ⟨b, off + j, none⟩ := by unfold World.cell?; simp only [hblk]
  exact hc.trans (hA j u hj)
set_option maxHeartbeats 1000000 in
theorem equal_any (q q' : Option Addr) (c c' : Nat) (l m : List UInt8) (w : World) (h : SlOf encB 1 w q c l) (h' : SlOf encB 1 w q' c' m) :
    Calls Tryz.prog 124 #[.slice q l.length c, .slice q' m.length c'] w fun e w' => e = .returned (.bool (decide (l = m))) ∧ w' = w := by
  have c1 := conv_sl h
  have c2 := conv_sl h'
  have HB := hide (bytes_eq l m)
  clear h h'
  go_enter Tryz.func124, Tryz.ntmps124
  go_wp2
  go_ret
  exact ⟨ret_bool (unhide HB), rfl⟩
theorem readerOf_any (q : Option Addr) (c : Nat) (l : List UInt8) (w : World) (h : SlOf encB 1 w q c l) :
    Calls Tryz.prog 106 #[.slice q l.length c] w fun e w' => e = .returned (.pointer (some ⟨w.heap.size, 0, none⟩)) ∧ Rd w' w.heap.size q c l 0 false ∧ Below w.heap.size w w' := by
  have H := hide h
  clear h
  go_enter Tryz.func106, Tryz.ntmps106
  go_wp2
  go_ret
  have hb : Below w.heap.size w (w.alloc (.cells #[.slice q l.length c, .int .i64 0, .bool false] 150)) := (Below.refl _ _).alloc (Nat.le_refl _) _
  exact ⟨rfl, ⟨heap_alloc_new _ _, (unhide H).below hb, Nat.zero_le _⟩, hb⟩
/-- Bytes in a new block. -/
theorem slB (w : World) (m : List UInt8) (hm : m.length ≤ maxLen) : SlOf encB 1 (w.alloc (.cells (m.map bv).toArray 5)) (some ⟨w.heap.size, 0, none⟩) m.length m := (ownA w w.heap.size m (Nat.le_refl _) hm).ls
/-- What a sum's reading does: torn, unless the four bytes of the sum of all that was read come. -/
def sealS (l : List UInt8) (a : Nat) (t : Bool) : Nat × Bool := if t = false ∧ a + 4 ≤ l.length ∧ (l.drop a).take 4 = four (sumB (l.take a)) then (a + 4, false) else (if t = false ∧ a + 4 ≤ l.length then a + 4 else a, true)
set_option maxHeartbeats 1000000 in
theorem rseal_any (g : Nat) (q : Option Addr) (cap : Nat) (l : List UInt8) (a : Nat) (t : Bool) (w : World) (h : Rd w g q cap l a t) (hl : l.length ≤ 1000000000000000) :
    Calls Tryz.prog 109 #[.pointer (some ⟨g, 0, none⟩)] w fun e w' => (∃ v, e = .returned v) ∧ Rd w' g q cap l (sealS l a t).1 (sealS l a t).2 ∧ w.grownBy w' (some g) := by
  have hah := ahead_any g q cap l a t w h
  have hsl : SlOf encB 1 w q cap (l.take a) := by
    have := cut_sl h.2.1 0 a (by have := h.2.2; omega)
    rw [List.drop_zero, Nat.sub_zero] at this
    by_cases h0 : cap = 0
    · subst h0; rw [cutA_same] at this; exact this
    · rw [cutA_ne q h0] at this
      have e : Option.map (fun x : Addr => x.add 0) q = q := by
        cases q with
        | none => rfl
        | some p => obtain ⟨b, off, s⟩ := p; simp [Addr.add]
      rw [e] at this; exact this
  have hse := seal_any q cap (l.take a) w.drew hsl (by simp; omega)
  rw [show (l.take a).length = a by rw [List.length_take]; have := h.2.2; omega] at hse
  have H := hide h
  obtain ⟨F, hF⟩ : ∃ F, four (sumB (l.take a)) = F := ⟨_, rfl⟩
  have hFl : F.length = 4 := by rw [← hF]; rfl
  have HF := hide hFl
  by_cases hc : t = false ∧ a + 4 ≤ l.length
  · obtain ⟨rfl, h4⟩ := hc
    have hS : sealS l a false = (a + 4, !decide ((l.drop a).take 4 = F)) := by
      unfold sealS
      rw [hF]
      by_cases h5 : (l.drop a).take 4 = F
      · rw [if_pos ⟨rfl, h4, h5⟩, decide_eq_true h5]; rfl
      · rw [if_neg (fun h => h5 h.2.2), if_pos ⟨rfl, h4⟩, decide_eq_false h5]; rfl
    rw [hS]
    rw [hF] at hse
    have ht := fun (W : World) (hW : Rd W g q cap l a false) => take_yes g q cap l a 4 W hW hl h4
    have hnd := need_any g q cap l (a + 4) false (decide ((l.drop a).take 4 = F))
    rw [Bool.false_or] at hnd
    have hT : ((l.drop a).take 4).length = 4 := by simp; omega
    have heq := fun (W V : World) (hW : Rd W g q cap l (a + 4) false) (hV : SlOf encB 1 W (some ⟨V.heap.size, 0, none⟩) 4 F) => equal_any (cutA q cap a) (some ⟨V.heap.size, 0, none⟩) (cap - a) 4 ((l.drop a).take 4) F W (cut_sl hW.2.1 a 4 h4) hV
    rw [hT, hFl] at heq
    generalize decide ((l.drop a).take 4 = F) = R at heq hnd ⊢
    generalize cutA q cap a = Z at ht heq
    generalize cap - a = cp at ht heq
    clear h hsl hS hF hFl hT
    go_enter Tryz.func109, Tryz.ntmps109
    go_wp2_with (first
      | (go_at_call 123; refine hah.mono ?_; rintro e w1 ⟨rfl, rfl⟩)
      | (go_at_call 117; refine hse.mono ?_; rintro e w2 ⟨W, hW0, rfl, rfl⟩; have hW := below_undrew hW0; clear hW0; have hb2 := hW.alloc hW.size (.cells (F.map bv).toArray 5); have R2 := hide ((unhide H).below hb2); have B2 := hide hb2; have NE : Hid (W.heap.size ≠ g) := hide (by have h1 := (unhide H).lt; have h2 : w.heap.size ≤ W.heap.size := hW.size; omega); have S2 := hide (slB W F (by rw [unhide HF]; unfold maxLen; omega)); clear hW hb2)
      | (go_at_call 125; refine (ht _ (unhide R2)).mono ?_; rintro e w3 ⟨rfl, r3, g3⟩; have S3 : Hid (SlOf encB 1 w3 (some ⟨W.heap.size, 0, none⟩) 4 F) := (by have := unhide S2; rw [unhide HF] at this; exact hide (sl_grown this g3 (unhide NE))); have R3 := hide r3; have G3 := hide (grown_trans (grown_below (unhide B2) (some g)) g3); clear r3 g3)
      | (go_at_call 124; refine (heq _ _ (unhide R3) (unhide S3)).mono ?_; rintro e w4 ⟨rfl, hw4⟩; obtain rfl := hw4.symm)
      | (go_at_call 121; refine (hnd _ (unhide R3)).mono ?_; rintro e w5 ⟨⟨v5, rfl⟩, r5, g5⟩; have R5 := hide r5; have G5 := hide (grown_trans (unhide G3) g5); clear r5 g5))
    go_end0
    exact ⟨⟨_, rfl⟩, unhide R5, unhide G5⟩
  · have hS : sealS l a t = (a, true) := by
      unfold sealS
      rw [if_neg (fun h => hc ⟨h.1, h.2.1⟩), if_neg hc]
    rw [hS]
    rw [hF] at hse
    have ht := fun (W : World) (hW : Rd W g q cap l a t) => take_no g q cap l a t 4 W hW hc
    have hnd := need_any g q cap l a true false
    have hne : ¬ ([] : List UInt8) = F := fun e => by rw [← e] at hFl; simp at hFl
    have heq := fun (W V : World) (hV : SlOf encB 1 W (some ⟨V.heap.size, 0, none⟩) 4 F) => equal_any none (some ⟨V.heap.size, 0, none⟩) 0 4 [] F W (SlOf.none _) hV
    rw [hFl, decide_eq_false hne] at heq
    clear h hsl hS hF hFl hc hne
    go_enter Tryz.func109, Tryz.ntmps109
    go_wp2_with (first
      | (go_at_call 123; refine hah.mono ?_; rintro e w1 ⟨rfl, rfl⟩)
      | (go_at_call 117; refine hse.mono ?_; rintro e w2 ⟨W, hW0, rfl, rfl⟩; have hW := below_undrew hW0; clear hW0; have hb2 := hW.alloc hW.size (.cells (F.map bv).toArray 5); have R2 := hide ((unhide H).below hb2); have B2 := hide hb2; have NE : Hid (W.heap.size ≠ g) := hide (by have h1 := (unhide H).lt; have h2 : w.heap.size ≤ W.heap.size := hW.size; omega); have S2 := hide (slB W F (by rw [unhide HF]; unfold maxLen; omega)); clear hW hb2)
      | (go_at_call 125; refine (ht _ (unhide R2)).mono ?_; rintro e w3 ⟨rfl, r3, g3⟩; have S3 : Hid (SlOf encB 1 w3 (some ⟨W.heap.size, 0, none⟩) 4 F) := (by have := unhide S2; rw [unhide HF] at this; exact hide (sl_grown this g3 (unhide NE))); have R3 := hide r3; have G3 := hide (grown_trans (grown_below (unhide B2) (some g)) g3); clear r3 g3)
      | (go_at_call 124; refine (heq _ _ (unhide S3)).mono ?_; rintro e w4 ⟨rfl, hw4⟩; obtain rfl := hw4.symm)
      | (go_at_call 121; refine (hnd _ (unhide R3)).mono ?_; rintro e w5 ⟨⟨v5, rfl⟩, r5, g5⟩; have R5 := hide r5; have G5 := hide (grown_trans (unhide G3) g5); clear r5 g5))
    go_end0
    exact ⟨⟨_, rfl⟩, unhide R5, unhide G5⟩
end Go.Proofs.YtfigjfmldpfjkaaGreat

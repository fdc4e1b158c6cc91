/- What is written is read back, whatever stands behind: plain. -/
import Derived.Test.YtfigjfmldpfjkaaGreatTornP
namespace Go.Proofs.YtfigjfmldpfjkaaGreat

theorem scan_app : ∀ (cs : List Ch) (m : List UInt8) (f : Nat), (∀ c ∈ cs, MayB c) → (encs cs ++ m).length < f → ∃ f', m.length < f' ∧ scanL f (encs cs ++ m) = (cs ++ (scanL f' m).1, (encs cs).length + (scanL f' m).2) := by
  intro cs
  induction cs with
  | nil => intro m f _ hf; exact ⟨f, by simpa [encs] using hf, by simp [encs]⟩
  | cons c cs ih =>
    intro m f hc hf
    have hcm := hc c (by simp)
    rw [encs_cons, List.append_assoc] at hf ⊢
    obtain ⟨f1, rfl⟩ : ∃ f1, f = f1 + 1 := ⟨f - 1, by omega⟩
    have hd := decS_read hcm (l := oneB c ++ (encs cs ++ m)) rfl
    have hpos := (decS_len hd).1
    obtain ⟨f', hf', he⟩ := ih m f1 (fun x hx => hc x (List.mem_cons_of_mem _ hx)) (by rw [List.length_append] at hf; omega)
    refine ⟨f', hf', ?_⟩
    rw [scanL_some hd, drop_pre rfl, he]
    simp; omega
theorem scan_back : ∀ (f : Nat) (m : List UInt8), (∀ c ∈ (scanL f m).1, MayB c) ∧ (scanL f m).2 = (encs (scanL f m).1).length ∧ ∃ r, m = encs (scanL f m).1 ++ r := by
  intro f
  induction f with
  | zero => intro m; refine ⟨fun c hc => by simp [scanL] at hc, by simp [scanL, encs], m, by simp [scanL, encs]⟩
  | succ f ih =>
    intro m
    cases hd : decS m with
    | none => rw [scanL_none hd]; exact ⟨fun c hc => by simp at hc, by simp [encs], m, by simp [encs]⟩
    | some x =>
      obtain ⟨c, n⟩ := x
      obtain ⟨hm, hl, hn⟩ := decS_back hd
      rw [scanL_some hd]
      obtain ⟨h1, h2, r, h3⟩ := ih (m.drop n)
      refine ⟨fun x hx => ?_, ?_, r, ?_⟩
      · simp at hx
        rcases hx with rfl | hx
        · exact hm
        · exact h1 x hx
      · simp only [encs_cons, List.length_append]; rw [h2, hn]
      · simp only [encs_cons, List.append_assoc]
        rw [← h3]; exact hl
theorem one_len8 (c : Ch) : 8 ≤ (oneB c).length := by
  have h1 := vint_len_pos c.id.toNat
  have h2 := vint_len_pos (bodyB c).length
  have : (bodyB c).length = 1 + ((vint c.id.toNat).length + c.text.data.size) := by simp [bodyB]; omega
  simp [oneB, recB, seal_len]; omega
/-- What Scan finds of a head, records and whatever stands behind. -/
theorem back_scan (n : Nat) (cs : List Ch) (m : List UInt8) (h1 : 1 ≤ n) (h2 : n ≤ 1099511627777) (hm : ∀ c ∈ cs, MayB c) (l : List UInt8) (hl : l = headB n ++ (encs cs ++ m)) :
    headOk l = true ∧ (headV l).1 = n ∧ (sealS l (headV l).2.1 (headV l).2.2).1 = (headB n).length ∧ ∃ (ds : List Ch) (r : List UInt8), (∀ c ∈ cs ++ ds, MayB c) ∧ scanL (l.length + 1) (l.drop (headB n).length) = (cs ++ ds, (encs (cs ++ ds)).length) ∧ l = headB n ++ (encs (cs ++ ds) ++ r) := by
  obtain ⟨r1, r2, r3⟩ := head_read h1 h2 hl
  refine ⟨r1, r2, r3, ?_⟩
  rw [drop_pre hl]
  obtain ⟨f', hf', he⟩ := scan_app cs m (l.length + 1) hm (by rw [hl]; simp; omega)
  obtain ⟨b1, b2, r, b3⟩ := scan_back f' m
  have ea : encs (cs ++ (scanL f' m).1) = encs cs ++ encs (scanL f' m).1 := by simp [encs]
  refine ⟨(scanL f' m).1, r, ?_, ?_, ?_⟩
  · intro c hc
    rcases List.mem_append.1 hc with h | h
    · exact hm c h
    · exact b1 c h
  · rw [he, b2, ea, List.length_append]
  · rw [ea, List.append_assoc, ← b3]; exact hl
end Go.Proofs.YtfigjfmldpfjkaaGreat

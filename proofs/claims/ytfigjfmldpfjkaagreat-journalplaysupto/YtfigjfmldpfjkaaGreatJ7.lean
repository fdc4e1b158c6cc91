/- What the journal's calls come to where the power stays on; the statement's fixed calls. -/
import Derived.Test.YtfigjfmldpfjkaaGreatJ6
namespace Go.Proofs.YtfigjfmldpfjkaaGreat
open Go.RowKit Go.Sort Go.Shelf

/-- A disk whose power stays on: the journal's file alone. -/
def onJ (fl : Fl) (acts : Nat) : JS := ⟨some fl, none, acts, false, 0, 0⟩
def newJ : JS := ⟨none, none, 0, false, 0, 0⟩
theorem new_js (w : World) : Calls Tryz.prog 6 #[] w fun e w' => e = .returned (.pointer (some ⟨w.heap.size + 1, 0, none⟩)) ∧ JAt (· < w.heap.size) w' (w.heap.size + 1) newJ ∧ Below w.heap.size w w' := by
  refine (new_any w).mono ?_
  rintro e w' ⟨h1, h2, h3⟩
  refine ⟨h1, ⟨0, by show 0 ≤ _; omega, ?_⟩, h3⟩
  have e9 : empty = newJ.dk 0 := by
    have : (fun _ => none : ByteArray → Option Fl) = newJ.get := JS.ext_get rfl rfl (fun _ _ _ => rfl)
    unfold empty JS.dk
    rw [this]
    rfl
  rw [← e9]
  exact h2
theorem write_on {s : JS} (ho : s.off = false) (hn : s.named = 0) (hf : s.f = none) (b : List UInt8) : writeM s b = (0, { s with j := some ⟨b, b.length⟩, f := none, acts := s.acts + 3 }) := by
  have h1 : appR s b = (0, { s.act with f := some (grown s.f b) }) := appR_yes ho (by omega) b
  have h2 : synR { s.act with f := some (grown s.f b) } = (0, { ({ s.act with f := some (grown s.f b) } : JS).act with f := some (lastF (grown s.f b)) }) := synR_yes (fl := grown s.f b) ho rfl (by show s.named - 1 ≠ 1; omega)
  rw [write_3 (by rw [h1]) (by rw [h1]; simp only; rw [h2]), h1]
  simp only
  rw [h2]
  simp only
  have h3 := renM_yes (s := { ({ s.act with f := some (grown s.f b) } : JS).act with f := some (lastF (grown s.f b)) }) (fl := lastF (grown s.f b)) ho rfl (by show s.named - 1 - 1 ≠ 1; omega)
  rw [h3, hf]
  have e1 : s.named - 1 - 1 - 1 = s.named := by omega
  simp only [JS.act, grown, lastF, e1]
theorem open_new : openM newJ = (0, onJ ⟨headB 1, (headB 1).length⟩ 3) := by
  obtain ⟨a1, a2, a3, a4⟩ := sc_of 1 [] (by decide) (by decide) (fun c hc => by cases hc)
  have e0 : headB 1 ++ encs [] = headB 1 := by simp [encs]
  rw [e0] at a1 a4
  rw [open_mend rfl rfl]
  show mendM newJ = _
  have hs : stB newJ = headB 1 := rfl
  rw [mend_write (s := newJ) (by rw [hs]; exact a1) (by intro h; cases h.1), hs]
  rw [a4, List.take_length, write_on rfl rfl rfl]
  rfl
theorem open_keep {fl : Fl} {acts : Nat} (h : scE fl.bytes = 0) (h2 : scL fl.bytes = fl.bytes.length) (h3 : fl.lasts = fl.bytes.length) : openM (onJ fl acts) = (0, onJ fl acts) := by
  rw [open_mend rfl rfl]
  show mendM (onJ fl acts) = _
  have hs : stB (onJ fl acts) = fl.bytes := rfl
  exact mend_same (s := onJ fl acts) (by rw [hs]; exact h) ⟨rfl, by rw [hs]; exact h2, by show fl.bytes.length - fl.lasts = 0; omega⟩
theorem open_cut {fl : Fl} {acts : Nat} (h : scE fl.bytes = 0) (h2 : scL fl.bytes ≠ fl.bytes.length) : openM (onJ fl acts) = (0, onJ ⟨fl.bytes.take (scL fl.bytes), scL fl.bytes⟩ (acts + 3)) := by
  rw [open_mend rfl rfl]
  show mendM (onJ fl acts) = _
  have hs : stB (onJ fl acts) = fl.bytes := rfl
  rw [mend_write (s := onJ fl acts) (by rw [hs]; exact h) (fun h9 => h2 (by rw [hs] at h9; exact h9.2.1)), write_on (s := onJ fl acts) rfl rfl rfl, hs]
  have hle := sc_le h
  have e : (fl.bytes.take (scL fl.bytes)).length = scL fl.bytes := by rw [List.length_take]; omega
  show ((0 : Int), (⟨some ⟨fl.bytes.take (scL fl.bytes), (fl.bytes.take (scL fl.bytes)).length⟩, none, acts + 3, false, 0, 0⟩ : JS)) = _
  rw [e]
  rfl
theorem open_head {fl : Fl} {acts : Nat} (h : scE fl.bytes ≠ 0) : openM (onJ fl acts) = (scE fl.bytes, onJ fl acts) := by
  rw [open_mend rfl rfl]
  show mendM (onJ fl acts) = _
  have hs : stB (onJ fl acts) = fl.bytes := rfl
  rw [mend_bad (s := onJ fl acts) (by rw [hs]; exact h), hs]
theorem crash_on (fl : Fl) (acts : Nat) (cs : List Int) : crashM (onJ fl acts) cs = onJ (foundF fl (chAt cs 0)) 0 := rfl
theorem found_all (b : List UInt8) (ch : Int) : foundF ⟨b, b.length⟩ ch = ⟨b, b.length⟩ := by
  have h : keptN ⟨b, b.length⟩ ch = b.length := by
    unfold keptN modZ
    simp only [Nat.sub_self]
    rw [show ((0 + 1 : Nat) : Int) = 1 from rfl, Int.emod_one]
    rfl
  unfold foundF
  rw [h, List.take_length]
theorem app_on (fl : Fl) (acts : Nat) (x : JX) (h0 : x.failed = 0) {cs : List Ch} (hm : ∀ c ∈ cs, MayB c) (hne : cs ≠ []) : jApp (onJ fl acts) x cs = (0, onJ ⟨fl.bytes ++ encs cs, fl.lasts⟩ (acts + 1), ⟨0, x.cnt + cs.length, x.bytes + (encs cs).length, x.pend + cs.length⟩) := by
  have h1 : appJ (onJ fl acts) (encs cs) = (0, onJ ⟨fl.bytes ++ encs cs, fl.lasts⟩ (acts + 1)) := appJ_yes rfl (by show (0 : Nat) ≠ 1; decide) _
  unfold jApp
  rw [if_neg (fun h9 => h9 h0), if_nn hm, if_neg hne, h1]
  rfl
theorem syn_on (fl : Fl) (acts : Nat) (x : JX) (h0 : x.failed = 0) (hp : x.pend ≠ 0) : jSyn (onJ fl acts) x = (0, onJ (lastF fl) (acts + 1), ⟨0, x.cnt, x.bytes, 0⟩) := by
  have h1 : synJ (onJ fl acts) = (0, onJ (lastF fl) (acts + 1)) := synJ_yes rfl rfl (by show (0 : Nat) ≠ 1; decide)
  unfold jSyn
  rw [if_neg (fun h9 => h9 h0), if_neg hp, h1]
  rfl
theorem actsJ_any {B : Nat → Prop} {w : World} {g : Nat} {s : JS} (hd : JAt B w g s) : Calls Tryz.prog 19 #[.pointer (some ⟨g, 0, none⟩)] w fun e w' => e = .returned (.int .i64 (s.acts : Int)) ∧ w' = w := by
  obtain ⟨n, hn, hd⟩ := hd
  exact acts_any hd
abbrev tF : ByteArray := ⟨#[97, 32, 123, 49, 125]⟩
abbrev cF : Ch := ⟨1, 4, tF⟩
theorem mayF : MayB cF := by decide
theorem head1_len : (headB 1).length = 6 := by unfold headB; rw [seal_len, vint_lt (by decide)]; rfl
theorem sl_nilC (w : World) : SlOf encC 3 w none 0 [] := ⟨fun _ => ⟨rfl, rfl⟩, Nat.le_refl _, by unfold maxLen; omega, fun h => by cases h⟩
theorem sl_nilI (w : World) : SlOf encI 1 w none 0 [] := ⟨fun _ => ⟨rfl, rfl⟩, Nat.le_refl _, by unfold maxLen; omega, fun h => by cases h⟩
theorem sl_one (w : World) (c : Ch) : SlOf encC 3 (w.alloc (.cells #[.int .i64 c.kind, .int .i64 c.id, .string c.text] 63)) (some ⟨w.heap.size, 0, none⟩) 1 [c] := by
  refine ⟨(fun h => by cases h), Nat.le_refl _, by unfold maxLen; omega, LsOf.one (by simp) fun k hk => ?_⟩
  rw [cellA]
  have hk' : k = 0 ∨ k = 1 ∨ k = 2 := by omega
  rcases hk' with rfl | rfl | rfl <;> rfl
end Go.Proofs.YtfigjfmldpfjkaaGreat

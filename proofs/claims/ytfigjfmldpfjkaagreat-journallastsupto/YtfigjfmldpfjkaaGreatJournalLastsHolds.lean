/- The law JournalLasts holds: it returns true, and what it is given reads as it did. -/
import Derived.Test.YtfigjfmldpfjkaaGreatL7
import Derived.Test.YtfigjfmldpfjkaaGreatOpenOps
namespace Go.Proofs.YtfigjfmldpfjkaaGreat
open Go.ChangeShapes Go.WideShapes Go.ChangeAt Go.RowKit Go.Joins

theorem journalLasts_reads (os : Os) {H : Type} (enc : TypeId × Value → H) : ∃ places, DataW.whole enc Tryz.prog ((World.doorLaid Tryz.prog 400 os).forCall (fun _ _ => 0) ⟨#[], #[.slice none 0 0, .slice none 0 0, .slice none 0 0], []⟩).memory Tryz.f4.params.toList Rows.journalLastsSpec.vars false (#[.slice none 0 0, .slice none 0 0, .slice none 0 0] : Array Value).toList 8 = some ([.nil, .nil, .nil], [], places) :=
  ⟨[], by kernel_rfl⟩
set_option maxRecDepth 100000 in
theorem journalLasts_lifted (os : Os) (started : os.Started) (H : Type) (enc : TypeId × Value → H) (F : Stop.Interp) :
    ReturnsInHanded {} Tryz.checked os 4 .any ((Rows.OpenSpec.upto Rows.journalLastsSpec).preRow enc Tryz.prog Tryz.f4 Rows.journalLastsUptoRow.domain false Rows.journalLastsUptoRow.laid) (((Rows.OpenSpec.upto Rows.journalLastsSpec).at F).post enc Tryz.prog Tryz.f4 false true false false) := by
  obtain ⟨places, hx⟩ := journalLasts_reads os enc
  refine returnsInHanded_of_row (C := Tryz.checked) (s := (Rows.OpenSpec.upto Rows.journalLastsSpec)) Tryz.own started (by kernel_rfl) Tryz.func4
    (witness_row_atRef (enc := enc) (C := Tryz.checked) false (World.doorLaid Tryz.prog 400 os) #[.slice none 0 0, .slice none 0 0, .slice none 0 0] rfl (by kernel_rfl) (by kernel_rfl) (by kernel_rfl)
      (OpenSpec.preRow_of_cond 8 hx (by kernel_rfl) (fun k hk => by cases hk; kernel_rfl) (by kernel_rfl) (laidMet_of_run' 8 (by kernel_rfl) (by kernel_rfl)))) ?_
  intro W base args ds gs before hval0 hW _ hcond hreach hL _ _
  have hval : ∀ (j : Nat) t v, Tryz.f4.params[j]? = some t → args[j]? = some v → Value.okWide Tryz.prog W .any base t v := hval0
  have hW' := hW
  obtain ⟨p, q, hA0, hV, rfl, hfz, hnd⟩ := hW
  have hA : DataW.TrodAll enc Tryz.prog W 0 (fun _ => true) true Tryz.f4.params.toList args.toList ds p := hA0
  rw [Tryz.params4] at hA hval
  obtain ⟨v0, vs0, d0, ds0, p0, q0, hargs, rfl, rfl, h0, r0⟩ := trodAll_cons hA
  obtain ⟨v1, vs1, d1, ds1, p1, q1, rfl, rfl, rfl, h1, r1⟩ := trodAll_cons r0
  obtain ⟨v2, vs2, d2, ds2, p2, q2, rfl, rfl, rfl, h2, r2⟩ := trodAll_cons r1
  obtain ⟨rfl, rfl, rfl⟩ := trodAll_nil r2
  obtain rfl : args = #[v0, v1, v2] := by cases args; simp_all
  obtain ⟨rfl, rfl⟩ := trodVars_none hV
  have lt0 : ∀ x ∈ p0, x.block < W.heap.size := by obtain ⟨m, hm⟩ := h0; exact DataW.trod_lt m _ _ _ hm
  have k0 := h0
  have lt1 : ∀ x ∈ p1, x.block < W.heap.size := by obtain ⟨m, hm⟩ := h1; exact DataW.trod_lt m _ _ _ hm
  have k1 := h1
  have lt2 : ∀ x ∈ p2, x.block < W.heap.size := by obtain ⟨m, hm⟩ := h2; exact DataW.trod_lt m _ _ _ hm
  have k2 := h2
  obtain ⟨a0, len0, cap0, rfl⟩ := okWide_slice Tryz.underlying22 (hval 0 22 v0 rfl rfl)
  obtain ⟨fuel0, hf0⟩ := h0
  obtain ⟨qq0, cc0, ll0, ee0, ss0, ww0⟩ := open_ops (v := .slice a0 len0 cap0) (by simpa [Value.cells] using hf0)
  simp only [Value.slice.injEq] at ee0
  obtain ⟨rfl, rfl, rfl⟩ := ee0
  replace ww0 : odsW ll0 ≤ Rows.uptoBulk d0 := ww0
  obtain ⟨a1, len1, cap1, rfl⟩ := okWide_slice Tryz.underlying45 (hval 1 45 v1 rfl rfl)
  obtain ⟨fuel1, hf1⟩ := h1
  obtain ⟨qq1, cc1, ll1, ee1, ss1, gg1⟩ := open_sl (enc' := encT) Tryz.underlying45 Tryz.cells90 (by decide) dec_trip (v := .slice a1 len1 cap1) (by simpa [Value.cells] using hf1)
  simp only [Value.slice.injEq] at ee1
  obtain ⟨rfl, rfl, rfl⟩ := ee1
  obtain ⟨a2, len2, cap2, rfl⟩ := okWide_slice Tryz.underlying39 (hval 2 39 v2 rfl rfl)
  obtain ⟨fuel2, hf2⟩ := h2
  obtain ⟨qq2, cc2, ll2, ee2, ss2, gg2⟩ := open_sl (enc' := encI) Tryz.underlying39 Tryz.cells3 (by decide) dec_int (v := .slice a2 len2 cap2) (by simpa [Value.cells] using hf2)
  simp only [Value.slice.injEq] at ee2
  obtain ⟨rfl, rfl, rfl⟩ := ee2
  have ww1 : ll1.length ≤ Rows.uptoBulk d1 := by
    rcases gg1 with rfl | ⟨D, E, hD, hl⟩
    · simp
    · rw [show d1 = .slice D E from hD, ← hl]; have := bulk_len D; simp only [Rows.uptoBulk]; omega
  have ww2 : ll2.length ≤ Rows.uptoBulk d2 := by
    rcases gg2 with rfl | ⟨D, E, hD, hl⟩
    · simp
    · rw [show d2 = .slice D E from hD, ← hl]; have := bulk_len D; simp only [Rows.uptoBulk]; omega
  have hbk := hcond _ rfl
  have hbk2 := of_decide_eq_true hbk
  simp only [Rows.uptoBulkAll, List.append_nil] at hbk2
  have hlaw : Calls Tryz.prog 4 #[.slice a0 ll0.length cap0, .slice a1 ll1.length cap1, .slice a2 ll2.length cap2] W fun e w' => e = .returned (.bool true) ∧ Below W.heap.size W w' := by
    by_cases hx0 : 60 < ll0.length ∨ 10 < ll1.length
    · exact lasts_long a0 cap0 ll0.length a1 cap1 ll1.length a2 cap2 ll2.length W hx0
    · exact lasts_law a0 cap0 ll0 a1 cap1 ll1 a2 cap2 ll2 W ss0 ss1 ss2 (by omega) (by omega) (by omega) (by omega)
  clear hA0 hval0
  refine (hlaw).mono fun e W' ⟨he, bel⟩ => ?_
  subst he
  exact ⟨_, rfl, _, _, _, [], _, [], hW', trodAll_mk1 (shut_bool Tryz.underlying4 _), (trodAll_cons_mk (Below.trod Tryz.laidOut (by kernel_rfl) (of_decide_eq_true (by kernel_rfl)) k0 bel lt0) (trodAll_cons_mk (Below.trod Tryz.laidOut (by kernel_rfl) (of_decide_eq_true (by kernel_rfl)) k1 bel lt1) (trodAll_cons_mk (Below.trod Tryz.laidOut (by kernel_rfl) (of_decide_eq_true (by kernel_rfl)) k2 bel lt2) trodAll_mk0))), rfl, bel.frame _, fun h => by cases h⟩

/-- THE STATEMENT. -/
theorem journalLasts_holds : Rows.JournalLastsUptoSaid :=
  OpenClaim.holds_of_cond 4 Tryz.f4 rfl rfl rfl rfl rfl rfl rfl ⟨rfl, rfl, rfl, rfl, rfl⟩ rfl rfl rfl rfl rfl (by kernel_rfl) Tryz.func4 (by kernel_rfl)
    (of_decide_eq_true (by kernel_rfl)) (by unfold Func.isWrapper; first | (rw [if_pos (by decide +kernel)]; kernel_rfl) | (rw [if_neg (by decide +kernel)]; exact ⟨rfl, rfl⟩))
    (fun os started H enc _ F => by rw [OpenClaim.pre_eq_preRow]; exact journalLasts_lifted os started H enc F)
end Go.Proofs.YtfigjfmldpfjkaaGreat

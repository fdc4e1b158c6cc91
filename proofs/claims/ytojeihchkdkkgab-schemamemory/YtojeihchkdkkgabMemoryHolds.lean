/- The law SchemaMemory holds: at every list of attributes and every list of pairs it returns true, and they read as they did. -/
import Derived.Test.YtojeihchkdkkgabMemoryLaw
import Derived.Test.YtojeihchkdkkgabOpen
namespace Go.Proofs.Ytojeihchkdkkgab
open Go.ChangeShapes Go.WideShapes Go.ChangeAt Go.RowKit Go.Joins

theorem schemaMemory_reads (os : Os) {H : Type} (enc : TypeId × Value → H) : ∃ places, DataW.whole enc Try.prog ((World.doorLaid Try.prog 400 os).forCall (fun _ _ => 0) ⟨#[], #[.slice none 0 0, .slice none 0 0], []⟩).memory Try.f7.params.toList Rows.schemaMemorySpec.vars false #[Value.slice none 0 0, Value.slice none 0 0].toList 8 = some ([.nil, .nil], [], places) :=
  ⟨[], by kernel_rfl⟩

set_option maxRecDepth 100000 in
theorem schemaMemory_lifted (os : Os) (started : os.Started) (H : Type) (enc : TypeId × Value → H) (F : Stop.Interp) :
    ReturnsInHanded {} Try.checked os 7 .any ((OpenSpec.ofChange Rows.schemaMemorySpec).preRow enc Try.prog Try.f7 Rows.schemaMemoryRow.domain false Rows.schemaMemoryRow.laid) (((OpenSpec.ofChange Rows.schemaMemorySpec).at F).post enc Try.prog Try.f7 false true false false) := by
  obtain ⟨places, hx⟩ := schemaMemory_reads os enc
  refine returnsInHanded_of_row (C := Try.checked) (s := OpenSpec.ofChange Rows.schemaMemorySpec) Try.own started (by kernel_rfl) Try.func7
    (witness_row_atRef (enc := enc) (C := Try.checked) false (World.doorLaid Try.prog 400 os) #[.slice none 0 0, .slice none 0 0] rfl (by kernel_rfl) (by kernel_rfl) (by kernel_rfl)
      (OpenSpec.preRow_of_cond 8 hx (by kernel_rfl) (fun k hk => by cases hk) (by kernel_rfl) (laidMet_of_run' 8 (by kernel_rfl) (by kernel_rfl)))) ?_
  intro W base args ds gs before hval0 hW _ hcond hreach hL _ _
  have hval : ∀ (j : Nat) t v, Try.f7.params[j]? = some t → args[j]? = some v → Value.okWide Try.prog W .any base t v := hval0
  have hW' := hW
  obtain ⟨p, q, hA0, hV, rfl, hfz, hnd⟩ := hW
  have hA : DataW.TrodAll enc Try.prog W 0 (fun _ => true) true Try.f7.params.toList args.toList ds p := hA0
  rw [Try.params7] at hA hval
  obtain ⟨v0, vs0, d0, ds0, p0, q0, hargs, rfl, rfl, h0, r0⟩ := trodAll_cons hA
  obtain ⟨v1, vs1, d1, ds1, p1, q1, rfl, rfl, rfl, h1, r1⟩ := trodAll_cons r0
  obtain ⟨rfl, rfl, rfl⟩ := trodAll_nil r1
  obtain rfl : args = #[v0, v1] := by cases args; simp_all
  obtain ⟨rfl, rfl⟩ := trodVars_none hV
  have lt0 : ∀ x ∈ p0, x.block < W.heap.size := by obtain ⟨m, hm⟩ := h0; exact DataW.trod_lt m _ _ _ hm
  have lt1 : ∀ x ∈ p1, x.block < W.heap.size := by obtain ⟨m, hm⟩ := h1; exact DataW.trod_lt m _ _ _ hm
  have k0 := h0
  obtain ⟨pp0, cap0, l0, rfl, hP0, hn0, hs0, hlen0⟩ := open_ats (hval 0 22 v0 rfl rfl) h0
  have hl0 : l0.length * 24 + 24 ≤ 140737488355328 := by
    rcases hlen0 with rfl | ⟨D, E, rfl, hD⟩
    · simp
    · have hsz : (D.length + E.length) * Try.prog.bytesOf 26 ≤ reachBytes := sized_slice hreach (j := 0) rfl rfl Try.underlying22
      rw [Try.bytes26, hD] at hsz
      unfold reachBytes at hsz
      omega
  have k1 := h1
  obtain ⟨pp1, cap1, l1, rfl, hP1, hn1, hs1, hlen1⟩ := open_prs (hval 1 23 v1 rfl rfl) h1
  have hl1 : l1.length * 48 + 96 ≤ 140737488355328 := by
    rcases hlen1 with rfl | ⟨D, E, rfl, hD⟩
    · simp
    · have hsz : (D.length + E.length) * Try.prog.bytesOf 52 ≤ reachBytes := sized_slice hreach (j := 1) rfl rfl Try.underlying23
      rw [Try.bytes52, hD] at hsz
      unfold reachBytes at hsz
      omega
  clear hA0 hval0
  refine (schemaMemory_any pp0 cap0 l0 pp1 cap1 l1 W hl0 hl1 hn0 hn1 hs1 hP0 hP1).mono fun e W' ⟨he, bel⟩ => ?_
  subst he
  exact ⟨_, rfl, _, _, _, [], _, [], hW', trodAll_mk1 (shut_bool Try.underlying4 _), (trodAll_cons_mk (Below.trod Try.laidOut (by kernel_rfl) (of_decide_eq_true (by kernel_rfl)) k0 bel lt0) (trodAll_cons_mk (Below.trod Try.laidOut (by kernel_rfl) (of_decide_eq_true (by kernel_rfl)) k1 bel lt1) trodAll_mk0)), rfl, bel.frame _, fun h => by cases h⟩

/-- THE STATEMENT. -/
theorem schemaMemory_holds : Rows.SchemaMemorySaid :=
  OpenClaim.holds_of_cond 7 Try.f7 rfl rfl rfl rfl rfl rfl rfl ⟨rfl, rfl, rfl, rfl, rfl⟩ rfl rfl rfl rfl rfl (by kernel_rfl) Try.func7 (by kernel_rfl)
    (of_decide_eq_true (by kernel_rfl)) (by unfold Func.isWrapper; first | (rw [if_pos (by decide +kernel)]; kernel_rfl) | (rw [if_neg (by decide +kernel)]; exact ⟨rfl, rfl⟩))
    (fun os started H enc _ F => by rw [OpenClaim.pre_eq_preRow]; exact schemaMemory_lifted os started H enc F)
end Go.Proofs.Ytojeihchkdkkgab

/- The law TreePreds holds: at every predicate it returns true, and the predicate reads as it did. -/
import Derived.Test.YtpgknpoolkbboabDoorPredsLaw
import Derived.Test.YtpgknpoolkbboabDoorOpen
import Derived.Test.YtpgknpoolkbboabDoorTie
import Derived.Test.YtpgknpoolkbboabDoorCards
namespace Go.Proofs.YtpgknpoolkbboabDoor
open Go.ChangeShapes Go.WideShapes Go.ChangeAt Go.RowKit Go.Joins

theorem treePreds_reads (os : Os) {H : Type} (enc : TypeId × Value → H) : ∃ places, DataW.whole enc Tryd.prog ((World.doorLaid Tryd.prog 400 os).forCall (fun _ _ => 0) ⟨#[], #[.agg #[.int .i64 0, .string ⟨#[]⟩, .slice none 0 0, .slice none 0 0, .int .i64 0, .int .i64 0]], []⟩).memory Tryd.f3.params.toList Rows.treePredsSpec.vars false #[Value.agg #[.int .i64 0, .string ⟨#[]⟩, .slice none 0 0, .slice none 0 0, .int .i64 0, .int .i64 0]].toList 8 = some ([.agg [.lit (.int .i64 0), .lit (.string []), .nil, .nil, .lit (.int .i64 0), .lit (.int .i64 0)]], [], places) :=
  ⟨[], by kernel_rfl⟩
theorem pred_sized {H : Type} {d0 d1 d2 d3 d4 d5 : DataW H} {ts : List TypeId} {ds : List (DataW H)} (hreach : (DataW.weightsEach Tryd.prog (25 :: ts) (.agg [d0, d1, d2, d3, d4, d5] :: ds)).all (· ≤ reachBytes) = true) :
    (∀ D E, d2 = .slice D E → (D.length + E.length) * 8 ≤ reachBytes) ∧ (∀ D E, d3 = .slice D E → (D.length + E.length) * 16 ≤ reachBytes) := by
  have hin : ∀ n, n ∈ DataW.weightsEach Tryd.prog [3, 9, 22, 23, 3, 3] [d0, d1, d2, d3, d4, d5] → n ≤ reachBytes := fun n hn => by
    have h1 : n ∈ (DataW.agg [d0, d1, d2, d3, d4, d5]).weights Tryd.prog 25 := by
      simp only [DataW.weights, Tryd.underlying25]; exact hn
    have := List.all_eq_true.1 hreach n (DataW.weights_mem_each (j := 0) rfl rfl n h1)
    simpa using this
  refine ⟨fun D E hd => ?_, fun D E hd => ?_⟩
  · subst hd
    have := hin _ (DataW.weights_mem_each (j := 2) rfl rfl ((D.length + E.length) * Tryd.prog.bytesOf 3) (by simp [DataW.weights, Tryd.underlying22]))
    rwa [Tryd.bytes3] at this
  · subst hd
    have := hin _ (DataW.weights_mem_each (j := 3) rfl rfl ((D.length + E.length) * Tryd.prog.bytesOf 9) (by simp [DataW.weights, Tryd.underlying23]))
    rwa [Tryd.bytes9] at this
set_option maxRecDepth 100000 in
theorem treePreds_lifted (os : Os) (started : os.Started) (H : Type) (enc : TypeId × Value → H) (F : Stop.Interp) :
    ReturnsInHanded {} Tryd.checked os 3 .any ((OpenSpec.ofChange Rows.treePredsSpec).preRow enc Tryd.prog Tryd.f3 Rows.treePredsRow.domain false Rows.treePredsRow.laid) (((OpenSpec.ofChange Rows.treePredsSpec).at F).post enc Tryd.prog Tryd.f3 false true false false) := by
  obtain ⟨places, hx⟩ := treePreds_reads os enc
  refine returnsInHanded_of_row (C := Tryd.checked) (s := OpenSpec.ofChange Rows.treePredsSpec) Tryd.own started (by kernel_rfl) Tryd.func3
    (witness_row_atRef (enc := enc) (C := Tryd.checked) false (World.doorLaid Tryd.prog 400 os) #[.agg #[.int .i64 0, .string ⟨#[]⟩, .slice none 0 0, .slice none 0 0, .int .i64 0, .int .i64 0]] rfl (by kernel_rfl) (by kernel_rfl) (by kernel_rfl)
      (OpenSpec.preRow_of_cond 8 hx (by kernel_rfl) (fun k hk => by cases hk) (by kernel_rfl) (laidMet_of_run' 8 (by kernel_rfl) (by kernel_rfl)))) ?_
  intro W base args ds gs before hval0 hW _ hcond hreach hL _ _
  have hval : ∀ (j : Nat) t v, Tryd.f3.params[j]? = some t → args[j]? = some v → Value.okWide Tryd.prog W .any base t v := hval0
  have hW' := hW
  obtain ⟨p, q, hA0, hV, rfl, hfz, hnd⟩ := hW
  have hA : DataW.TrodAll enc Tryd.prog W 0 (fun _ => true) true Tryd.f3.params.toList args.toList ds p := hA0
  rw [Tryd.params3] at hA hval
  obtain ⟨v0, vs0, d0, ds0, p0, q0, hargs, rfl, rfl, h0, r0⟩ := trodAll_cons hA
  obtain ⟨rfl, rfl, rfl⟩ := trodAll_nil r0
  obtain rfl : args = #[v0] := by cases args; simp_all
  obtain ⟨rfl, rfl⟩ := trodVars_none hV
  have lt0 : ∀ x ∈ p0, x.block < W.heap.size := by obtain ⟨m, hm⟩ := h0; exact DataW.trod_lt m _ _ _ hm
  have k0 := h0
  obtain ⟨cs, rfl, hsz⟩ := okWide_struct Tryd.underlying25 (hval 0 25 v0 rfl rfl)
  obtain ⟨fuel, hf⟩ := h0
  obtain ⟨kind, attr, qi, ci, ints, qw, cw, words, lo, hi, e0, e1, e2, e3, e4, e5, hcs, hd, s1, g1, s2, g2⟩ := open_six (cs := cs.toList) (by simpa [Value.cells] using hf) (by simp [hsz, Tryd.cells25])
  obtain rfl : cs = #[.int .i64 kind, .string attr, .slice qi ints.length ci, .slice qw words.length cw, .int .i64 lo, .int .i64 hi] := by cases cs; simp_all
  simp only at hd
  subst hd
  obtain ⟨z1, z2⟩ := pred_sized hreach
  have m1 : ints.length * 8 + 64 ≤ 140737488355328 := by
    rcases g1 with rfl | ⟨D, E, hD, hl⟩
    · simp
    · have := z1 D E hD
      unfold reachBytes at this
      omega
  have m2 : words.length * 16 + 64 ≤ 140737488355328 := by
    rcases g2 with rfl | ⟨D, E, hD, hl⟩
    · simp
    · have := z2 D E hD
      unfold reachBytes at this
      omega
  clear hA0 hval0
  refine (treePreds_any kind attr qi ci ints qw cw words lo hi W (G_of_laid hL) s1 s2 m1 m2).mono fun e W' ⟨he, bel⟩ => ?_
  subst he
  exact ⟨_, rfl, _, _, _, [], _, [], hW', trodAll_mk1 (shut_bool Tryd.underlying4 _), (trodAll_cons_mk (Below.trod Tryd.laidOut (by kernel_rfl) (of_decide_eq_true (by kernel_rfl)) k0 bel lt0) trodAll_mk0), rfl, bel.frame _, fun h => by cases h⟩

theorem treePreds_row : Rows.TreePredsSaid :=
  OpenClaim.holds_of_cond 3 Tryd.f3 rfl rfl rfl rfl rfl rfl rfl ⟨rfl, rfl, rfl, rfl, rfl⟩ rfl rfl rfl rfl rfl (by kernel_rfl) Tryd.func3 (by kernel_rfl)
    (of_decide_eq_true (by kernel_rfl)) (by unfold Func.isWrapper; first | (rw [if_pos (by decide +kernel)]; kernel_rfl) | (rw [if_neg (by decide +kernel)]; exact ⟨rfl, rfl⟩))
    (fun os started H enc _ F => by rw [OpenClaim.pre_eq_preRow]; exact treePreds_lifted os started H enc F)

/-- THE STATEMENT. -/
theorem treePreds_holds : Rows.TreePredsCardSaid :=
  Claim7.holds_tied_plain_at .later [] _ _ _ _ treePreds_row (fun _ h => by cases h) (by kernel_rfl) (fun _ h => by cases h) treePreds_row_tie rfl ⟨rfl, rfl⟩ (by kernel_rfl) rfl
    (fun f fn hf hfn => by
      obtain rfl : f = 3 := Option.some.inj ((show Tryd.prog.funcNamed "trommel/trommellaw04.TreePreds" = some 3 by kernel_rfl).symm.trans hf) |>.symm
      obtain rfl : fn = Tryd.f3 := (Option.some.inj (Tryd.func3.symm.trans hfn)).symm
      exact ⟨by kernel_rfl, fun j t ht => by
        rw [Tryd.params3] at ht
        rcases j with _ | j
        · obtain rfl : t = 25 := by simpa using ht.symm
          exact (show Tryd.prog.wantsStandIn 25 = false by kernel_rfl)
        · simp at ht
        ⟩)
    (by kernel_rfl)
end Go.Proofs.YtpgknpoolkbboabDoor

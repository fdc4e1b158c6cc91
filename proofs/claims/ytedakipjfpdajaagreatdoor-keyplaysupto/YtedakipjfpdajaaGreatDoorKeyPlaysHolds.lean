/- The law KeyPlays holds where its arguments hold at most 1048576 values and letters: it returns true, and what it is given reads as it did. -/
import Derived.Test.YtedakipjfpdajaaGreatDoorPlLaw
import Derived.Test.YtedakipjfpdajaaGreatDoorZap
import Derived.Test.YtedakipjfpdajaaGreatDoorTie
import Derived.Test.YtedakipjfpdajaaGreatDoorCards
namespace Go.Proofs.YtedakipjfpdajaaGreatDoor
open Go.ChangeShapes Go.WideShapes Go.ChangeAt Go.RowKit Go.Joins

theorem keyPlays_reads (os : Os) {H : Type} (enc : TypeId × Value → H) : ∃ places, DataW.whole enc Tryz.prog ((World.doorLaid Tryz.prog 400 os).forCall (fun _ _ => 0) ⟨#[], #[.agg #[.int .i64 0, .string ⟨#[]⟩, .slice none 0 0, .slice none 0 0, .int .i64 0, .int .i64 0], .slice none 0 0], []⟩).memory Tryz.f3.params.toList Rows.keyPlaysSpec.vars false (#[.agg #[.int .i64 0, .string ⟨#[]⟩, .slice none 0 0, .slice none 0 0, .int .i64 0, .int .i64 0], .slice none 0 0] : Array Value).toList 8 = some ([.agg [.lit (.int .i64 0), .lit (.string []), .nil, .nil, .lit (.int .i64 0), .lit (.int .i64 0)], .nil], [], places) :=
  ⟨[], by kernel_rfl⟩
set_option maxRecDepth 100000 in
theorem keyPlays_lifted (os : Os) (started : os.Started) (H : Type) (enc : TypeId × Value → H) (F : Stop.Interp) :
    ReturnsInHanded {} Tryz.checked os 3 .any ((Rows.OpenSpec.upto Rows.keyPlaysSpec).preRow enc Tryz.prog Tryz.f3 Rows.keyPlaysUptoRow.domain false Rows.keyPlaysUptoRow.laid) (((Rows.OpenSpec.upto Rows.keyPlaysSpec).at F).post enc Tryz.prog Tryz.f3 false true false false) := by
  obtain ⟨places, hx⟩ := keyPlays_reads os enc
  refine returnsInHanded_of_row (C := Tryz.checked) (s := (Rows.OpenSpec.upto Rows.keyPlaysSpec)) Tryz.own started (by kernel_rfl) Tryz.func3
    (witness_row_atRef (enc := enc) (C := Tryz.checked) false (World.doorLaid Tryz.prog 400 os) #[.agg #[.int .i64 0, .string ⟨#[]⟩, .slice none 0 0, .slice none 0 0, .int .i64 0, .int .i64 0], .slice none 0 0] rfl (by kernel_rfl) (by kernel_rfl) (by kernel_rfl)
      (OpenSpec.preRow_of_cond 8 hx (by kernel_rfl) (fun k hk => by cases hk; kernel_rfl) (by kernel_rfl) (laidMet_of_run' 8 (by kernel_rfl) (by kernel_rfl)))) ?_
  intro W base args ds gs before hval0 hW _ hcond hreach hL _ _
  have hval : ∀ (j : Nat) t v, Tryz.f3.params[j]? = some t → args[j]? = some v → Value.okWide Tryz.prog W .any base t v := hval0
  have hW' := hW
  obtain ⟨p, q, hA0, hV, rfl, hfz, hnd⟩ := hW
  have hA : DataW.TrodAll enc Tryz.prog W 0 (fun _ => true) true Tryz.f3.params.toList args.toList ds p := hA0
  rw [Tryz.params3] at hA hval
  obtain ⟨v0, vs0, d0, ds0, p0, q0, hargs, rfl, rfl, h0, r0⟩ := trodAll_cons hA
  obtain ⟨v1, vs1, d1, ds1, p1, q1, rfl, rfl, rfl, h1, r1⟩ := trodAll_cons r0
  obtain ⟨rfl, rfl, rfl⟩ := trodAll_nil r1
  obtain rfl : args = #[v0, v1] := by cases args; simp_all
  obtain ⟨rfl, rfl⟩ := trodVars_none hV
  have lt0 : ∀ x ∈ p0, x.block < W.heap.size := by obtain ⟨m, hm⟩ := h0; exact DataW.trod_lt m _ _ _ hm
  have k0 := h0
  have lt1 : ∀ x ∈ p1, x.block < W.heap.size := by obtain ⟨m, hm⟩ := h1; exact DataW.trod_lt m _ _ _ hm
  have k1 := h1
  obtain ⟨cs, rfl, hsz⟩ := okWide_struct Tryz.underlying25 (hval 0 25 v0 rfl rfl)
  obtain ⟨fuel, hf⟩ := h0
  obtain ⟨kind, attr, qi, ci, ints, qw, cw, words, lo, hi, e0, e1, e2, e3, e4, e5, hcs, hd, s1, g1, s2, g2⟩ := open_six (cs := cs.toList) (by simpa [Value.cells] using hf) (by simp [hsz, Tryz.cells25])
  obtain rfl : cs = #[.int .i64 kind, .string attr, .slice qi ints.length ci, .slice qw words.length cw, .int .i64 lo, .int .i64 hi] := by cases cs; simp_all
  simp only at hd
  subst hd
  obtain ⟨z1, z2⟩ := pred_sized hreach
  have m1 : ints.length * 8 + 64 ≤ 140737488355328 := by
    rcases g1 with rfl | ⟨D, E, hD, hl⟩
    · simp
    · have := z1 D E hD
      unfold reachBytes at this
      omega
  have m2 : words.length * 16 + 64 ≤ 140737488355328 := by
    rcases g2 with rfl | ⟨D, E, hD, hl⟩
    · simp
    · have := z2 D E hD
      unfold reachBytes at this
      omega
  obtain ⟨fuel1, hf1⟩ := h1
  obtain ⟨a3, len3, cap3, rfl⟩ := okWide_slice Tryz.underlying26 (hval 1 26 v1 rfl rfl)
  obtain ⟨qe, ce, ev, ee3, s3, fe3, g3⟩ := open_slP (enc' := encR) (v := .slice a3 len3 cap3) Tryz.underlying26 Tryz.cells42 (by decide) dec_pairP (by simpa [Value.cells] using hf1)
  obtain ⟨rfl, rfl, rfl⟩ : a3 = qe ∧ len3 = ev.length ∧ cap3 = ce := by injection ee3 with x1 x2 x3; exact ⟨x1, x2, x3⟩
  have hbk := hcond _ rfl
  have hbk2 := of_decide_eq_true hbk
  simp only [Rows.uptoBulkAll, List.append_nil] at hbk2
  have m3 : ev.length ≤ 1048576 := by
    rcases g3 with rfl | ⟨D, E, hD, hl⟩
    · simp
    · simp only at hD
      subst hD
      have := bulk_len D
      simp only [Rows.uptoBulk] at hbk2
      omega
  clear hA0 hval0
  refine (keyPlays_law kind attr qi ci ints qw cw words lo hi a3 cap3 ev W (G_of_laid hL) s1 s2 s3 m1 m2 (by omega) fe3).mono fun e W' ⟨he, bel⟩ => ?_
  subst he
  exact ⟨_, rfl, _, _, _, [], _, [], hW', trodAll_mk1 (shut_bool Tryz.underlying4 _), (trodAll_cons_mk (Below.trod Tryz.laidOut (by kernel_rfl) (of_decide_eq_true (by kernel_rfl)) k0 bel lt0) (trodAll_cons_mk (Below.trod Tryz.laidOut (by kernel_rfl) (of_decide_eq_true (by kernel_rfl)) k1 bel lt1) trodAll_mk0)), rfl, bel.frame _, fun h => by cases h⟩

theorem keyPlays_row : Rows.KeyPlaysUptoSaid :=
  OpenClaim.holds_of_cond 3 Tryz.f3 rfl rfl rfl rfl rfl rfl rfl ⟨rfl, rfl, rfl, rfl, rfl⟩ rfl rfl rfl rfl rfl (by kernel_rfl) Tryz.func3 (by kernel_rfl)
    (of_decide_eq_true (by kernel_rfl)) (by unfold Func.isWrapper; first | (rw [if_pos (by decide +kernel)]; kernel_rfl) | (rw [if_neg (by decide +kernel)]; exact ⟨rfl, rfl⟩))
    (fun os started H enc _ F => by rw [OpenClaim.pre_eq_preRow]; exact keyPlays_lifted os started H enc F)

/-- THE STATEMENT. -/
theorem keyPlays_holds : Rows.KeyPlaysUptoCardSaid :=
  Claim7.holds_tied_plain_at .later [] _ _ _ _ keyPlays_row (fun _ h => by cases h) (by kernel_rfl) (fun _ h => by cases h) keyPlaysUpto_row_tie rfl ⟨rfl, rfl⟩ (by kernel_rfl) rfl
    (fun f fn hf hfn => by
      obtain rfl : f = 3 := Option.some.inj ((show Tryz.prog.funcNamed "trommel/trommellaw12.KeyPlays" = some 3 by kernel_rfl).symm.trans hf) |>.symm
      obtain rfl : fn = Tryz.f3 := (Option.some.inj (Tryz.func3.symm.trans hfn)).symm
      exact ⟨by kernel_rfl, fun j t ht => by
        rw [Tryz.params3] at ht
        rcases j with _ | j
        · obtain rfl : t = 25 := by simpa using ht.symm
          exact (show Tryz.prog.wantsStandIn 25 = false by kernel_rfl)
        rcases j with _ | j
        · obtain rfl : t = 26 := by simpa using ht.symm
          exact (show Tryz.prog.wantsStandIn 26 = false by kernel_rfl)
        simp at ht
        ⟩)
    (by kernel_rfl)
end Go.Proofs.YtedakipjfpdajaaGreatDoor

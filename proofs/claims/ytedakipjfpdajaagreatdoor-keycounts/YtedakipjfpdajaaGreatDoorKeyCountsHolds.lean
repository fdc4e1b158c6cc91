/- The law KeyCounts holds: it returns true, and what it is given reads as it did. -/
import Derived.Test.YtedakipjfpdajaaGreatDoorCntLaw
import Derived.Test.YtedakipjfpdajaaGreatDoorOpen
import Derived.Test.YtedakipjfpdajaaGreatDoorTie
import Derived.Test.YtedakipjfpdajaaGreatDoorCards
namespace Go.Proofs.YtedakipjfpdajaaGreatDoor
open Go.ChangeShapes Go.WideShapes Go.ChangeAt Go.RowKit Go.Joins

theorem Tryz.cells22 : Tryz.prog.cellsOf 22 = 1 := by kernel_rfl
theorem Tryz.cells23 : Tryz.prog.cellsOf 23 = 1 := by kernel_rfl
theorem Tryz.cells25 : Tryz.prog.cellsOf 25 = 6 := by kernel_rfl
theorem Tryz.cells40 : Tryz.prog.cellsOf 40 = 3 := by kernel_rfl
theorem Tryz.bytes3 : Tryz.prog.bytesOf 3 = 8 := by kernel_rfl
theorem Tryz.bytes9 : Tryz.prog.bytesOf 9 = 16 := by kernel_rfl
theorem dec_int {H : Type} {enc : TypeId × Value → H} {W : World} {base : Nat} {sp : Nat → Bool} {held : Bool} (fuel : Nat) (cs : List Value) (x : DataW H × List MemPlace) (h : DataW.trod enc Tryz.prog W base sp held fuel 3 cs = some x) (_ : cs.length = 1) : ∃ y : Int, ∀ c, c < 1 → cs[c]? = some ((encI y)[c]!) := by
  obtain ⟨a, e0, _, _⟩ := DataW.trod_int Tryz.underlying3 h
  exact ⟨a, fun c hc => by
    have h0 : c = 0 := (by omega)
    rw [h0, e0]; rfl⟩
theorem dec_word {H : Type} {enc : TypeId × Value → H} {W : World} {base : Nat} {sp : Nat → Bool} {held : Bool} (fuel : Nat) (cs : List Value) (x : DataW H × List MemPlace) (h : DataW.trod enc Tryz.prog W base sp held fuel 9 cs = some x) (_ : cs.length = 1) : ∃ y : ByteArray, ∀ c, c < 1 → cs[c]? = some ((encS y)[c]!) := by
  obtain ⟨a, e0, _, _⟩ := DataW.trod_string Tryz.underlying9 h
  exact ⟨a, fun c hc => by
    have h0 : c = 0 := (by omega)
    rw [h0, e0]; rfl⟩
theorem trod_six {H : Type} {enc : TypeId × Value → H} {P : Program} {w : World} {base : Nat} {spare : Nat → Bool} {held : Bool} {t : TypeId} {f0 f1 f2 f3 f4 f5 : Field} {fuel : Nat} {cs : List Value} {x : DataW H × List MemPlace} (ht : P.underlying t = some (.struct #[f0, f1, f2, f3, f4, f5])) (h : DataW.trod enc P w base spare held fuel t cs = some x) :
    ∃ y0 y1 y2 y3 y4 y5 n, x.1 = .agg [y0.1, y1.1, y2.1, y3.1, y4.1, y5.1] ∧ DataW.trod enc P w base spare held n f0.type ((cs.drop f0.offset).take (P.cellsOf f0.type)) = some y0 ∧ DataW.trod enc P w base spare held n f1.type ((cs.drop f1.offset).take (P.cellsOf f1.type)) = some y1 ∧ DataW.trod enc P w base spare held n f2.type ((cs.drop f2.offset).take (P.cellsOf f2.type)) = some y2 ∧ DataW.trod enc P w base spare held n f3.type ((cs.drop f3.offset).take (P.cellsOf f3.type)) = some y3 ∧ DataW.trod enc P w base spare held n f4.type ((cs.drop f4.offset).take (P.cellsOf f4.type)) = some y4 ∧ DataW.trod enc P w base spare held n f5.type ((cs.drop f5.offset).take (P.cellsOf f5.type)) = some y5 := by
  obtain ⟨xs, n, _, rfl, hl, hlen, hf⟩ := DataW.trod_struct ht h
  match xs, hlen with
  | [y0, y1, y2, y3, y4, y5], _ => exact ⟨y0, y1, y2, y3, y4, y5, n, by simp, by simpa using hf 0 f0 rfl, by simpa using hf 1 f1 rfl, by simpa using hf 2 f2 rfl, by simpa using hf 3 f3 rfl, by simpa using hf 4 f4 rfl, by simpa using hf 5 f5 rfl⟩
set_option maxRecDepth 100000 in
/-- The six cells of a predicate. -/
theorem open_six {H : Type} {enc : TypeId × Value → H} {W : World} {base : Nat} {sp : Nat → Bool} {held : Bool} {fuel : Nat} {cs : List Value} {x : DataW H × List MemPlace} (h : DataW.trod enc Tryz.prog W base sp held fuel 25 cs = some x) (hl : cs.length = 6) :
    ∃ (kind : Int) (attr : ByteArray) (qi : Option Addr) (ci : Nat) (ints : List Int) (qw : Option Addr) (cw : Nat) (words : List ByteArray) (lo hi : Int) (d0 d1 d2 d3 d4 d5 : DataW H), cs = [.int .i64 kind, .string attr, .slice qi ints.length ci, .slice qw words.length cw, .int .i64 lo, .int .i64 hi] ∧ x.1 = .agg [d0, d1, d2, d3, d4, d5] ∧
      SlOf encI 1 W qi ci ints ∧ (ints = [] ∨ ∃ D E, d2 = .slice D E ∧ D.length = ints.length) ∧ SlOf encS 1 W qw cw words ∧ (words = [] ∨ ∃ D E, d3 = .slice D E ∧ D.length = words.length) := by
  obtain ⟨y0, y1, y2, y3, y4, y5, n, hx, h0, h1, h2, h3, h4, h5⟩ := trod_six Tryz.underlying25 h
  match cs, hl with
  | [c0, c1, c2, c3, c4, c5], _ =>
    simp only [Tryz.cells3, Tryz.cells9, Tryz.cells22, Tryz.cells23, List.drop, List.take] at h0 h1 h2 h3 h4 h5
    obtain ⟨kind, e0, _, _⟩ := DataW.trod_int Tryz.underlying3 h0
    obtain ⟨attr, e1, _, _⟩ := DataW.trod_string Tryz.underlying9 h1
    obtain ⟨qi, ci, ints, e2, s2, g2⟩ := open_sl (enc' := encI) Tryz.underlying22 Tryz.cells3 (by decide) dec_int h2
    obtain ⟨qw, cw, words, e3, s3, g3⟩ := open_sl (enc' := encS) Tryz.underlying23 Tryz.cells9 (by decide) dec_word h3
    obtain ⟨lo, e4, _, _⟩ := DataW.trod_int Tryz.underlying3 h4
    obtain ⟨hi, e5, _, _⟩ := DataW.trod_int Tryz.underlying3 h5
    simp only [List.cons.injEq, and_true] at e0 e1 e4 e5
    refine ⟨kind, attr, qi, ci, ints, qw, cw, words, lo, hi, y0.1, y1.1, y2.1, y3.1, y4.1, y5.1, by rw [e0, e1, e2, e3, e4, e5], hx, s2, g2, s3, g3⟩
theorem pred_sized {H : Type} {d0 d1 d2 d3 d4 d5 : DataW H} {ts : List TypeId} {ds : List (DataW H)} (hreach : (DataW.weightsEach Tryz.prog (25 :: ts) (.agg [d0, d1, d2, d3, d4, d5] :: ds)).all (· ≤ reachBytes) = true) :
    (∀ D E, d2 = .slice D E → (D.length + E.length) * 8 ≤ reachBytes) ∧ (∀ D E, d3 = .slice D E → (D.length + E.length) * 16 ≤ reachBytes) := by
  have hin : ∀ n, n ∈ DataW.weightsEach Tryz.prog [3, 9, 22, 23, 3, 3] [d0, d1, d2, d3, d4, d5] → n ≤ reachBytes := fun n hn => by
    have h1 : n ∈ (DataW.agg [d0, d1, d2, d3, d4, d5]).weights Tryz.prog 25 := by
      simp only [DataW.weights, Tryz.underlying25]; exact hn
    have := List.all_eq_true.1 hreach n (DataW.weights_mem_each (j := 0) rfl rfl n h1)
    simpa using this
  refine ⟨fun D E hd => ?_, fun D E hd => ?_⟩
  · subst hd
    have := hin _ (DataW.weights_mem_each (j := 2) rfl rfl ((D.length + E.length) * Tryz.prog.bytesOf 3) (by simp [DataW.weights, Tryz.underlying22]))
    rwa [Tryz.bytes3] at this
  · subst hd
    have := hin _ (DataW.weights_mem_each (j := 3) rfl rfl ((D.length + E.length) * Tryz.prog.bytesOf 9) (by simp [DataW.weights, Tryz.underlying23]))
    rwa [Tryz.bytes9] at this
theorem trod_three {H : Type} {enc : TypeId × Value → H} {P : Program} {w : World} {base : Nat} {spare : Nat → Bool} {held : Bool} {t : TypeId} {f0 f1 f2 : Field} {fuel : Nat} {cs : List Value} {x : DataW H × List MemPlace} (ht : P.underlying t = some (.struct #[f0, f1, f2])) (h : DataW.trod enc P w base spare held fuel t cs = some x) :
    ∃ y0 y1 y2 n, DataW.trod enc P w base spare held n f0.type ((cs.drop f0.offset).take (P.cellsOf f0.type)) = some y0 ∧ DataW.trod enc P w base spare held n f1.type ((cs.drop f1.offset).take (P.cellsOf f1.type)) = some y1 ∧ DataW.trod enc P w base spare held n f2.type ((cs.drop f2.offset).take (P.cellsOf f2.type)) = some y2 := by
  obtain ⟨xs, n, hn, rfl, hl, hlen, hf⟩ := DataW.trod_struct ht h
  match xs, hlen with
  | [y0, y1, y2], _ => exact ⟨y0, y1, y2, n, by simpa using hf 0 f0 rfl, by simpa using hf 1 f1 rfl, by simpa using hf 2 f2 rfl⟩
set_option maxRecDepth 100000 in
theorem open_val {H : Type} {enc : TypeId × Value → H} {W : World} {base : Nat} {sp : Nat → Bool} {held : Bool} {fuel : Nat} {cs : List Value} {x : DataW H × List MemPlace} (h : DataW.trod enc Tryz.prog W base sp held fuel 40 cs = some x) (hl : cs.length = 3) :
    ∃ (k n : Int) (s : ByteArray), cs = [.int .i64 k, .int .i64 n, .string s] := by
  obtain ⟨y0, y1, y2, n, h0, h1, h2⟩ := trod_three Tryz.underlying40 h
  match cs, hl with
  | [c0, c1, c2], _ =>
    simp only [Tryz.cells3, Tryz.cells9, List.drop, List.take] at h0 h1 h2
    obtain ⟨k, e0, _, _⟩ := DataW.trod_int Tryz.underlying3 h0
    obtain ⟨i, e1, _, _⟩ := DataW.trod_int Tryz.underlying3 h1
    obtain ⟨s, e2, _, _⟩ := DataW.trod_string Tryz.underlying9 h2
    simp only [List.cons.injEq, and_true] at e0 e1 e2
    exact ⟨k, i, s, by rw [e0, e1, e2]⟩
theorem keyCounts_reads (os : Os) {H : Type} (enc : TypeId × Value → H) : ∃ places, DataW.whole enc Tryz.prog ((World.doorLaid Tryz.prog 400 os).forCall (fun _ _ => 0) ⟨#[], #[.agg #[.int .i64 0, .string ⟨#[]⟩, .slice none 0 0, .slice none 0 0, .int .i64 0, .int .i64 0], .agg #[.int .i64 0, .int .i64 0, .string ⟨#[]⟩], .string ⟨#[]⟩], []⟩).memory Tryz.f5.params.toList Rows.keyCountsSpec.vars false (#[.agg #[.int .i64 0, .string ⟨#[]⟩, .slice none 0 0, .slice none 0 0, .int .i64 0, .int .i64 0], .agg #[.int .i64 0, .int .i64 0, .string ⟨#[]⟩], .string ⟨#[]⟩] : Array Value).toList 8 = some ([.agg [.lit (.int .i64 0), .lit (.string []), .nil, .nil, .lit (.int .i64 0), .lit (.int .i64 0)], .agg [.lit (.int .i64 0), .lit (.int .i64 0), .lit (.string [])], .lit (.string [])], [], places) :=
  ⟨[], by kernel_rfl⟩
set_option maxRecDepth 100000 in
theorem keyCounts_lifted (os : Os) (started : os.Started) (H : Type) (enc : TypeId × Value → H) (F : Stop.Interp) :
    ReturnsInHanded {} Tryz.checked os 5 .any ((OpenSpec.ofChange Rows.keyCountsSpec).preRow enc Tryz.prog Tryz.f5 Rows.keyCountsRow.domain false Rows.keyCountsRow.laid) (((OpenSpec.ofChange Rows.keyCountsSpec).at F).post enc Tryz.prog Tryz.f5 false true false false) := by
  obtain ⟨places, hx⟩ := keyCounts_reads os enc
  refine returnsInHanded_of_row (C := Tryz.checked) (s := (OpenSpec.ofChange Rows.keyCountsSpec)) Tryz.own started (by kernel_rfl) Tryz.func5
    (witness_row_atRef (enc := enc) (C := Tryz.checked) false (World.doorLaid Tryz.prog 400 os) #[.agg #[.int .i64 0, .string ⟨#[]⟩, .slice none 0 0, .slice none 0 0, .int .i64 0, .int .i64 0], .agg #[.int .i64 0, .int .i64 0, .string ⟨#[]⟩], .string ⟨#[]⟩] rfl (by kernel_rfl) (by kernel_rfl) (by kernel_rfl)
      (OpenSpec.preRow_of_cond 8 hx (by kernel_rfl) (fun k hk => by cases hk) (by kernel_rfl) (laidMet_of_run' 8 (by kernel_rfl) (by kernel_rfl)))) ?_
  intro W base args ds gs before hval0 hW _ hcond hreach hL _ _
  have hval : ∀ (j : Nat) t v, Tryz.f5.params[j]? = some t → args[j]? = some v → Value.okWide Tryz.prog W .any base t v := hval0
  have hW' := hW
  obtain ⟨p, q, hA0, hV, rfl, hfz, hnd⟩ := hW
  have hA : DataW.TrodAll enc Tryz.prog W 0 (fun _ => true) true Tryz.f5.params.toList args.toList ds p := hA0
  rw [Tryz.params5] at hA hval
  obtain ⟨v0, vs0, d0, ds0, p0, q0, hargs, rfl, rfl, h0, r0⟩ := trodAll_cons hA
  obtain ⟨v1, vs1, d1, ds1, p1, q1, rfl, rfl, rfl, h1, r1⟩ := trodAll_cons r0
  obtain ⟨v2, vs2, d2, ds2, p2, q2, rfl, rfl, rfl, h2, r2⟩ := trodAll_cons r1
  obtain ⟨rfl, rfl, rfl⟩ := trodAll_nil r2
  obtain rfl : args = #[v0, v1, v2] := by cases args; simp_all
  obtain ⟨rfl, rfl⟩ := trodVars_none hV
  have lt0 : ∀ x ∈ p0, x.block < W.heap.size := by obtain ⟨m, hm⟩ := h0; exact DataW.trod_lt m _ _ _ hm
  have k0 := h0
  have lt1 : ∀ x ∈ p1, x.block < W.heap.size := by obtain ⟨m, hm⟩ := h1; exact DataW.trod_lt m _ _ _ hm
  have k1 := h1
  have lt2 : ∀ x ∈ p2, x.block < W.heap.size := by obtain ⟨m, hm⟩ := h2; exact DataW.trod_lt m _ _ _ hm
  have k2 := h2
  obtain ⟨cs, rfl, hsz⟩ := okWide_struct Tryz.underlying25 (hval 0 25 v0 rfl rfl)
  obtain ⟨fuel, hf⟩ := h0
  obtain ⟨kind, attr, qi, ci, ints, qw, cw, words, lo, hi, e0, e1, e2, e3, e4, e5, hcs, hd, s1, g1, s2, g2⟩ := open_six (cs := cs.toList) (by simpa [Value.cells] using hf) (by simp [hsz, Tryz.cells25])
  obtain rfl : cs = #[.int .i64 kind, .string attr, .slice qi ints.length ci, .slice qw words.length cw, .int .i64 lo, .int .i64 hi] := by cases cs; simp_all
  simp only at hd
  subst hd
  obtain ⟨z1, z2⟩ := pred_sized hreach
  have m1 : ints.length * 8 + 64 ≤ 140737488355328 := by
    rcases g1 with rfl | ⟨D, E, hD, hl⟩
    · simp
    · have := z1 D E hD
      unfold reachBytes at this
      omega
  have m2 : words.length * 16 + 64 ≤ 140737488355328 := by
    rcases g2 with rfl | ⟨D, E, hD, hl⟩
    · simp
    · have := z2 D E hD
      unfold reachBytes at this
      omega
  obtain ⟨cs1, rfl, hsz1⟩ := okWide_struct Tryz.underlying40 (hval 1 40 v1 rfl rfl)
  obtain ⟨fuel1, hf1⟩ := h1
  obtain ⟨vk, vn, vs, hcs1⟩ := open_val (cs := cs1.toList) (by simpa [Value.cells] using hf1) (by simp [hsz1, Tryz.cells40])
  obtain rfl : cs1 = #[.int .i64 vk, .int .i64 vn, .string vs] := by cases cs1; simp_all
  obtain ⟨name, rfl, rfl, rfl, _⟩ := Go.ChangeMaps.open_string Tryz.underlying9 (hval 2 9 v2 rfl rfl) h2
  clear hA0 hval0
  refine (keyCounts_law kind attr qi ci ints qw cw words lo hi vk vn vs name W (fun W hG => fixedK W hG) (G_of_laid hL) s1 s2 (by omega) (by omega)).mono fun e W' ⟨he, bel⟩ => ?_
  subst he
  exact ⟨_, rfl, _, _, _, [], _, [], hW', trodAll_mk1 (shut_bool Tryz.underlying4 _), (trodAll_cons_mk (Below.trod Tryz.laidOut (by kernel_rfl) (of_decide_eq_true (by kernel_rfl)) k0 bel lt0) (trodAll_cons_mk (Below.trod Tryz.laidOut (by kernel_rfl) (of_decide_eq_true (by kernel_rfl)) k1 bel lt1) (trodAll_cons_mk (Below.trod Tryz.laidOut (by kernel_rfl) (of_decide_eq_true (by kernel_rfl)) k2 bel lt2) trodAll_mk0))), rfl, bel.frame _, fun h => by cases h⟩

theorem keyCounts_row : Rows.KeyCountsSaid :=
  OpenClaim.holds_of_cond 5 Tryz.f5 rfl rfl rfl rfl rfl rfl rfl ⟨rfl, rfl, rfl, rfl, rfl⟩ rfl rfl rfl rfl rfl (by kernel_rfl) Tryz.func5 (by kernel_rfl)
    (of_decide_eq_true (by kernel_rfl)) (by unfold Func.isWrapper; first | (rw [if_pos (by decide +kernel)]; kernel_rfl) | (rw [if_neg (by decide +kernel)]; exact ⟨rfl, rfl⟩))
    (fun os started H enc _ F => by rw [OpenClaim.pre_eq_preRow]; exact keyCounts_lifted os started H enc F)

/-- THE STATEMENT. -/
theorem keyCounts_holds : Rows.KeyCountsCardSaid :=
  Claim7.holds_tied_plain_at .later [] _ _ _ _ keyCounts_row (fun _ h => by cases h) (by kernel_rfl) (fun _ h => by cases h) keyCounts_row_tie rfl ⟨rfl, rfl⟩ (by kernel_rfl) rfl
    (fun f fn hf hfn => by
      obtain rfl : f = 5 := Option.some.inj ((show Tryz.prog.funcNamed "trommel/trommellaw12.KeyCounts" = some 5 by kernel_rfl).symm.trans hf) |>.symm
      obtain rfl : fn = Tryz.f5 := (Option.some.inj (Tryz.func5.symm.trans hfn)).symm
      exact ⟨by kernel_rfl, fun j t ht => by
        rw [Tryz.params5] at ht
        rcases j with _ | j
        · obtain rfl : t = 25 := by simpa using ht.symm
          exact (show Tryz.prog.wantsStandIn 25 = false by kernel_rfl)
        rcases j with _ | j
        · obtain rfl : t = 40 := by simpa using ht.symm
          exact (show Tryz.prog.wantsStandIn 40 = false by kernel_rfl)
        rcases j with _ | j
        · obtain rfl : t = 9 := by simpa using ht.symm
          exact (show Tryz.prog.wantsStandIn 9 = false by kernel_rfl)
        simp at ht
        ⟩)
    (by kernel_rfl)
end Go.Proofs.YtedakipjfpdajaaGreatDoor

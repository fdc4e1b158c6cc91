/- The law ValueLeast holds: at any list of values it returns true, and the list reads as it did. -/
import Derived.Test.YtojeihchkdkkgaaDoorLeastZero
import Derived.Test.YtojeihchkdkkgaaDoorLaid
import Derived.Test.YtojeihchkdkkgaaDoorOpen
import Derived.Test.YtojeihchkdkkgaaDoorTie
import Derived.Test.YtojeihchkdkkgaaDoorCards
import Derived.Deep.Slices
import Derived.Deep.Strs
import Derived.Deep.DeepHandedRow
import Derived.Deep.DeepWitnessRowRef
namespace Go.Proofs.YtojeihchkdkkgaaDoor
open Go.ChangeShapes Go.WideShapes Go.ChangeAt Go.RowKit Go.Joins

theorem Tryd.cells3 : Tryd.prog.cellsOf 3 = 1 := by kernel_rfl

/-- The three cells of an element. -/
theorem open_three {H : Type} {enc : TypeId × Value → H} {W : World} {base : Nat} {sp : Nat → Bool} {held : Bool} {fuel : Nat} {cs : List Value} {x : DataW H × List MemPlace}
    (h : DataW.trod enc Tryd.prog W base sp held fuel 23 cs = some x) (hl : cs.length = 3) :
    ∃ y : Val, cs = [.int .i64 y.k, .int .i64 y.n, .string y.s] ∧ y.s.size ≤ maxLen := by
  obtain ⟨y0, y1, y2, n, _, _, h0, h1, h2⟩ := Go.Deep.trod_struct3 Tryd.underlying23 h
  match cs, hl with
  | [c0, c1, c2], _ =>
    simp only [Tryd.cells3, Tryd.cells9, List.drop, List.take] at h0 h1 h2
    obtain ⟨a, e0, _, _⟩ := DataW.trod_int Tryd.underlying3 h0
    obtain ⟨b, e1, _, _⟩ := DataW.trod_int Tryd.underlying3 h1
    obtain ⟨s, e2, _, hs⟩ := DataW.trod_string Tryd.underlying9 h2
    simp only [List.cons.injEq, and_true] at e0 e1 e2
    exact ⟨⟨a, b, s⟩, by rw [e0, e1, e2], hs⟩

theorem pick_vals {n : Nat} {p : Nat → Val → Prop} (h : ∀ i, i < n → ∃ x, p i x) : ∃ f : Nat → Val, ∀ i, i < n → p i (f i) := by
  classical
  refine ⟨fun i => if hi : i < n then Classical.choose (h i hi) else ⟨0, 0, ⟨#[]⟩⟩, fun i hi => ?_⟩
  simp only [dif_pos hi]
  exact Classical.choose_spec (h i hi)

theorem cell_spot {w : World} {a : Addr} {v : Value} (h : w.cell? a = some v) : a.spot = none ∧ a.block < w.heap.size := by
  unfold World.cell? at h
  split at h
  · next hc =>
    refine ⟨?_, (Array.getElem?_eq_some_iff.1 hc).1⟩
    split at h
    · cases h
    · next hs => simpa using hs
  · cases h

/-- A list of values among the arguments. -/
theorem open_vals {H : Type} {enc : TypeId × Value → H} {W : World} {r : Reach} {b0 base : Nat} {sp : Nat → Bool} {held : Bool} {v : Value} {d : DataW H} {p : List MemPlace}
    (hv : Value.okWide Tryd.prog W r b0 38 v) (h : DataW.Trod enc Tryd.prog W base sp held 38 v d p) :
    v = .slice none 0 0 ∨ (∃ a cap, v = .slice (some a) 0 cap) ∨
    ∃ b off n cap f D E, v = .slice (some ⟨b, off, none⟩) n cap ∧ 0 < n ∧ b < W.heap.size ∧ ValsAt W b off n f ∧ (∀ j, j < n → (f j).s.size ≤ maxLen) ∧ d = .slice D E ∧ D.length = n := by
  obtain ⟨a, len, cap, rfl⟩ := okWide_slice Tryd.underlying38 hv
  obtain ⟨fuel, hf⟩ := h
  rcases Go.Deep.open_slice Tryd.underlying38 hf with ⟨h1, _⟩ | ⟨a', len', cap', m, n, D, Pl, h1, _, hlc, _, hm, hx, hel⟩
  · left
    simpa [Value.cells] using h1
  · right
    simp only [Value.cells, List.cons.injEq, Value.slice.injEq, and_true] at h1
    obtain ⟨rfl, rfl, rfl⟩ := h1
    by_cases h0 : len = 0
    · subst h0; exact Or.inl ⟨_, _, rfl⟩
    right
    have hmm : len ≤ m := by rw [hm]; split <;> omega
    rw [Tryd.cells23] at hel
    have hth : ∀ i, i < m → ∃ y : Val, (W.cell? ((a'.add (i * 3)).add 0) = some (.int .i64 y.k) ∧ W.cell? ((a'.add (i * 3)).add 1) = some (.int .i64 y.n) ∧ W.cell? ((a'.add (i * 3)).add 2) = some (.string y.s)) ∧ y.s.size ≤ maxLen := fun i hi => by
      obtain ⟨cs', hc, ht⟩ := hel i hi
      obtain ⟨_, hl, hcell⟩ := World.cells?_some hc
      obtain ⟨y, rfl, hs⟩ := open_three ht hl
      exact ⟨y, ⟨hcell 0 (by omega), hcell 1 (by omega), hcell 2 (by omega)⟩, hs⟩
    obtain ⟨f, hf⟩ := pick_vals hth
    obtain ⟨⟨hc0, _, _⟩, _⟩ := hf 0 (by omega)
    have e0 : (a'.add (0 * 3)).add 0 = a' := by simp [Addr.add]
    rw [e0] at hc0
    obtain ⟨hs, hb⟩ := cell_spot hc0
    obtain ⟨b, off, spot⟩ := a'
    simp only at hs hb
    subst hs
    have eadd : ∀ k, (⟨b, off, none⟩ : Addr).add k = ⟨b, off + k, none⟩ := fun k => by
      unfold Addr.add
      split <;> simp_all
    have eadd2 : ∀ o k, (⟨b, o, none⟩ : Addr).add k = ⟨b, o + k, none⟩ := fun o k => by
      unfold Addr.add
      split <;> simp_all
    have hd : d = .slice ((List.range len).map D) ((List.range (m - len)).map fun j => D (len + j)) := congrArg Prod.fst hx
    refine ⟨b, off, len, cap, f, _, _, rfl, by omega, hb, fun j hj => ?_, fun j hj => (hf j (by omega)).2, hd, by simp⟩
    obtain ⟨⟨c0, c1, c2⟩, _⟩ := hf j (by omega)
    rw [eadd, eadd2] at c0 c1 c2
    exact ⟨c0, c1, c2⟩

theorem least_reads (os : Os) {H : Type} (enc : TypeId × Value → H) : ∃ places, DataW.whole enc Tryd.prog ((World.doorLaid Tryd.prog 400 os).forCall (fun _ _ => 0) ⟨#[], #[.slice none 0 0], []⟩).memory Tryd.f8.params.toList Rows.valueLeastSpec.vars false #[Value.slice none 0 0].toList 8 = some ([.nil], [], places) :=
  ⟨[], by kernel_rfl⟩

theorem Tryd.bytes23 : Tryd.prog.bytesOf 23 = 32 := by kernel_rfl

set_option maxRecDepth 100000 in
theorem valueLeast_lifted (os : Os) (started : os.Started) (H : Type) (enc : TypeId × Value → H) (F : Stop.Interp) :
    ReturnsInHanded {} Tryd.checked os 8 .any ((OpenSpec.ofChange Rows.valueLeastSpec).preRow enc Tryd.prog Tryd.f8 Rows.valueLeastRow.domain false Rows.valueLeastRow.laid) (((OpenSpec.ofChange Rows.valueLeastSpec).at F).post enc Tryd.prog Tryd.f8 false true false false) := by
  obtain ⟨places, hx⟩ := least_reads os enc
  refine returnsInHanded_of_row (C := Tryd.checked) (s := OpenSpec.ofChange Rows.valueLeastSpec) Tryd.own started (by kernel_rfl) Tryd.func8
    (witness_row_atRef (enc := enc) (C := Tryd.checked) false (World.doorLaid Tryd.prog 400 os) #[.slice none 0 0] rfl (by kernel_rfl) (by kernel_rfl) (by kernel_rfl)
      (OpenSpec.preRow_of_cond 8 hx (by kernel_rfl) (fun k hk => by cases hk) (by kernel_rfl) (laidMet_of_run' 8 (by kernel_rfl) (by kernel_rfl)))) ?_
  intro W base args ds gs before hval0 hW _ hcond hreach hL _ _
  have hval : ∀ (j : Nat) t v, Tryd.f8.params[j]? = some t → args[j]? = some v → Value.okWide Tryd.prog W .any base t v := hval0
  have hW' := hW
  obtain ⟨p, q, hA0, hV, rfl, hfz, hnd⟩ := hW
  have hA : DataW.TrodAll enc Tryd.prog W 0 (fun _ => true) true Tryd.f8.params.toList args.toList ds p := hA0
  rw [Tryd.params8] at hA hval
  obtain ⟨v0, vs0, d0, ds0, p0, q0, hargs, rfl, rfl, h0, r0⟩ := trodAll_cons hA
  obtain ⟨rfl, rfl, rfl⟩ := trodAll_nil r0
  obtain rfl : args = #[v0] := by cases args; simp_all
  obtain ⟨rfl, rfl⟩ := trodVars_none hV
  have lt0 : ∀ x ∈ p0, x.block < W.heap.size := by obtain ⟨m, hm⟩ := h0; exact DataW.trod_lt m _ _ _ hm
  have hG := G_of_laid hL
  have run : Calls Tryd.prog 8 #[v0] W fun e w' => e = .returned (.bool true) ∧ Below W.heap.size W w' := by
    rcases open_vals (hval 0 38 v0 rfl rfl) h0 with rfl | ⟨a, cap, rfl⟩ | ⟨b, off, n, cap, f, D, E, rfl, hn, hb, hf, hs, rfl, hD⟩
    · exact valueLeast_nil W hG
    · exact valueLeast_empty a cap W hG
    · have hsz : (D.length + E.length) * Tryd.prog.bytesOf 23 ≤ reachBytes := sized_slice hreach (j := 0) rfl rfl Tryd.underlying38
      rw [Tryd.bytes23, hD] at hsz
      unfold reachBytes at hsz
      exact valueLeast_pos b off n cap f W hG hn (by omega) hb hf hs
  clear hA0 hval0
  refine run.mono fun e W' ⟨he, bel⟩ => ?_
  subst he
  exact ⟨_, rfl, _, _, _, [], _, [], hW', trodAll_mk1 (shut_bool Tryd.underlying4 _), (trodAll_cons_mk (Below.trod Tryd.laidOut (by kernel_rfl) (of_decide_eq_true (by kernel_rfl)) h0 bel lt0) trodAll_mk0), rfl, bel.frame _, fun h => by cases h⟩

theorem valueLeast_row : Rows.ValueLeastSaid :=
  OpenClaim.holds_of_cond 8 Tryd.f8 rfl rfl rfl rfl rfl rfl rfl ⟨rfl, rfl, rfl, rfl, rfl⟩ rfl rfl rfl rfl rfl (by kernel_rfl) Tryd.func8 (by kernel_rfl)
    (of_decide_eq_true (by kernel_rfl)) (by unfold Func.isWrapper; first | (rw [if_pos (by decide +kernel)]; kernel_rfl) | (rw [if_neg (by decide +kernel)]; exact ⟨rfl, rfl⟩))
    (fun os started H enc _ F => by rw [OpenClaim.pre_eq_preRow]; exact valueLeast_lifted os started H enc F)

/-- THE STATEMENT. -/
theorem valueLeast_holds : Rows.ValueLeastCardSaid :=
  Claim7.holds_tied_plain_at .later [] _ _ _ _ valueLeast_row (fun _ h => by cases h) (by kernel_rfl) (fun _ h => by cases h) valueLeast_row_tie rfl ⟨rfl, rfl⟩ (by kernel_rfl) rfl
    (fun f fn hf hfn => by
      obtain rfl : f = 8 := Option.some.inj ((show Tryd.prog.funcNamed "trommel/trommellaw01.ValueLeast" = some 8 by kernel_rfl).symm.trans hf) |>.symm
      obtain rfl : fn = Tryd.f8 := (Option.some.inj (Tryd.func8.symm.trans hfn)).symm
      exact ⟨by kernel_rfl, fun j t ht => by
        rw [Tryd.params8] at ht
        rcases j with _ | j
        · obtain rfl : t = 38 := by simpa using ht.symm
          exact (show Tryd.prog.wantsStandIn 38 = false by kernel_rfl)
        · simp at ht
        ⟩)
    (by kernel_rfl)
end Go.Proofs.YtojeihchkdkkgaaDoor

/- How a script of calls, cuts and choices are opened among the arguments. -/
import Derived.Test.YtonhagoeajhacaaOpen
import Derived.Test.YtonhagoeajhacaaJk
namespace Go.Proofs.Ytonhagoeajhacaa
open Go.ChangeShapes Go.WideShapes Go.ChangeAt Go.RowKit Go.Joins

theorem Try.cells33 : Try.prog.cellsOf 33 = 7 := by kernel_rfl
theorem Try.cells31 : Try.prog.cellsOf 31 = 1 := by kernel_rfl
theorem Try.cells30 : Try.prog.cellsOf 30 = 1 := by kernel_rfl
theorem trod_seven {H : Type} {enc : TypeId × Value → H} {P : Program} {w : World} {base : Nat} {spare : Nat → Bool} {held : Bool} {t : TypeId} {f0 f1 f2 f3 f4 f5 f6 : Field} {fuel : Nat} {cs : List Value} {x : DataW H × List MemPlace} (ht : P.underlying t = some (.struct #[f0, f1, f2, f3, f4, f5, f6])) (h : DataW.trod enc P w base spare held fuel t cs = some x) :
    ∃ y0 y1 y2 y3 y4 y5 y6 n, n < fuel ∧ x.1 = .agg [y0.1, y1.1, y2.1, y3.1, y4.1, y5.1, y6.1] ∧ DataW.trod enc P w base spare held n f0.type ((cs.drop f0.offset).take (P.cellsOf f0.type)) = some y0 ∧ DataW.trod enc P w base spare held n f1.type ((cs.drop f1.offset).take (P.cellsOf f1.type)) = some y1 ∧ DataW.trod enc P w base spare held n f2.type ((cs.drop f2.offset).take (P.cellsOf f2.type)) = some y2 ∧ DataW.trod enc P w base spare held n f3.type ((cs.drop f3.offset).take (P.cellsOf f3.type)) = some y3 ∧ DataW.trod enc P w base spare held n f4.type ((cs.drop f4.offset).take (P.cellsOf f4.type)) = some y4 ∧ DataW.trod enc P w base spare held n f5.type ((cs.drop f5.offset).take (P.cellsOf f5.type)) = some y5 ∧ DataW.trod enc P w base spare held n f6.type ((cs.drop f6.offset).take (P.cellsOf f6.type)) = some y6 := by
  obtain ⟨xs, n, hn, rfl, hl, hlen, hf⟩ := DataW.trod_struct ht h
  match xs, hlen with
  | [y0, y1, y2, y3, y4, y5, y6], _ => exact ⟨y0, y1, y2, y3, y4, y5, y6, n, by omega, by simp, by simpa using hf 0 f0 rfl, by simpa using hf 1 f1 rfl, by simpa using hf 2 f2 rfl, by simpa using hf 3 f3 rfl, by simpa using hf 4 f4 rfl, by simpa using hf 5 f5 rfl, by simpa using hf 6 f6 rfl⟩
theorem open_slD {α : Type} [Inhabited α] {enc' : α → List Value} {k : Nat} {t e : TypeId} (ht : Try.prog.underlying t = some (.slice e)) (hc : Try.prog.cellsOf e = k) (hk : 0 < k) {H : Type} {enc : TypeId × Value → H} {W : World} {base : Nat} {sp : Nat → Bool} {held : Bool} {fuel : Nat} {P : α → DataW H → Prop}
    (hdec : ∀ (n : Nat), n < fuel → ∀ (cs : List Value) (x : DataW H × List MemPlace), DataW.trod enc Try.prog W base sp held n e cs = some x → cs.length = k → ∃ y : α, (∀ c, c < k → cs[c]? = some ((enc' y)[c]!)) ∧ P y x.1)
    {v : Value} {x : DataW H × List MemPlace} (h : DataW.trod enc Try.prog W base sp held fuel t [v] = some x) :
    ∃ (q : Option Addr) (c : Nat) (l : List α), v = .slice q l.length c ∧ SlOf enc' k W q c l ∧ (l = [] ∨ ∃ D E, x.1 = .slice D E ∧ D.length = l.length ∧ ∀ (j : Nat) y d, l[j]? = some y → D[j]? = some d → P y d) := by
  rcases DataW.trod_slice ht h with ⟨h1, _⟩ | ⟨a', len, cap, elems, rest, n, hfu, h1, hx, hb, hlc, hcm, hlen, hel, _, _⟩
  · simp only [List.cons.injEq, and_true] at h1
    exact ⟨Option.none, 0, [], h1, SlOf.none _, Or.inl rfl⟩
  · simp only [List.cons.injEq, and_true] at h1
    by_cases h0 : len = 0
    · subst h0
      exact ⟨some a', cap, [], h1, ⟨(fun h => by cases h), Nat.zero_le _, hcm, LsOf.nil _ _⟩, Or.inl rfl⟩
    rw [hc] at hel
    have hth : ∀ i, i < len → ∃ y : α, (∀ c, c < k → W.cell? ((a'.add (i * k)).add c) = some ((enc' y)[c]!)) ∧ ∀ d, elems[i]? = some d → P y d.1 := fun i hi => by
      have h3 := hel i hi
      obtain ⟨d, hd⟩ : ∃ d, elems[i]? = some d := ⟨elems[i]'(by omega), List.getElem?_eq_getElem (by omega)⟩
      rw [hd] at h3
      obtain ⟨cs', hcs, htr⟩ := Option.bind_eq_some_iff.1 h3
      obtain ⟨_, hl, hcell⟩ := World.cells?_some hcs
      obtain ⟨y, hy, hP⟩ := hdec n (by omega) _ _ htr hl
      exact ⟨y, fun c hc' => by rw [hcell c (by omega)]; exact hy c hc', fun d' hd' => by rw [hd] at hd'; cases hd'; exact hP⟩
    obtain ⟨f, hf⟩ := Go.Deep.choose_lt hth
    have hc0 := (hf 0 (by omega)).1 0 hk
    have e0 : (a'.add (0 * k)).add 0 = a' := by simp [Addr.add]
    rw [e0] at hc0
    obtain ⟨hs, hb'⟩ := cell_spot hc0
    obtain ⟨b, off, spot⟩ := a'
    simp only at hs hb'
    subst hs
    refine ⟨some ⟨b, off, Option.none⟩, cap, (List.range len).map f, by simpa using h1, ⟨(fun h => by cases h), by simpa using hlc, hcm, fun _ => ⟨b, off, rfl, hb', fun j u hj => ?_⟩⟩, Or.inr ⟨_, _, congrArg Prod.fst hx, by simp [hlen], fun j y d hj hd => ?_⟩⟩
    · obtain ⟨y, hy, rfl⟩ := flat_get hk hj
      obtain ⟨hjl, rfl⟩ := range_at hy
      have h7 := (hf (j / k) (by omega)).1 (j % k) (Nat.mod_lt _ hk)
      simp only [add_plain] at h7
      rw [Nat.add_assoc, show j / k * k + j % k = j from by rw [Nat.mul_comm]; exact Nat.div_add_mod j k] at h7
      exact h7
    · obtain ⟨hjl, rfl⟩ := range_at hj
      rw [List.getElem?_map] at hd
      obtain ⟨d', hd', rfl⟩ := Option.map_eq_some_iff.1 hd
      exact (hf j hjl).2 d' hd'
theorem bulk_sl {H : Type} {d : DataW H} {α : Type} {l : List α} (g : l = [] ∨ ∃ D E, d = .slice D E ∧ D.length = l.length) : l.length ≤ Rows.uptoBulk d := by
  rcases g with rfl | ⟨D, E, rfl, hl⟩
  · simp
  · have := bulk_len D; simp only [Rows.uptoBulk]; omega
set_option maxRecDepth 100000 in
theorem open_op {H : Type} {enc : TypeId × Value → H} {W : World} {base : Nat} {sp : Nat → Bool} {held : Bool} {fuel : Nat} {cs : List Value} {x : DataW H × List MemPlace} (h : DataW.trod enc Try.prog W base sp held fuel 33 cs = some x) (hl : cs.length = 7) :
    ∃ v : Ov, cs = encO v ∧ ∃ o : Od, (OdIn W v o ∧ o.n ≤ 9223372036854775807) ∧ odW o + 1 ≤ Rows.uptoBulk x.1 := by
  obtain ⟨y0, y1, y2, y3, y4, y5, y6, n, hn, hx, h0, h1, h2, h3, h4, h5, h6⟩ := trod_seven Try.underlying33 h
  match cs, hl with
  | [c0, c1, c2, c3, c4, c5, c6], _ =>
    simp only [Try.cells3, Try.cells9, Try.cells31, Try.cells30, List.drop, List.take] at h0 h1 h2 h3 h4 h5 h6
    obtain ⟨kd, e0, _, _⟩ := DataW.trod_int Try.underlying3 h0
    obtain ⟨nm, e1, _⟩ := DataW.trod_string Try.underlying9 h1
    obtain ⟨to, e2, _⟩ := DataW.trod_string Try.underlying9 h2
    obtain ⟨pb, cb, bs, e3, s3, g3⟩ := open_sl (enc' := encB) Try.underlying30 Try.cells5 (by decide) dec_byte h3
    obtain ⟨nn, e4, _, wf4⟩ := DataW.trod_int Try.underlying3 h4
    obtain ⟨mm, e5, _, _⟩ := DataW.trod_int Try.underlying3 h5
    obtain ⟨pi, ci, is, e6, s6, g6⟩ := open_sl (enc' := encI) Try.underlying31 Try.cells3 (by decide) dec_int h6
    simp only [List.cons.injEq, and_true] at e0 e1 e2 e4 e5
    subst e0 e1 e2 e3 e4 e5 e6
    refine ⟨{ kind := kd, nm := nm, to := to, pb := pb, nb := bs.length, cb := cb, n := nn, m := mm, pi := pi, ni := is.length, ci := ci }, rfl, { kind := kd, nm := nm, to := to, bs := bs, n := nn, m := mm, is := is }, ⟨⟨⟨rfl, rfl, rfl, rfl, rfl, rfl, rfl⟩, s3, s6⟩, by simp [Lit.wf, IntKind.min, IntKind.max, IntKind.signed, IntKind.bits] at wf4; show nn ≤ _; omega⟩, ?_⟩
    rw [hx]
    have b3 := bulk_sl g3
    have b6 := bulk_sl g6
    have b0 := bulk_one y0.1
    simp only [Rows.uptoBulk, Rows.uptoBulkAll, odW]
    omega
theorem bulk_ods {H : Type} : ∀ (l : List Od) (D : List (DataW H)), D.length = l.length → (∀ (j : Nat) y d, l[j]? = some y → D[j]? = some d → odW y + 1 ≤ Rows.uptoBulk d) → odsW l ≤ Rows.uptoBulkAll D := by
  intro l
  induction l with
  | nil => intro D _ _; simp [odsW]
  | cons x l ih =>
    intro D hl hP
    cases D with
    | nil => simp at hl
    | cons d D =>
      have h0 := hP 0 x d rfl rfl
      have h1 := ih D (by simpa using hl) (fun j y e hj he => hP (j + 1) y e (by simpa using hj) (by simpa using he))
      simp only [odsW, Rows.uptoBulkAll]
      omega
theorem open_ops {H : Type} {enc : TypeId × Value → H} {W : World} {base : Nat} {sp : Nat → Bool} {held : Bool} {fuel : Nat} {v : Value} {x : DataW H × List MemPlace} (h : DataW.trod enc Try.prog W base sp held fuel 22 [v] = some x) :
    ∃ q c ls, v = .slice q ls.length c ∧ (OpsOf W q c ls ∧ ∀ o ∈ ls, o.n ≤ 9223372036854775807) ∧ odsW ls ≤ Rows.uptoBulk x.1 := by
  obtain ⟨qk, ck, vs, e2, s3, g3⟩ := open_slD (enc' := encO) (P := fun u d => ∃ l : Od, (OdIn W u l ∧ l.n ≤ 9223372036854775807) ∧ odW l + 1 ≤ Rows.uptoBulk d) Try.underlying22 Try.cells33 (by decide) (fun m hm cs x hx hl => by
    obtain ⟨u, hv, l, h1, h2⟩ := open_op hx hl
    refine ⟨u, fun c hc => ?_, l, h1, h2⟩
    rw [hv]
    have hlen : c < (encO u).length := by simp [encO]; omega
    rw [List.getElem?_eq_getElem hlen, getElem!_pos (encO u) c hlen]) h
  rcases g3 with rfl | ⟨D, E, hD, hlD, hP⟩
  · exact ⟨qk, ck, [], e2, ⟨⟨[], s3, rfl, fun j v t hj _ => by simp at hj⟩, fun o ho => by simp at ho⟩, by simp [odsW]⟩
  · have hth : ∀ i, i < vs.length → ∃ t : Od, ∀ v d, vs[i]? = some v → D[i]? = some d → (OdIn W v t ∧ t.n ≤ 9223372036854775807) ∧ odW t + 1 ≤ Rows.uptoBulk d := fun i hi => by
      obtain ⟨t, ht⟩ := hP i vs[i] (D[i]'(by omega)) (List.getElem?_eq_getElem hi) (List.getElem?_eq_getElem (by omega))
      exact ⟨t, fun v d hv hd => by
        rw [List.getElem?_eq_getElem hi] at hv
        rw [List.getElem?_eq_getElem (by omega)] at hd
        cases hv; cases hd; exact ht⟩
    obtain ⟨f, hf⟩ := Go.Deep.choose_lt hth
    refine ⟨qk, ck, (List.range vs.length).map f, by simpa using e2, ⟨⟨vs, s3, by simp, fun j v t hj ht => ?_⟩, fun o ho => ?_⟩, ?_⟩
    · obtain ⟨hjl, rfl⟩ := range_at ht
      exact (hf j hjl v (D[j]'(by omega)) hj (List.getElem?_eq_getElem (by omega))).1.1
    · obtain ⟨j, hj⟩ := List.mem_iff_getElem?.1 ho
      obtain ⟨hjl, rfl⟩ := range_at hj
      exact (hf j hjl vs[j] (D[j]'(by omega)) (List.getElem?_eq_getElem hjl) (List.getElem?_eq_getElem (by omega))).1.2
    · have := bulk_ods ((List.range vs.length).map f) D (by simpa using hlD) (fun j y d hj hd => by
        obtain ⟨hjl, rfl⟩ := range_at hj
        exact (hf j hjl vs[j] d (List.getElem?_eq_getElem hjl) hd).2)
      rw [hD]
      simp only [Rows.uptoBulk]
      omega
end Go.Proofs.Ytonhagoeajhacaa

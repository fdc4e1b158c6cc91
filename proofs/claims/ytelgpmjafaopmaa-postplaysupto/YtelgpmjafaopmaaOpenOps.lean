/- A script of calls in memory, and how it is opened among the arguments. -/
import Derived.Test.YtelgpmjafaopmaaOpen2
import Derived.Test.YtelgpmjafaopmaaOps0
namespace Go.Proofs.Ytelgpmjafaopmaa
open Go.ChangeShapes Go.WideShapes Go.ChangeAt Go.RowKit Go.Joins

theorem Try.cells39 : Try.prog.cellsOf 39 = 5 := by kernel_rfl
theorem Try.cells28 : Try.prog.cellsOf 28 = 1 := by kernel_rfl
theorem Try.cells37 : Try.prog.cellsOf 37 = 1 := by kernel_rfl
theorem trod_five {H : Type} {enc : TypeId × Value → H} {P : Program} {w : World} {base : Nat} {spare : Nat → Bool} {held : Bool} {t : TypeId} {f0 f1 f2 f3 f4 : Field} {fuel : Nat} {cs : List Value} {x : DataW H × List MemPlace} (ht : P.underlying t = some (.struct #[f0, f1, f2, f3, f4])) (h : DataW.trod enc P w base spare held fuel t cs = some x) :
    ∃ y0 y1 y2 y3 y4 n, n < fuel ∧ x.1 = .agg [y0.1, y1.1, y2.1, y3.1, y4.1] ∧ DataW.trod enc P w base spare held n f0.type ((cs.drop f0.offset).take (P.cellsOf f0.type)) = some y0 ∧ DataW.trod enc P w base spare held n f1.type ((cs.drop f1.offset).take (P.cellsOf f1.type)) = some y1 ∧ DataW.trod enc P w base spare held n f2.type ((cs.drop f2.offset).take (P.cellsOf f2.type)) = some y2 ∧ DataW.trod enc P w base spare held n f3.type ((cs.drop f3.offset).take (P.cellsOf f3.type)) = some y3 ∧ DataW.trod enc P w base spare held n f4.type ((cs.drop f4.offset).take (P.cellsOf f4.type)) = some y4 := by
  obtain ⟨xs, n, hn, rfl, hl, hlen, hf⟩ := DataW.trod_struct ht h
  match xs, hlen with
  | [y0, y1, y2, y3, y4], _ => exact ⟨y0, y1, y2, y3, y4, n, by omega, by simp, by simpa using hf 0 f0 rfl, by simpa using hf 1 f1 rfl, by simpa using hf 2 f2 rfl, by simpa using hf 3 f3 rfl, by simpa using hf 4 f4 rfl⟩
theorem open_slD {α : Type} [Inhabited α] {enc' : α → List Value} {k : Nat} {t e : TypeId} (ht : Try.prog.underlying t = some (.slice e)) (hc : Try.prog.cellsOf e = k) (hk : 0 < k) {H : Type} {enc : TypeId × Value → H} {W : World} {base : Nat} {sp : Nat → Bool} {held : Bool} {fuel : Nat} {P : α → DataW H → Prop}
    (hdec : ∀ (n : Nat), n < fuel → ∀ (cs : List Value) (x : DataW H × List MemPlace), DataW.trod enc Try.prog W base sp held n e cs = some x → cs.length = k → ∃ y : α, (∀ c, c < k → cs[c]? = some ((enc' y)[c]!)) ∧ P y x.1)
    {v : Value} {x : DataW H × List MemPlace} (h : DataW.trod enc Try.prog W base sp held fuel t [v] = some x) :
    ∃ (q : Option Addr) (c : Nat) (l : List α), v = .slice q l.length c ∧ SlOf enc' k W q c l ∧ (l = [] ∨ ∃ D E, x.1 = .slice D E ∧ D.length = l.length ∧ ∀ (j : Nat) y d, l[j]? = some y → D[j]? = some d → P y d) := by
  rcases DataW.trod_slice ht h with ⟨h1, _⟩ | ⟨a', len, cap, elems, rest, n, hfu, h1, hx, hb, hlc, hcm, hlen, hel, _, _⟩
  · simp only [List.cons.injEq, and_true] at h1
    exact ⟨Option.none, 0, [], h1, SlOf.none _, Or.inl rfl⟩
  · simp only [List.cons.injEq, and_true] at h1
    by_cases h0 : len = 0
    · subst h0
      exact ⟨some a', cap, [], h1, ⟨(fun h => by cases h), Nat.zero_le _, hcm, LsOf.nil _ _⟩, Or.inl rfl⟩
    rw [hc] at hel
    have hth : ∀ i, i < len → ∃ y : α, (∀ c, c < k → W.cell? ((a'.add (i * k)).add c) = some ((enc' y)[c]!)) ∧ ∀ d, elems[i]? = some d → P y d.1 := fun i hi => by
      have h3 := hel i hi
      obtain ⟨d, hd⟩ : ∃ d, elems[i]? = some d := ⟨elems[i]'(by omega), List.getElem?_eq_getElem (by omega)⟩
      rw [hd] at h3
      obtain ⟨cs', hcs, htr⟩ := Option.bind_eq_some_iff.1 h3
      obtain ⟨_, hl, hcell⟩ := World.cells?_some hcs
      obtain ⟨y, hy, hP⟩ := hdec n (by omega) _ _ htr hl
      exact ⟨y, fun c hc' => by rw [hcell c (by omega)]; exact hy c hc', fun d' hd' => by rw [hd] at hd'; cases hd'; exact hP⟩
    obtain ⟨f, hf⟩ := Go.Deep.choose_lt hth
    have hc0 := (hf 0 (by omega)).1 0 hk
    have e0 : (a'.add (0 * k)).add 0 = a' := by simp [Addr.add]
    rw [e0] at hc0
    obtain ⟨hs, hb'⟩ := cell_spot hc0
    obtain ⟨b, off, spot⟩ := a'
    simp only at hs hb'
    subst hs
    refine ⟨some ⟨b, off, Option.none⟩, cap, (List.range len).map f, by simpa using h1, ⟨(fun h => by cases h), by simpa using hlc, hcm, fun _ => ⟨b, off, rfl, hb', fun j u hj => ?_⟩⟩, Or.inr ⟨_, _, congrArg Prod.fst hx, by simp [hlen], fun j y d hj hd => ?_⟩⟩
    · obtain ⟨y, hy, rfl⟩ := flat_get hk hj
      obtain ⟨hjl, rfl⟩ := range_at hy
      have h7 := (hf (j / k) (by omega)).1 (j % k) (Nat.mod_lt _ hk)
      simp only [add_plain] at h7
      rw [Nat.add_assoc, show j / k * k + j % k = j from by rw [Nat.mul_comm]; exact Nat.div_add_mod j k] at h7
      exact h7
    · obtain ⟨hjl, rfl⟩ := range_at hj
      rw [List.getElem?_map] at hd
      obtain ⟨d', hd', rfl⟩ := Option.map_eq_some_iff.1 hd
      exact (hf j hjl).2 d' hd'
theorem bulk_sl {H : Type} {d : DataW H} {α : Type} {l : List α} (g : l = [] ∨ ∃ D E, d = .slice D E ∧ D.length = l.length) : l.length ≤ Rows.uptoBulk d := by
  rcases g with rfl | ⟨D, E, rfl, hl⟩
  · simp
  · have := bulk_len D; simp only [Rows.uptoBulk]; omega
set_option maxRecDepth 100000 in
theorem open_op {H : Type} {enc : TypeId × Value → H} {W : World} {base : Nat} {sp : Nat → Bool} {held : Bool} {fuel : Nat} {cs : List Value} {x : DataW H × List MemPlace} (h : DataW.trod enc Try.prog W base sp held fuel 39 cs = some x) (hl : cs.length = 5) :
    ∃ v : Ov, cs = encO v ∧ ∃ o : Od, OdIn W v o ∧ odW o + 1 ≤ Rows.uptoBulk x.1 := by
  obtain ⟨y0, y1, y2, y3, y4, n, hn, hx, h0, h1, h2, h3, h4⟩ := trod_five Try.underlying39 h
  match cs, hl with
  | [c0, c1, c2, c3, c4], _ =>
    simp only [Try.cells3, Try.cells4, Try.cells28, Try.cells37, List.drop, List.take] at h0 h1 h2 h3 h4
    obtain ⟨kd, e0, _, _⟩ := DataW.trod_int Try.underlying3 h0
    obtain ⟨sc, e1, _⟩ := DataW.trod_bool Try.underlying4 h1
    obtain ⟨pp, cp, ps, e2, s2, g2⟩ := open_sl (enc' := encP) Try.underlying28 Try.cells43 (by decide) dec_post h2
    obtain ⟨pi, ci, is, e3, s3, g3⟩ := open_sl (enc' := encI) Try.underlying37 Try.cells3 (by decide) dec_int h3
    obtain ⟨id, e4, _, _⟩ := DataW.trod_int Try.underlying3 h4
    simp only [List.cons.injEq, and_true] at e0 e1 e4
    subst e0 e1 e2 e3 e4
    refine ⟨⟨kd, sc, pp, ps.length, cp, pi, is.length, ci, id⟩, rfl, ⟨kd, sc, ps, is, id⟩, ⟨rfl, rfl, rfl, rfl, rfl, s2, s3⟩, ?_⟩
    rw [hx]
    have b2 := bulk_sl g2
    have b3 := bulk_sl g3
    have b0 := bulk_one y0.1
    simp only [Rows.uptoBulk, Rows.uptoBulkAll, odW]
    omega
theorem bulk_ods {H : Type} : ∀ (l : List Od) (D : List (DataW H)), D.length = l.length → (∀ (j : Nat) y d, l[j]? = some y → D[j]? = some d → odW y + 1 ≤ Rows.uptoBulk d) → odsW l ≤ Rows.uptoBulkAll D := by
  intro l
  induction l with
  | nil => intro D _ _; simp [odsW]
  | cons x l ih =>
    intro D hl hP
    cases D with
    | nil => simp at hl
    | cons d D =>
      have h0 := hP 0 x d rfl rfl
      have h1 := ih D (by simpa using hl) (fun j y e hj he => hP (j + 1) y e (by simpa using hj) (by simpa using he))
      simp only [odsW, Rows.uptoBulkAll]
      omega
theorem open_ops {H : Type} {enc : TypeId × Value → H} {W : World} {base : Nat} {sp : Nat → Bool} {held : Bool} {fuel : Nat} {v : Value} {x : DataW H × List MemPlace} (h : DataW.trod enc Try.prog W base sp held fuel 22 [v] = some x) :
    ∃ q c ls, v = .slice q ls.length c ∧ OpsOf W q c ls ∧ odsW ls ≤ Rows.uptoBulk x.1 := by
  obtain ⟨qk, ck, vs, e2, s3, g3⟩ := open_slD (enc' := encO) (P := fun u d => ∃ l : Od, OdIn W u l ∧ odW l + 1 ≤ Rows.uptoBulk d) Try.underlying22 Try.cells39 (by decide) (fun m hm cs x hx hl => by
    obtain ⟨u, hv, l, h1, h2⟩ := open_op hx hl
    refine ⟨u, fun c hc => ?_, l, h1, h2⟩
    rw [hv]
    have hlen : c < (encO u).length := by simp [encO]; omega
    rw [List.getElem?_eq_getElem hlen, getElem!_pos (encO u) c hlen]) h
  rcases g3 with rfl | ⟨D, E, hD, hlD, hP⟩
  · exact ⟨qk, ck, [], e2, ⟨[], s3, rfl, fun j v t hj _ => by simp at hj⟩, by simp [odsW]⟩
  · have hth : ∀ i, i < vs.length → ∃ t : Od, ∀ v d, vs[i]? = some v → D[i]? = some d → OdIn W v t ∧ odW t + 1 ≤ Rows.uptoBulk d := fun i hi => by
      obtain ⟨t, ht⟩ := hP i vs[i] (D[i]'(by omega)) (List.getElem?_eq_getElem hi) (List.getElem?_eq_getElem (by omega))
      exact ⟨t, fun v d hv hd => by
        rw [List.getElem?_eq_getElem hi] at hv
        rw [List.getElem?_eq_getElem (by omega)] at hd
        cases hv; cases hd; exact ht⟩
    obtain ⟨f, hf⟩ := Go.Deep.choose_lt hth
    refine ⟨qk, ck, (List.range vs.length).map f, by simpa using e2, ⟨vs, s3, by simp, fun j v t hj ht => ?_⟩, ?_⟩
    · obtain ⟨hjl, rfl⟩ := range_at ht
      exact (hf j hjl v (D[j]'(by omega)) hj (List.getElem?_eq_getElem (by omega))).1
    · have := bulk_ods ((List.range vs.length).map f) D (by simpa using hlD) (fun j y d hj hd => by
        obtain ⟨hjl, rfl⟩ := range_at hj
        exact (hf j hjl vs[j] d (List.getElem?_eq_getElem hjl) hd).2)
      rw [hD]
      simp only [Rows.uptoBulk]
      omega
end Go.Proofs.Ytelgpmjafaopmaa

/- Conjunctions among the arguments, read from memory; how much they hold. -/
import Derived.Test.YtppkjlmdfcifgaaOpenTree
import Derived.Test.YtppkjlmdfcifgaaDnfBackPlain
namespace Go.Proofs.Ytppkjlmdfcifgaa
open Go.RowKit Go.Sort

def ltW (l : Lt) : Nat := l.attr.size + l.ints.length + wordsWt l.words + 2
def ltsW : List Lt → Nat
  | [] => 0
  | l :: ls => ltW l + ltsW ls
def cjsW : List (List Lt) → Nat
  | [] => 0
  | ls :: cs => 1 + ltsW ls + cjsW cs
theorem Try.cells81 : Try.prog.cellsOf 81 = 7 := by kernel_rfl
theorem Try.cells69 : Try.prog.cellsOf 69 = 1 := by kernel_rfl
theorem Try.cells29b : Try.prog.cellsOf 29 = 6 := by kernel_rfl
theorem Try.cells4b : Try.prog.cellsOf 4 = 1 := by kernel_rfl
theorem trod_twoL {H : Type} {enc : TypeId × Value → H} {P : Program} {w : World} {base : Nat} {spare : Nat → Bool} {held : Bool} {t : TypeId} {f0 f1 : Field} {fuel : Nat} {cs : List Value} {x : DataW H × List MemPlace} (ht : P.underlying t = some (.struct #[f0, f1])) (h : DataW.trod enc P w base spare held fuel t cs = some x) :
    ∃ y0 y1 n, n < fuel ∧ x.1 = .agg [y0.1, y1.1] ∧ DataW.trod enc P w base spare held n f0.type ((cs.drop f0.offset).take (P.cellsOf f0.type)) = some y0 ∧ DataW.trod enc P w base spare held n f1.type ((cs.drop f1.offset).take (P.cellsOf f1.type)) = some y1 := by
  obtain ⟨xs, n, hn, rfl, hl, hlen, hf⟩ := DataW.trod_struct ht h
  match xs, hlen with
  | [y0, y1], _ => exact ⟨y0, y1, n, by omega, by simp, by simpa using hf 0 f0 rfl, by simpa using hf 1 f1 rfl⟩
set_option maxRecDepth 100000 in
theorem open_lit {H : Type} {enc : TypeId × Value → H} {W : World} {base : Nat} {sp : Nat → Bool} {held : Bool} {fuel : Nat} {cs : List Value} {x : DataW H × List MemPlace} (h : DataW.trod enc Try.prog W base sp held fuel 81 cs = some x) (hl : cs.length = 7) :
    ∃ u : Lv, cs = encL u ∧ ∃ l : Lt, LitIn W u l ∧ ltW l ≤ Rows.uptoBulk x.1 := by
  obtain ⟨y0, y1, n, hn, hx, h0, h1⟩ := trod_twoL Try.underlying81 h
  match cs, hl with
  | [c0, c1, c2, c3, c4, c5, c6], _ =>
    simp only [Try.cells29b, Try.cells4b, List.drop, List.take] at h0 h1
    obtain ⟨kind, attr, qi, ci, ints, qw, cw, words, lo, hi, e0, s1, s2, hb⟩ := open_sixD h0 rfl
    obtain ⟨ng, e1, _⟩ := DataW.trod_bool Try.underlying4 h1
    simp only [List.cons.injEq, and_true] at e0 e1
    obtain ⟨rfl, rfl, rfl, rfl, rfl, rfl⟩ := e0
    subst e1
    refine ⟨⟨kind, attr, qi, ints.length, ci, qw, words.length, cw, lo, hi, ng⟩, rfl, ⟨kind, attr, ints, words, lo, hi, ng⟩, ⟨rfl, rfl, rfl, rfl, rfl, rfl, rfl, s1, s2⟩, ?_⟩
    rw [hx]
    have := bulk_one y1.1
    simp only [Rows.uptoBulk, Rows.uptoBulkAll, ltW]
    omega
theorem bulk_lts {H : Type} : ∀ (l : List Lt) (D : List (DataW H)), D.length = l.length → (∀ (j : Nat) y d, l[j]? = some y → D[j]? = some d → ltW y ≤ Rows.uptoBulk d) → ltsW l ≤ Rows.uptoBulkAll D := by
  intro l
  induction l with
  | nil => intro D _ _; simp [ltsW]
  | cons x l ih =>
    intro D hl hP
    cases D with
    | nil => simp at hl
    | cons d D =>
      have h0 := hP 0 x d rfl rfl
      have h1 := ih D (by simpa using hl) (fun j y e hj he => hP (j + 1) y e (by simpa using hj) (by simpa using he))
      simp only [ltsW, Rows.uptoBulkAll]
      omega
theorem bulk_cjs {H : Type} : ∀ (l : List (List Lt)) (D : List (DataW H)), D.length = l.length → (∀ (j : Nat) y d, l[j]? = some y → D[j]? = some d → 1 + ltsW y ≤ Rows.uptoBulk d) → cjsW l ≤ Rows.uptoBulkAll D := by
  intro l
  induction l with
  | nil => intro D _ _; simp [cjsW]
  | cons x l ih =>
    intro D hl hP
    cases D with
    | nil => simp at hl
    | cons d D =>
      have h0 := hP 0 x d rfl rfl
      have h1 := ih D (by simpa using hl) (fun j y e hj he => hP (j + 1) y e (by simpa using hj) (by simpa using he))
      simp only [cjsW, Rows.uptoBulkAll]
      omega
instance : Inhabited Lt := ⟨⟨0, ⟨#[]⟩, [], [], 0, 0, false⟩⟩
theorem open_lits {H : Type} {enc : TypeId × Value → H} {W : World} {base : Nat} {sp : Nat → Bool} {held : Bool} {fuel : Nat} {v : Value} {x : DataW H × List MemPlace} (h : DataW.trod enc Try.prog W base sp held fuel 69 [v] = some x) :
    ∃ q c ls, v = .slice q ls.length c ∧ LitsOf W q c ls ∧ 1 + ltsW ls ≤ Rows.uptoBulk x.1 := by
  obtain ⟨qk, ck, vs, e2, s3, g3⟩ := open_slD (enc' := encL) (P := fun u d => ∃ l : Lt, LitIn W u l ∧ ltW l ≤ Rows.uptoBulk d) Try.underlying69 Try.cells81 (by decide) (fun m hm cs x hx hl => by
    obtain ⟨u, hv, l, h1, h2⟩ := open_lit hx hl
    refine ⟨u, fun c hc => ?_, l, h1, h2⟩
    rw [hv]
    have hlen : c < (encL u).length := by simp [encL]; omega
    rw [List.getElem?_eq_getElem hlen, getElem!_pos (encL u) c hlen]) h
  rcases g3 with rfl | ⟨D, E, hD, hlD, hP⟩
  · exact ⟨qk, ck, [], e2, ⟨[], s3, rfl, fun j v t hj _ => by simp at hj⟩, by have := bulk_one x.1; simp only [ltsW]; omega⟩
  · have hth : ∀ i, i < vs.length → ∃ t : Lt, ∀ v d, vs[i]? = some v → D[i]? = some d → LitIn W v t ∧ ltW t ≤ Rows.uptoBulk d := fun i hi => by
      obtain ⟨t, ht⟩ := hP i vs[i] (D[i]'(by omega)) (List.getElem?_eq_getElem hi) (List.getElem?_eq_getElem (by omega))
      exact ⟨t, fun v d hv hd => by
        rw [List.getElem?_eq_getElem hi] at hv
        rw [List.getElem?_eq_getElem (by omega)] at hd
        cases hv; cases hd; exact ht⟩
    obtain ⟨f, hf⟩ := Go.Deep.choose_lt hth
    refine ⟨qk, ck, (List.range vs.length).map f, by simpa using e2, ⟨vs, s3, by simp, fun j v t hj ht => ?_⟩, ?_⟩
    · obtain ⟨hjl, rfl⟩ := range_at ht
      exact (hf j hjl v (D[j]'(by omega)) hj (List.getElem?_eq_getElem (by omega))).1
    · have := bulk_lts ((List.range vs.length).map f) D (by simpa using hlD) (fun j y d hj hd => by
        obtain ⟨hjl, rfl⟩ := range_at hj
        exact (hf j hjl vs[j] d (List.getElem?_eq_getElem hjl) hd).2)
      rw [hD]
      simp only [Rows.uptoBulk]
      omega
theorem ltsW_mem : ∀ {ls : List Lt} {l : Lt}, l ∈ ls → ltW l ≤ ltsW ls := by
  intro ls
  induction ls with
  | nil => intro l h; simp at h
  | cons a ls ih =>
    intro l h
    simp only [ltsW]
    rcases List.mem_cons.1 h with rfl | h
    · omega
    · have := ih h; omega
theorem cjsW_mem : ∀ {cs : List (List Lt)} {ls : List Lt}, ls ∈ cs → ltsW ls ≤ cjsW cs := by
  intro cs
  induction cs with
  | nil => intro l h; simp at h
  | cons a cs ih =>
    intro l h
    simp only [cjsW]
    rcases List.mem_cons.1 h with rfl | h
    · omega
    · have := ih h; omega
theorem litN_wt (l : Lt) : wtN (litN l) ≤ ltW l := by
  have e : (⟨#[]⟩ : ByteArray).size = 0 := rfl
  unfold litN ltW
  split
  · simp only [notT, wtN, wtL, wordsWt, List.length_nil, e]; omega
  · simp only [wtN, wtL]; omega
theorem lits_wt : ∀ ls : List Lt, wtL (ls.map litN) ≤ ltsW ls ∧ ls.length ≤ ltsW ls := by
  intro ls
  induction ls with
  | nil => simp [wtL, ltsW]
  | cons l ls ih =>
    have := litN_wt l
    have h2 : 2 ≤ ltW l := by unfold ltW; omega
    simp only [List.map_cons, wtL, ltsW, List.length_cons]
    omega
theorem cjs_wt : ∀ cs : List (List Lt), wtL (cs.map treeC) ≤ cjsW cs ∧ cs.length ≤ cjsW cs := by
  intro cs
  induction cs with
  | nil => simp [wtL, cjsW]
  | cons ls cs ih =>
    have h1 := (lits_wt ls).1
    have h2 := wt_join8 3 (ls.map litN)
    simp only [List.map_cons, wtL, cjsW, List.length_cons, treeC]
    omega
theorem open_cjs {H : Type} {enc : TypeId × Value → H} {W : World} {base : Nat} {sp : Nat → Bool} {held : Bool} {fuel : Nat} {v : Value} {x : DataW H × List MemPlace} (h : DataW.trod enc Try.prog W base sp held fuel 64 [v] = some x) :
    ∃ q c cs, v = .slice q cs.length c ∧ CjsOf W q c cs ∧ cjsW cs ≤ Rows.uptoBulk x.1 ∧ ∀ ls ∈ cs, ls.length ≤ Rows.uptoBulk x.1 ∧ wtL (ls.map litN) ≤ Rows.uptoBulk x.1 ∧ ∀ l ∈ ls, l.ints.length ≤ Rows.uptoBulk x.1 ∧ l.words.length ≤ Rows.uptoBulk x.1 := by
  have hfin : ∀ cs : List (List Lt), cjsW cs ≤ Rows.uptoBulk x.1 → ∀ ls ∈ cs, ls.length ≤ Rows.uptoBulk x.1 ∧ wtL (ls.map litN) ≤ Rows.uptoBulk x.1 ∧ ∀ l ∈ ls, l.ints.length ≤ Rows.uptoBulk x.1 ∧ l.words.length ≤ Rows.uptoBulk x.1 := fun cs hw ls hl => by
    have h1 := cjsW_mem hl
    have h2 := lits_wt ls
    refine ⟨by omega, by omega, fun l hl2 => ?_⟩
    have h3 := ltsW_mem hl2
    have h4 := words_len l.words
    unfold ltW at h3
    omega
  obtain ⟨qk, ck, vs, e2, s3, g3⟩ := open_slD (enc' := encQ) (P := fun u d => ∃ ls : List Lt, u.2.1 = ls.length ∧ LitsOf W u.1 u.2.2 ls ∧ 1 + ltsW ls ≤ Rows.uptoBulk d) Try.underlying64 Try.cells69 (by decide) (fun m hm cs x hx hl => by
    obtain ⟨u, rfl⟩ := List.length_eq_one_iff.1 hl
    obtain ⟨q, c, l, rfl, h1, h2⟩ := open_lits hx
    refine ⟨(q, l.length, c), fun c' hc => ?_, l, rfl, h1, h2⟩
    obtain rfl : c' = 0 := by omega
    rfl) h
  rcases g3 with rfl | ⟨D, E, hD, hlD, hP⟩
  · exact ⟨qk, ck, [], e2, ⟨[], s3, rfl, fun j v t hj _ => by simp at hj⟩, by simp [cjsW], fun ls h => by simp at h⟩
  · have hth : ∀ i, i < vs.length → ∃ t : List Lt, ∀ u d, vs[i]? = some u → D[i]? = some d → u.2.1 = t.length ∧ LitsOf W u.1 u.2.2 t ∧ 1 + ltsW t ≤ Rows.uptoBulk d := fun i hi => by
      obtain ⟨t, ht⟩ := hP i vs[i] (D[i]'(by omega)) (List.getElem?_eq_getElem hi) (List.getElem?_eq_getElem (by omega))
      exact ⟨t, fun v d hv hd => by
        rw [List.getElem?_eq_getElem hi] at hv
        rw [List.getElem?_eq_getElem (by omega)] at hd
        cases hv; cases hd; exact ht⟩
    obtain ⟨f, hf⟩ := Go.Deep.choose_lt hth
    have hw : cjsW ((List.range vs.length).map f) ≤ Rows.uptoBulk x.1 := by
      have := bulk_cjs ((List.range vs.length).map f) D (by simpa using hlD) (fun j y d hj hd => by
        obtain ⟨hjl, rfl⟩ := range_at hj
        exact (hf j hjl vs[j] d (List.getElem?_eq_getElem hjl) hd).2.2)
      rw [hD]
      simp only [Rows.uptoBulk]
      omega
    refine ⟨qk, ck, (List.range vs.length).map f, by simpa using e2, ⟨vs, s3, by simp, fun j v t hj ht => ?_⟩, hw, hfin _ hw⟩
    obtain ⟨hjl, rfl⟩ := range_at ht
    have := hf j hjl v (D[j]'(by omega)) hj (List.getElem?_eq_getElem (by omega))
    exact ⟨this.1, this.2.1⟩
end Go.Proofs.Ytppkjlmdfcifgaa

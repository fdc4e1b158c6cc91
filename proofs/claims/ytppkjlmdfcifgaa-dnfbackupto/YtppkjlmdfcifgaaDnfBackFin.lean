/- The law DnfBack holds where its arguments hold at most 1048576 values and letters: it returns true, and what it is given reads as it did. -/
import Derived.Test.YtppkjlmdfcifgaaDnfBackLaw
import Derived.Test.YtppkjlmdfcifgaaOpenTree
import Derived.Test.YtppkjlmdfcifgaaDnfBackPlain
import Derived.Test.YtppkjlmdfcifgaaOpenEv
namespace Go.Proofs.Ytppkjlmdfcifgaa
section
open Go.RowKit Go.Sort

def ltW (l : Lt) : Nat := l.attr.size + l.ints.length + wordsWt l.words + 2
def ltsW : List Lt → Nat
  | [] => 0
  | l :: ls => ltW l + ltsW ls
def cjsW : List (List Lt) → Nat
  | [] => 0
  | ls :: cs => 1 + ltsW ls + cjsW cs
theorem Try.cells81 : Try.prog.cellsOf 81 = 7 := by kernel_rfl
theorem Try.cells69 : Try.prog.cellsOf 69 = 1 := by kernel_rfl
theorem Try.cells29b : Try.prog.cellsOf 29 = 6 := by kernel_rfl
theorem Try.cells4b : Try.prog.cellsOf 4 = 1 := by kernel_rfl
theorem trod_twoL {H : Type} {enc : TypeId × Value → H} {P : Program} {w : World} {base : Nat} {spare : Nat → Bool} {held : Bool} {t : TypeId} {f0 f1 : Field} {fuel : Nat} {cs : List Value} {x : DataW H × List MemPlace} (ht : P.underlying t = some (.struct #[f0, f1])) (h : DataW.trod enc P w base spare held fuel t cs = some x) :
    ∃ y0 y1 n, n < fuel ∧ x.1 = .agg [y0.1, y1.1] ∧ DataW.trod enc P w base spare held n f0.type ((cs.drop f0.offset).take (P.cellsOf f0.type)) = some y0 ∧ DataW.trod enc P w base spare held n f1.type ((cs.drop f1.offset).take (P.cellsOf f1.type)) = some y1 := by
  obtain ⟨xs, n, hn, rfl, hl, hlen, hf⟩ := DataW.trod_struct ht h
  match xs, hlen with
  | [y0, y1], _ => exact ⟨y0, y1, n, by omega, by simp, by simpa using hf 0 f0 rfl, by simpa using hf 1 f1 rfl⟩
set_option maxRecDepth 100000 in
theorem open_lit {H : Type} {enc : TypeId × Value → H} {W : World} {base : Nat} {sp : Nat → Bool} {held : Bool} {fuel : Nat} {cs : List Value} {x : DataW H × List MemPlace} (h : DataW.trod enc Try.prog W base sp held fuel 81 cs = some x) (hl : cs.length = 7) :
    ∃ u : Lv, cs = encL u ∧ ∃ l : Lt, LitIn W u l ∧ ltW l ≤ Rows.uptoBulk x.1 := by
  obtain ⟨y0, y1, n, hn, hx, h0, h1⟩ := trod_twoL Try.underlying81 h
  match cs, hl with
  | [c0, c1, c2, c3, c4, c5, c6], _ =>
    simp only [Try.cells29b, Try.cells4b, List.drop, List.take] at h0 h1
    obtain ⟨kind, attr, qi, ci, ints, qw, cw, words, lo, hi, e0, s1, s2, hb⟩ := open_sixD h0 rfl
    obtain ⟨ng, e1, _⟩ := DataW.trod_bool Try.underlying4 h1
    simp only [List.cons.injEq, and_true] at e0 e1
    obtain ⟨rfl, rfl, rfl, rfl, rfl, rfl⟩ := e0
    subst e1
    refine ⟨⟨kind, attr, qi, ints.length, ci, qw, words.length, cw, lo, hi, ng⟩, rfl, ⟨kind, attr, ints, words, lo, hi, ng⟩, ⟨rfl, rfl, rfl, rfl, rfl, rfl, rfl, s1, s2⟩, ?_⟩
    rw [hx]
    have := bulk_one y1.1
    simp only [Rows.uptoBulk, Rows.uptoBulkAll, ltW]
    omega
theorem bulk_lts {H : Type} : ∀ (l : List Lt) (D : List (DataW H)), D.length = l.length → (∀ (j : Nat) y d, l[j]? = some y → D[j]? = some d → ltW y ≤ Rows.uptoBulk d) → ltsW l ≤ Rows.uptoBulkAll D := by
  intro l
  induction l with
  | nil => intro D _ _; simp [ltsW]
  | cons x l ih =>
    intro D hl hP
    cases D with
    | nil => simp at hl
    | cons d D =>
      have h0 := hP 0 x d rfl rfl
      have h1 := ih D (by simpa using hl) (fun j y e hj he => hP (j + 1) y e (by simpa using hj) (by simpa using he))
      simp only [ltsW, Rows.uptoBulkAll]
      omega
theorem bulk_cjs {H : Type} : ∀ (l : List (List Lt)) (D : List (DataW H)), D.length = l.length → (∀ (j : Nat) y d, l[j]? = some y → D[j]? = some d → 1 + ltsW y ≤ Rows.uptoBulk d) → cjsW l ≤ Rows.uptoBulkAll D := by
  intro l
  induction l with
  | nil => intro D _ _; simp [cjsW]
  | cons x l ih =>
    intro D hl hP
    cases D with
    | nil => simp at hl
    | cons d D =>
      have h0 := hP 0 x d rfl rfl
      have h1 := ih D (by simpa using hl) (fun j y e hj he => hP (j + 1) y e (by simpa using hj) (by simpa using he))
      simp only [cjsW, Rows.uptoBulkAll]
      omega
instance : Inhabited Lt := ⟨⟨0, ⟨#[]⟩, [], [], 0, 0, false⟩⟩
theorem open_lits {H : Type} {enc : TypeId × Value → H} {W : World} {base : Nat} {sp : Nat → Bool} {held : Bool} {fuel : Nat} {v : Value} {x : DataW H × List MemPlace} (h : DataW.trod enc Try.prog W base sp held fuel 69 [v] = some x) :
    ∃ q c ls, v = .slice q ls.length c ∧ LitsOf W q c ls ∧ 1 + ltsW ls ≤ Rows.uptoBulk x.1 := by
  obtain ⟨qk, ck, vs, e2, s3, g3⟩ := open_slD (enc' := encL) (P := fun u d => ∃ l : Lt, LitIn W u l ∧ ltW l ≤ Rows.uptoBulk d) Try.underlying69 Try.cells81 (by decide) (fun m hm cs x hx hl => by
    obtain ⟨u, hv, l, h1, h2⟩ := open_lit hx hl
    refine ⟨u, fun c hc => ?_, l, h1, h2⟩
    rw [hv]
    have hlen : c < (encL u).length := by simp [encL]; omega
    rw [List.getElem?_eq_getElem hlen, getElem!_pos (encL u) c hlen]) h
  rcases g3 with rfl | ⟨D, E, hD, hlD, hP⟩
  · exact ⟨qk, ck, [], e2, ⟨[], s3, rfl, fun j v t hj _ => by simp at hj⟩, by have := bulk_one x.1; simp only [ltsW]; omega⟩
  · have hth : ∀ i, i < vs.length → ∃ t : Lt, ∀ v d, vs[i]? = some v → D[i]? = some d → LitIn W v t ∧ ltW t ≤ Rows.uptoBulk d := fun i hi => by
      obtain ⟨t, ht⟩ := hP i vs[i] (D[i]'(by omega)) (List.getElem?_eq_getElem hi) (List.getElem?_eq_getElem (by omega))
      exact ⟨t, fun v d hv hd => by
        rw [List.getElem?_eq_getElem hi] at hv
        rw [List.getElem?_eq_getElem (by omega)] at hd
        cases hv; cases hd; exact ht⟩
    obtain ⟨f, hf⟩ := Go.Deep.choose_lt hth
    refine ⟨qk, ck, (List.range vs.length).map f, by simpa using e2, ⟨vs, s3, by simp, fun j v t hj ht => ?_⟩, ?_⟩
    · obtain ⟨hjl, rfl⟩ := range_at ht
      exact (hf j hjl v (D[j]'(by omega)) hj (List.getElem?_eq_getElem (by omega))).1
    · have := bulk_lts ((List.range vs.length).map f) D (by simpa using hlD) (fun j y d hj hd => by
        obtain ⟨hjl, rfl⟩ := range_at hj
        exact (hf j hjl vs[j] d (List.getElem?_eq_getElem hjl) hd).2)
      rw [hD]
      simp only [Rows.uptoBulk]
      omega
theorem ltsW_mem : ∀ {ls : List Lt} {l : Lt}, l ∈ ls → ltW l ≤ ltsW ls := by
  intro ls
  induction ls with
  | nil => intro l h; simp at h
  | cons a ls ih =>
    intro l h
    simp only [ltsW]
    rcases List.mem_cons.1 h with rfl | h
    · omega
    · have := ih h; omega
theorem cjsW_mem : ∀ {cs : List (List Lt)} {ls : List Lt}, ls ∈ cs → ltsW ls ≤ cjsW cs := by
  intro cs
  induction cs with
  | nil => intro l h; simp at h
  | cons a cs ih =>
    intro l h
    simp only [cjsW]
    rcases List.mem_cons.1 h with rfl | h
    · omega
    · have := ih h; omega
theorem litN_wt (l : Lt) : wtN (litN l) ≤ ltW l := by
  have e : (⟨#[]⟩ : ByteArray).size = 0 := rfl
  unfold litN ltW
  split
  · simp only [notT, wtN, wtL, wordsWt, List.length_nil, e]; omega
  · simp only [wtN, wtL]; omega
theorem lits_wt : ∀ ls : List Lt, wtL (ls.map litN) ≤ ltsW ls ∧ ls.length ≤ ltsW ls := by
  intro ls
  induction ls with
  | nil => simp [wtL, ltsW]
  | cons l ls ih =>
    have := litN_wt l
    have h2 : 2 ≤ ltW l := by unfold ltW; omega
    simp only [List.map_cons, wtL, ltsW, List.length_cons]
    omega
theorem cjs_wt : ∀ cs : List (List Lt), wtL (cs.map treeC) ≤ cjsW cs ∧ cs.length ≤ cjsW cs := by
  intro cs
  induction cs with
  | nil => simp [wtL, cjsW]
  | cons ls cs ih =>
    have h1 := (lits_wt ls).1
    have h2 := wt_join8 3 (ls.map litN)
    simp only [List.map_cons, wtL, cjsW, List.length_cons, treeC]
    omega
theorem open_cjs {H : Type} {enc : TypeId × Value → H} {W : World} {base : Nat} {sp : Nat → Bool} {held : Bool} {fuel : Nat} {v : Value} {x : DataW H × List MemPlace} (h : DataW.trod enc Try.prog W base sp held fuel 64 [v] = some x) :
    ∃ q c cs, v = .slice q cs.length c ∧ CjsOf W q c cs ∧ cjsW cs ≤ Rows.uptoBulk x.1 ∧ ∀ ls ∈ cs, ls.length ≤ Rows.uptoBulk x.1 ∧ wtL (ls.map litN) ≤ Rows.uptoBulk x.1 ∧ ∀ l ∈ ls, l.ints.length ≤ Rows.uptoBulk x.1 ∧ l.words.length ≤ Rows.uptoBulk x.1 := by
  have hfin : ∀ cs : List (List Lt), cjsW cs ≤ Rows.uptoBulk x.1 → ∀ ls ∈ cs, ls.length ≤ Rows.uptoBulk x.1 ∧ wtL (ls.map litN) ≤ Rows.uptoBulk x.1 ∧ ∀ l ∈ ls, l.ints.length ≤ Rows.uptoBulk x.1 ∧ l.words.length ≤ Rows.uptoBulk x.1 := fun cs hw ls hl => by
    have h1 := cjsW_mem hl
    have h2 := lits_wt ls
    refine ⟨by omega, by omega, fun l hl2 => ?_⟩
    have h3 := ltsW_mem hl2
    have h4 := words_len l.words
    unfold ltW at h3
    omega
  obtain ⟨qk, ck, vs, e2, s3, g3⟩ := open_slD (enc' := encQ) (P := fun u d => ∃ ls : List Lt, u.2.1 = ls.length ∧ LitsOf W u.1 u.2.2 ls ∧ 1 + ltsW ls ≤ Rows.uptoBulk d) Try.underlying64 Try.cells69 (by decide) (fun m hm cs x hx hl => by
    obtain ⟨u, rfl⟩ := List.length_eq_one_iff.1 hl
    obtain ⟨q, c, l, rfl, h1, h2⟩ := open_lits hx
    refine ⟨(q, l.length, c), fun c' hc => ?_, l, rfl, h1, h2⟩
    obtain rfl : c' = 0 := by omega
    rfl) h
  rcases g3 with rfl | ⟨D, E, hD, hlD, hP⟩
  · exact ⟨qk, ck, [], e2, ⟨[], s3, rfl, fun j v t hj _ => by simp at hj⟩, by simp [cjsW], fun ls h => by simp at h⟩
  · have hth : ∀ i, i < vs.length → ∃ t : List Lt, ∀ u d, vs[i]? = some u → D[i]? = some d → u.2.1 = t.length ∧ LitsOf W u.1 u.2.2 t ∧ 1 + ltsW t ≤ Rows.uptoBulk d := fun i hi => by
      obtain ⟨t, ht⟩ := hP i vs[i] (D[i]'(by omega)) (List.getElem?_eq_getElem hi) (List.getElem?_eq_getElem (by omega))
      exact ⟨t, fun v d hv hd => by
        rw [List.getElem?_eq_getElem hi] at hv
        rw [List.getElem?_eq_getElem (by omega)] at hd
        cases hv; cases hd; exact ht⟩
    obtain ⟨f, hf⟩ := Go.Deep.choose_lt hth
    have hw : cjsW ((List.range vs.length).map f) ≤ Rows.uptoBulk x.1 := by
      have := bulk_cjs ((List.range vs.length).map f) D (by simpa using hlD) (fun j y d hj hd => by
        obtain ⟨hjl, rfl⟩ := range_at hj
        exact (hf j hjl vs[j] d (List.getElem?_eq_getElem hjl) hd).2.2)
      rw [hD]
      simp only [Rows.uptoBulk]
      omega
    refine ⟨qk, ck, (List.range vs.length).map f, by simpa using e2, ⟨vs, s3, by simp, fun j v t hj ht => ?_⟩, hw, hfin _ hw⟩
    obtain ⟨hjl, rfl⟩ := range_at ht
    have := hf j hjl v (D[j]'(by omega)) hj (List.getElem?_eq_getElem (by omega))
    exact ⟨this.1, this.2.1⟩
end

open Go.ChangeShapes Go.WideShapes Go.ChangeAt Go.RowKit Go.Joins

theorem dnfBack_reads (os : Os) {H : Type} (enc : TypeId × Value → H) : ∃ places, DataW.whole enc Try.prog ((World.doorLaid Try.prog 400 os).forCall (fun _ _ => 0) ⟨#[], #[.slice none 0 0, .slice none 0 0], []⟩).memory Try.f14.params.toList Rows.dnfBackSpec.vars false (#[.slice none 0 0, .slice none 0 0] : Array Value).toList 8 = some ([.nil, .nil], [], places) :=
  ⟨[], by kernel_rfl⟩
set_option maxRecDepth 100000 in
theorem dnfBack_lifted (os : Os) (started : os.Started) (H : Type) (enc : TypeId × Value → H) (F : Stop.Interp) :
    ReturnsInHanded {} Try.checked os 14 .any ((Rows.OpenSpec.upto Rows.dnfBackSpec).preRow enc Try.prog Try.f14 Rows.dnfBackUptoRow.domain false Rows.dnfBackUptoRow.laid) (((Rows.OpenSpec.upto Rows.dnfBackSpec).at F).post enc Try.prog Try.f14 false true false false) := by
  obtain ⟨places, hx⟩ := dnfBack_reads os enc
  refine returnsInHanded_of_row (C := Try.checked) (s := (Rows.OpenSpec.upto Rows.dnfBackSpec)) Try.own started (by kernel_rfl) Try.func14
    (witness_row_atRef (enc := enc) (C := Try.checked) false (World.doorLaid Try.prog 400 os) #[.slice none 0 0, .slice none 0 0] rfl (by kernel_rfl) (by kernel_rfl) (by kernel_rfl)
      (OpenSpec.preRow_of_cond 8 hx (by kernel_rfl) (fun k hk => by cases hk; kernel_rfl) (by kernel_rfl) (laidMet_of_run' 8 (by kernel_rfl) (by kernel_rfl)))) ?_
  intro W base args ds gs before hval0 hW _ hcond hreach hL _ _
  have hval : ∀ (j : Nat) t v, Try.f14.params[j]? = some t → args[j]? = some v → Value.okWide Try.prog W .any base t v := hval0
  have hW' := hW
  obtain ⟨p, q, hA0, hV, rfl, hfz, hnd⟩ := hW
  have hA : DataW.TrodAll enc Try.prog W 0 (fun _ => true) true Try.f14.params.toList args.toList ds p := hA0
  rw [Try.params14] at hA hval
  obtain ⟨v0, vs0, d0, ds0, p0, q0, hargs, rfl, rfl, h0, r0⟩ := trodAll_cons hA
  obtain ⟨v1, vs1, d1, ds1, p1, q1, rfl, rfl, rfl, h1, r1⟩ := trodAll_cons r0
  obtain ⟨rfl, rfl, rfl⟩ := trodAll_nil r1
  obtain rfl : args = #[v0, v1] := by cases args; simp_all
  obtain ⟨rfl, rfl⟩ := trodVars_none hV
  have lt0 : ∀ x ∈ p0, x.block < W.heap.size := by obtain ⟨m, hm⟩ := h0; exact DataW.trod_lt m _ _ _ hm
  have k0 := h0
  have lt1 : ∀ x ∈ p1, x.block < W.heap.size := by obtain ⟨m, hm⟩ := h1; exact DataW.trod_lt m _ _ _ hm
  have k1 := h1
  obtain ⟨a0, len0, cap0, rfl⟩ := okWide_slice Try.underlying64 (hval 0 64 v0 rfl rfl)
  obtain ⟨fuel0, hf0⟩ := h0
  obtain ⟨qq0, cc0, ll0, ee0, ss0, ww0, xx0⟩ := open_cjs (v := .slice a0 len0 cap0) (by simpa [Value.cells] using hf0)
  simp only [Value.slice.injEq] at ee0
  obtain ⟨rfl, rfl, rfl⟩ := ee0
  simp only at ww0 xx0
  obtain ⟨a1, len1, cap1, rfl⟩ := okWide_slice Try.underlying23 (hval 1 23 v1 rfl rfl)
  obtain ⟨fuel1, hf1⟩ := h1
  obtain ⟨qq1, cc1, ll1, ee1, ss1, ww1⟩ := open_prsD (v := .slice a1 len1 cap1) (by simpa [Value.cells] using hf1)
  simp only [Value.slice.injEq] at ee1
  obtain ⟨rfl, rfl, rfl⟩ := ee1
  simp only at ww1
  have hbk := hcond _ rfl
  have hbk2 := of_decide_eq_true hbk
  simp only [Rows.uptoBulkAll, List.append_nil] at hbk2
  clear hA0 hval0
  refine (dnfBack_any a0 cap0 ll0 a1 cap1 ll1 W ss0 ss1 (fun ls h => by obtain ⟨z1, z2, z3⟩ := xx0 ls h; exact ⟨by omega, by omega, fun l hl => by have := z3 l hl; omega⟩) (by have := (cjs_wt ll0).1; omega) (by have := (cjs_wt ll0).2; omega) (by omega)).mono fun e W' ⟨he, bel⟩ => ?_
  subst he
  exact ⟨_, rfl, _, _, _, [], _, [], hW', trodAll_mk1 (shut_bool Try.underlying4 _), (trodAll_cons_mk (Below.trod Try.laidOut (by kernel_rfl) (of_decide_eq_true (by kernel_rfl)) k0 bel lt0) (trodAll_cons_mk (Below.trod Try.laidOut (by kernel_rfl) (of_decide_eq_true (by kernel_rfl)) k1 bel lt1) trodAll_mk0)), rfl, bel.frame _, fun h => by cases h⟩

/-- THE STATEMENT. -/
theorem dnfBack_holds : Rows.DnfBackUptoSaid :=
  OpenClaim.holds_of_cond 14 Try.f14 rfl rfl rfl rfl rfl rfl rfl ⟨rfl, rfl, rfl, rfl, rfl⟩ rfl rfl rfl rfl rfl (by kernel_rfl) Try.func14 (by kernel_rfl)
    (of_decide_eq_true (by kernel_rfl)) (by unfold Func.isWrapper; first | (rw [if_pos (by decide +kernel)]; kernel_rfl) | (rw [if_neg (by decide +kernel)]; exact ⟨rfl, rfl⟩))
    (fun os started H enc _ F => by rw [OpenClaim.pre_eq_preRow]; exact dnfBack_lifted os started H enc F)
end Go.Proofs.Ytppkjlmdfcifgaa

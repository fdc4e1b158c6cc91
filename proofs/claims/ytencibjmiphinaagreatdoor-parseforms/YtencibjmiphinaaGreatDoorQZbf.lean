/- What is parsed is in form; where the parser gives up; the texts of the tokens. -/
import Derived.Test.YtencibjmiphinaaGreatDoorQZbh
import Derived.Test.YtencibjmiphinaaGreatDoorQZbb
namespace Go.Proofs.YtencibjmiphinaaGreatDoor
open Go.RowKit

def Fit (l : List Tk) : Prop := ∀ t ∈ l, TkFit (t.1, t.2.2.2.1, t.2.2.2.2)
theorem Fit.tail {l r : List Tk} {t : Tk} (h : Fit l) (e : l = t :: r) : Fit r ∧ TkFit (t.1, t.2.2.2.1, t.2.2.2.2) := by
  subst e; exact ⟨fun x hx => h x (List.mem_cons_of_mem _ hx), h t (by simp)⟩
theorem fit_name {t : Tk} (h : TkFit (t.1, t.2.2.2.1, t.2.2.2.2)) (hk : t.1 = 1) : nameOk t.2.2.2.2 = true := by
  rcases h with ⟨_, h⟩ | ⟨h, _⟩ | ⟨h, _⟩ | ⟨h, _⟩
  · exact h
  all_goals simp only at h; omega
theorem fit_num {t : Tk} (h : TkFit (t.1, t.2.2.2.1, t.2.2.2.2)) (hk : t.1 = 2) : numOk t.2.2.2.1 = true := by
  rcases h with ⟨h, _⟩ | ⟨_, h1, h2⟩ | ⟨h, _⟩ | ⟨h, _⟩
  · simp only at h; omega
  · unfold numOk; simp only at h1 h2; simp; omega
  all_goals simp only at h; omega
theorem fit_word {t : Tk} (h : TkFit (t.1, t.2.2.2.1, t.2.2.2.2)) (hk : t.1 = 3) : wordOk t.2.2.2.2 = true := by
  rcases h with ⟨h, _⟩ | ⟨h, _⟩ | ⟨_, h1⟩ | ⟨h, _⟩
  · simp only at h; omega
  · simp only at h; omega
  · unfold wordOk; simp only at h1; simpa using h1
  · simp only at h; omega
/-- All of these are of a kind, and fit. -/
def AllK (k : Int) (ts : List Tk) : Prop := ∀ t ∈ ts, t.1 = k ∧ TkFit (t.1, t.2.2.2.1, t.2.2.2.2)
theorem one_mem {α : Type} {P : α → Prop} {x : α} (h : P x) : ∀ y ∈ [x], P y := fun y hy => by rw [List.mem_singleton.1 hy]; exact h
theorem mbL_chk {en k : Int} : ∀ (n : Nat) (acc l ts r : List Tk), Fit l → AllK k acc → 1 ≤ acc.length → acc.length ≤ 64 → mbL en k n acc l = .ok ts r → Fit r ∧ AllK k ts ∧ 1 ≤ ts.length ∧ ts.length ≤ 64
  | 0, acc, l, ts, r, _, _, _, _, h => by simp [mbL] at h
  | n + 1, acc, l, ts, r, hs, ha, h1, h2, h => by
    simp only [mbL] at h
    split at h
    · split at h
      · cases h
      · cases h
        obtain ⟨t, e⟩ := sgL_tail ‹_›
        exact ⟨(hs.tail e).1, ha, h1, h2⟩
    · obtain ⟨t, e⟩ := skL_tail ‹_›
      have h3 := hs.tail e
      split at h
      · cases h
      · split at h
        · cases h
        · obtain ⟨e2, hk⟩ := ndL_tail ‹_›
          have h4 := h3.1.tail e2
          refine mbL_chk n _ _ _ _ h4.1 (fun y hy => ?_) (by simp) (by simp; omega) h
          rcases List.mem_append.1 hy with hy | hy
          · exact ha y hy
          · obtain rfl := List.mem_singleton.1 hy
            exact ⟨hk, h4.2⟩
theorem msL_chk {en k : Int} {l ts r : List Tk} (hs : Fit l) (h : msL en k l = .ok ts r) : Fit r ∧ AllK k ts ∧ 1 ≤ ts.length ∧ ts.length ≤ 64 := by
  unfold msL at h
  split at h
  · cases h
  · obtain ⟨e2, hk⟩ := ndL_tail ‹_›
    have h2 := hs.tail e2
    exact mbL_chk _ _ _ _ _ h2.1 (one_mem ⟨hk, h2.2⟩) (by simp) (by simp) h
theorem chk_pred {k : Int} {a : ByteArray} {i : List Int} {w : List ByteArray} {l h : Int} (H : predB k a i w l h = true) : chkN (.mk k a i w l h 1 []) = true := by
  simp [chkN, nodeB, H, chkL]
theorem setL_chk {en : Int} {a : ByteArray} {l r : List Tk} {x : Nd} (ha : nameOk a = true) (hs : Fit l) (h : setL en a l = .ok x r) : chkN x = true ∧ Fit r := by
  unfold setL at h
  split at h
  · split at h
    · cases h
    · cases h
      obtain ⟨h1, h2, h3, h4⟩ := msL_chk hs ‹_›
      refine ⟨chk_pred ?_, h1⟩
      unfold predB
      rw [if_neg (by decide), if_pos rfl, ha]
      simp only [memB, emptyB, List.length_map, Bool.true_and, Bool.and_eq_true, decide_eq_true_eq, List.all_eq_true, List.length_nil]
      refine ⟨⟨fun y hy => ?_, by omega, by omega⟩, by simp⟩
      obtain ⟨t, ht, rfl⟩ := List.mem_map.1 hy
      exact fit_word (h2 t ht).2 (h2 t ht).1
  · split at h
    · cases h
    · cases h
      obtain ⟨h1, h2, h3, h4⟩ := msL_chk hs ‹_›
      refine ⟨chk_pred ?_, h1⟩
      unfold predB
      rw [if_pos rfl, ha]
      simp only [memB, emptyB, List.length_map, Bool.true_and, Bool.and_eq_true, decide_eq_true_eq, List.all_eq_true, List.length_nil]
      refine ⟨⟨fun y hy => ?_, by omega, by omega⟩, by simp⟩
      obtain ⟨t, ht, rfl⟩ := List.mem_map.1 hy
      exact fit_num (h2 t ht).2 (h2 t ht).1
theorem bdL_chk {en : Int} {a : ByteArray} {l r : List Tk} {x : Nd} (ha : nameOk a = true) (hs : Fit l) (h : bdL en a l = .ok x r) : chkN x = true ∧ Fit r := by
  unfold bdL at h
  split at h
  · cases h
  · obtain ⟨e1, k1⟩ := ndL_tail ‹_›
    have h1 := hs.tail e1
    split at h
    · cases h
    · obtain ⟨t, e⟩ := sgL_tail ‹_›
      have h2 := h1.1.tail e
      split at h
      · cases h
      · obtain ⟨e3, k3⟩ := ndL_tail ‹_›
        have h3 := h2.1.tail e3
        split at h
        · cases h
        · obtain ⟨t, e⟩ := sgL_tail ‹_›
          have h4 := h3.1.tail e
          cases h
          refine ⟨chk_pred ?_, h4.1⟩
          unfold predB
          rw [if_neg (by decide), if_neg (by decide), if_pos rfl, ha, fit_num h1.2 k1, fit_num h3.2 k3]; rfl
theorem pxL_chk {en : Int} {a : ByteArray} {l r : List Tk} {x : Nd} (ha : nameOk a = true) (hs : Fit l) (h : pxL en a l = .ok x r) : chkN x = true ∧ Fit r := by
  unfold pxL at h
  split at h
  · cases h
  · obtain ⟨e1, k1⟩ := ndL_tail ‹_›
    have h1 := hs.tail e1
    split at h
    · cases h
    · obtain ⟨t, e⟩ := sgL_tail ‹_›
      have h2 := h1.1.tail e
      cases h
      refine ⟨chk_pred ?_, h2.1⟩
      unfold predB
      rw [if_neg (by decide), if_neg (by decide), if_neg (by decide), if_pos rfl, ha]
      simp [memB, emptyB, fit_word h1.2 k1]
theorem prL_chk {en : Int} {l r : List Tk} {x : Nd} (hs : Fit l) (h : prL en l = .ok x r) : chkN x = true ∧ Fit r := by
  unfold prL at h
  split at h
  · cases h
  · obtain ⟨e1, k1⟩ := ndL_tail ‹_›
    have h1 := hs.tail e1
    have ha := fit_name h1.2 k1
    split at h
    · obtain ⟨t, e⟩ := skL_tail ‹_›
      exact setL_chk ha (h1.1.tail e).1 h
    · split at h
      · obtain ⟨t, e⟩ := skL_tail ‹_›
        exact bdL_chk ha (h1.1.tail e).1 h
      · exact pxL_chk ha h1.1 h
def Cq (f : List Tk → Rs Nd) : Prop := ∀ l x r, Fit l → f l = .ok x r → chkN x = true ∧ Fit r
theorem chG_chk {s : ByteArray} {f : List Tk → Rs Nd} (hf : Cq f) : ∀ (n : Nat) (ks : List Nd) (l : List Tk) (ks' : List Nd) (r : List Tk), Fit l → (∀ k ∈ ks, chkN k = true) → chG s f n ks l = .ok ks' r → (∀ k ∈ ks', chkN k = true) ∧ Fit r
  | 0, ks, l, ks', r, _, _, h => by simp [chG] at h
  | n + 1, ks, l, ks', r, hs, hk, h => by
    simp only [chG] at h
    split at h
    · cases h; exact ⟨hk, hs⟩
    · obtain ⟨t, e⟩ := skL_tail ‹_›
      have h1 := hs.tail e
      split at h
      · cases h
      · have h2 := hf _ _ _ h1.1 ‹_›
        refine chG_chk hf n _ _ _ _ h2.2 (fun y hy => ?_) h
        rcases List.mem_append.1 hy with hy | hy
        · exact hk y hy
        · obtain rfl := List.mem_singleton.1 hy
          exact h2.1
theorem chkL_of {l : List Nd} (h : ∀ k ∈ l, chkN k = true) : chkL l = true := by
  induction l with
  | nil => rfl
  | cons x l ih => simp only [chkL, h x (by simp), ih fun k hk => h k (List.mem_cons_of_mem _ hk)]; rfl
theorem jnT_chk {op : Int} (ho : op = 3 ∨ op = 4) {ks : List Nd} (h1 : 1 ≤ ks.length) (h : ∀ k ∈ ks, chkN k = true) : chkN (jnT op ks) = true := by
  match ks, h1 with
  | [x], _ => exact h x (by simp)
  | x :: y :: ks, _ =>
    show chkN (.mk 0 ⟨#[]⟩ [] [] 0 0 op (x :: y :: ks)) = true
    simp only [chkN, chkL_of h, Bool.and_true]
    unfold nodeB
    have o1 : op ≠ 1 := by omega
    have o2 : op ≠ 2 := by omega
    rw [if_neg o1, if_neg o2, if_pos ho]
    exact Bool.and_eq_true_iff.2 ⟨by decide, by simp⟩
theorem chL_chk {op : Int} (ho : op = 3 ∨ op = 4) {s : ByteArray} {f : List Tk → Rs Nd} (hf : Cq f) : Cq (chL op s f) := fun l x r hs h => by
  unfold chL at h
  split at h
  · cases h
  · have h1 := hf _ _ _ hs ‹_›
    split at h
    · cases h
    · rename_i hc
      have hp := chG_pos _ [_] _ _ _ (Nat.le_refl 1) hc
      have h2 := chG_chk hf _ [_] _ _ _ h1.2 (one_mem (P := fun k => chkN k = true) h1.1) hc
      cases h
      exact ⟨jnT_chk ho hp h2.1, h2.2⟩
theorem onL_chk {en : Int} : ∀ (n : Nat), Cq (onL en n)
  | 0 => fun l x r _ h => by change (Rs.bad 0 : Rs Nd) = Rs.ok x r at h; cases h
  | n + 1 => fun l x r hs h => by
    simp only [onL] at h
    split at h
    · obtain ⟨t, e⟩ := skL_tail ‹_›
      have h1 := hs.tail e
      split at h
      · cases h
      · have h2 := onL_chk n _ _ _ h1.1 ‹_›
        cases h
        refine ⟨?_, h2.2⟩
        simp only [chkN, chkL, h2.1, Bool.and_true]
        unfold nodeB
        rw [if_neg (by decide), if_pos rfl]
        exact Bool.and_eq_true_iff.2 ⟨by decide, by simp⟩
    · split at h
      · obtain ⟨t, e⟩ := skL_tail ‹_›
        have h1 := hs.tail e
        split at h
        · cases h
        · have h2 := chL_chk (Or.inr rfl) (chL_chk (Or.inl rfl) (onL_chk n)) _ _ _ h1.1 ‹_›
          split at h
          · cases h
          · obtain ⟨t, e⟩ := sgL_tail ‹_›
            have h3 := h2.2.tail e
            cases h
            exact ⟨h2.1, h3.1⟩
      · exact prL_chk hs h
/-- What is parsed is in form. -/
theorem parL_ok {s : ByteArray} {t : Nd} {r : List Tk} (h : parL s = .ok t r) : s.size ≤ 4096 ∧ (Lx.toksL s.data.toList 0).2 = none ∧ whL s.size (Lx.toksL s.data.toList 0).1 = .ok t [] ∧ chkN t = true := by
  unfold parL at h
  split at h
  · cases h
  · rename_i hs
    split at h
    · cases h
    · rename_i ht
      have h1 := wh_yes h
      obtain ⟨rfl, h2⟩ := h1
      have hf := toksL_fit 4096 s.data.toList 0 (by simp; omega) (Nat.le_refl _)
      refine ⟨by omega, ht, h, ?_⟩
      rw [← orL_P (Nat.lt_succ_self _)] at h2
      exact (chL_chk (Or.inr rfl) (chL_chk (Or.inl rfl) (onL_chk _)) _ _ _ (fun x hx => (hf.2 x hx).1) h2).1
/-- The place lies in the text. -/
theorem parL_place {s : ByteArray} {p : Int} (h : parL s = .bad p) : 0 ≤ p ∧ p ≤ s.size := by
  unfold parL at h
  split at h
  · cases h; omega
  · rename_i hs
    split at h
    · rename_i q hq
      cases h
      have := Lx.toksL_err s.data.toList.length s.data.toList 0 (Nat.le_refl _) (Lx.toksL s.data.toList 0).1 q (by rw [← hq])
      have h2 : s.data.toList.length = s.size := by simp
      omega
    · rcases wh_place h with rfl | ⟨t, ht, rfl⟩
      · omega
      · obtain ⟨f, e, h1, _, h3, h4, h5⟩ := Lx.toksL_in s.data.toList.length s.data.toList 0 (Nat.le_refl _) t ht
        have h2 : s.data.toList.length = s.size := by simp
        omega
/-- The text of each token is that token's. -/
theorem toksL_text : ∀ (N : Nat) (l : List UInt8) (i : Nat), l.length ≤ N → ∀ t ∈ (Lx.toksL l i).1, ∀ f e : Nat, t.2.1 = f → t.2.2.1 = e → Lx.tokL ((l.drop (f - i)).take (e - f)) = some (t.1, e - f, t.2.2.2.1, t.2.2.2.2) ∧ ((l.drop (f - i)).take (e - f)).length = e - f
  | N, l, i, hN, t, ht, f, e, hf, he => by
    by_cases h : l.length ≤ Lx.rl Lx.isBlank l
    · rw [Lx.toksL_end h] at ht; cases ht
    · cases hk : Lx.tokL (l.drop (Lx.rl Lx.isBlank l)) with
      | none => rw [Lx.toksL_bad h hk] at ht; cases ht
      | some q =>
        obtain ⟨k, n, v, x⟩ := q
        rw [Lx.toksL_step h hk] at ht
        have hn := Lx.tokL_len hk
        simp only [List.length_drop] at hn
        rcases List.mem_cons.1 ht with rfl | ht
        · simp only at hf he
          have e1 : f - i = Lx.rl Lx.isBlank l := by omega
          have e2 : e - f = n := by omega
          rw [e1, e2]
          exact ⟨Lx.tokL_take hk n (Nat.le_refl _), by simp; omega⟩
        · have h0 : 0 < N := by omega
          obtain ⟨f', e', h1, h2, h3, h4, h5⟩ := Lx.toksL_in l.length ((l.drop (Lx.rl Lx.isBlank l)).drop n) (i + Lx.rl Lx.isBlank l + n) (by simp only [List.length_drop]; omega) t ht
          have g1 : f' = f := by omega
          subst g1
          have := toksL_text (N - 1) ((l.drop (Lx.rl Lx.isBlank l)).drop n) (i + Lx.rl Lx.isBlank l + n) (by simp only [List.length_drop]; omega) t ht f' e hf he
          rw [List.drop_drop, List.drop_drop] at this
          have e3 : Lx.rl Lx.isBlank l + (n + (f' - (i + Lx.rl Lx.isBlank l + n))) = f' - i := by omega
          have e4 : Lx.rl Lx.isBlank l + n + (f' - (i + Lx.rl Lx.isBlank l + n)) = f' - i := by omega
          first | rw [e3] at this | rw [e4] at this
          exact this
termination_by N => N
decreasing_by omega
/-- Any token's text, with a blank behind. -/
theorem LexN.tok {b : List UInt8} {k v : Int} {t : ByteArray} (h : Lx.tokL b = some (k, b.length, v, t)) : LexN b [(k, v, t)] :=
  LexP.tok h fun r hr => Lx.tokL_app h rfl r (hr trivial)
theorem lex_blanks : ∀ (l : List UInt8), (∀ c ∈ l, Lx.isBlank (c.toNat : Int) = true) → LexF l []
  | [], _ => LexF.nil
  | c :: l, h => by
    have := (LexF.blank (h c (by simp))).app (lex_blanks l fun x hx => h x (List.mem_cons_of_mem _ hx))
    simpa using this
theorem fr_blank {c : UInt8} (h : Lx.isBlank (c.toNat : Int) = true) (r : List UInt8) : Lx.Fr (c :: r) := fr_cons (Lx.blank_notName h) (Lx.blank_notDig h) r
/-- A token more is written, and blanks behind it. -/
theorem lex_more {o b bl : List UInt8} {s : List Sk} {k v : Int} {t : ByteArray} (ho : LexF o s) (hb : Lx.tokL b = some (k, b.length, v, t)) (hbl : ∀ c ∈ bl, Lx.isBlank (c.toNat : Int) = true) (hne : bl ≠ []) : LexF (o ++ b ++ bl) (s ++ [(k, v, t)]) := by
  cases bl with
  | nil => exact absurd rfl hne
  | cons c bl =>
    have := ho.app ((LexN.tok hb).app (lex_blanks (c :: bl) hbl) fun r => by rw [List.cons_append]; exact fr_blank (hbl c (by simp)) _)
    simpa using this
/-- What is written so is the same tree. -/
theorem forms_plain {s o : ByteArray} {t : Nd} {r : List Tk} (h : parL s = .ok t r) (ho : LexF o.data.toList (sgT 40 :: ((Lx.toksL s.data.toList 0).1.map stp ++ [sgT 41]))) (hs : o.size ≤ 4096) : parL o = .ok t [] := by
  obtain ⟨h1, h2, h3, _⟩ := parL_ok h
  obtain ⟨L, h4, h5⟩ := ho [] 0 (fun h => h.elim)
  have he : Lx.toksL ([] : List UInt8) (0 + o.data.toList.length) = ([], none) := Lx.toksL_end (by simp)
  rw [List.append_nil, he] at h5
  simp only [List.append_nil] at h5
  obtain ⟨t0, q, rfl, ht0, hq⟩ := map_cons h4
  obtain ⟨a, b, rfl, ha, hb⟩ := map_app hq
  obtain ⟨c, q2, rfl, hc, hq2⟩ := map_cons hb
  have hq2 : q2 = [] := by simpa using hq2
  subst hq2
  unfold parL
  rw [if_neg (by omega), h5]
  exact wh_par h3 (stp_sg ht0) (stp_sg hc) ha
end Go.Proofs.YtencibjmiphinaaGreatDoor
namespace Go.Proofs.YtencibjmiphinaaGreatDoor
open Go.RowKit Go.Sort

theorem wrap_s (n : Nat) (h : n ≤ 3) : IntKind.i64.wrap (n : Int) = n := by
  obtain rfl | rfl | rfl | rfl : n = 0 ∨ n = 1 ∨ n = 2 ∨ n = 3 := by omega
  all_goals decide
theorem wrap_s1 (n : Nat) (h : n ≤ 3) : IntKind.i64.wrap (1 + (n : Int)) = 1 + (n : Int) := by
  obtain rfl | rfl | rfl | rfl : n = 0 ∨ n = 1 ∨ n = 2 ∨ n = 3 := by omega
  all_goals decide
theorem and_3 (b : Int) : ∃ n : Nat, n ≤ 3 ∧ bits .and .i64 b 3 = (n : Int) := by
  have h : ((BitVec.ofInt 64 b) &&& (BitVec.ofInt 64 3)).toNat ≤ 3 := by
    rw [BitVec.toNat_and]; exact Nat.le_trans Nat.and_le_right (by decide)
  refine ⟨_, h, ?_⟩
  exact wrap_s _ h
theorem ext_bl (n : Nat) (h : n ≤ 3) : (∀ c ∈ ((⟨#[32, 32, 10, 9]⟩ : ByteArray).extract 0 (1 + n)).data.toList, Lx.isBlank (c.toNat : Int) = true) ∧ ((⟨#[32, 32, 10, 9]⟩ : ByteArray).extract 0 (1 + n)).size ≤ 4 := by
  obtain rfl | rfl | rfl | rfl : n = 0 ∨ n = 1 ∨ n = 2 ∨ n = 3 := by omega
  all_goals exact ⟨by decide, by decide⟩
/-- The text so far: a bracket, and k tokens. -/
def Sp (s o : ByteArray) (k : Nat) : Prop := LexF o.data.toList (sgT 40 :: ((Lx.toksL s.data.toList 0).1.take k).map stp) ∧ o.size ≤ 2 + 10000 * k
theorem Sp.first (s : ByteArray) : Sp s ⟨#[40, 32]⟩ 0 := by
  refine ⟨?_, by decide⟩
  have := (LexF.sign (c := 40) (by decide) (by decide) (by decide) (by decide)).app (LexF.blank (c := 32) (by decide))
  simpa using this
theorem Sp.more {s o e : ByteArray} {k f g : Nat} {t : Tk} (h : Sp s o k) (hs : s.size ≤ 4096) (ht : (Lx.toksL s.data.toList 0).1[k]? = some t) (hf : t.2.1 = f) (hg : t.2.2.1 = g) (he : ∀ c ∈ e.data.toList, Lx.isBlank (c.toNat : Int) = true) (hz : e.size ≤ 4) : Sp s (o ++ s.extract f g ++ e ++ ⟨#[32]⟩) (k + 1) := by
  have hm := List.mem_of_getElem? ht
  obtain ⟨h1, h2⟩ := toksL_text s.data.toList.length s.data.toList 0 (Nat.le_refl _) t hm f g hf hg
  obtain ⟨f', g', e1, e2, _, e4, e5⟩ := Lx.toksL_in s.data.toList.length s.data.toList 0 (Nat.le_refl _) t hm
  have hsz : s.data.toList.length = s.size := by simp
  obtain rfl : f' = f := by omega
  obtain rfl : g' = g := by omega
  have hx : (s.extract f' g').data.toList = (s.data.toList.drop f').take (g' - f') := by
    rw [ByteArray.data_extract, Array.toList_extract, List.extract_eq_take_drop]
  rw [Nat.sub_zero, ← hx] at h1 h2
  have hl := lex_more (k := t.1) (v := t.2.2.2.1) (t := t.2.2.2.2) (bl := e.data.toList ++ [32]) h.1 (by rw [h2]; exact h1) (fun c hc => by
    rcases List.mem_append.1 hc with hc | hc
    · exact he c hc
    · rw [List.mem_singleton.1 hc]; decide) (by simp)
  refine ⟨?_, ?_⟩
  · have e3 : (o ++ s.extract f' g' ++ e ++ ⟨#[32]⟩).data.toList = o.data.toList ++ (s.extract f' g').data.toList ++ (e.data.toList ++ [32]) := by simp
    rw [e3]
    have e6 : ((Lx.toksL s.data.toList 0).1.take (k + 1)).map stp = ((Lx.toksL s.data.toList 0).1.take k).map stp ++ [stp t] := by
      rw [take_snoc_of ht]; simp
    rw [e6]
    exact hl
  · have h3 := h.2
    have h4 : (s.extract f' g').size ≤ 4096 := by
      have : (s.extract f' g').data.toList.length = (s.extract f' g').size := Array.length_toList
      omega
    have h5 : (o ++ s.extract f' g' ++ e ++ ⟨#[32]⟩).size = o.size + (s.extract f' g').size + e.size + 1 := by rw [ByteArray.size_append, ByteArray.size_append, ByteArray.size_append]; rfl
    omega
theorem Sp.last {s o : ByteArray} {k : Nat} (h : Sp s o k) (hk : (Lx.toksL s.data.toList 0).1.length ≤ k) : LexF (o ++ ⟨#[41]⟩).data.toList (sgT 40 :: ((Lx.toksL s.data.toList 0).1.map stp ++ [sgT 41])) := by
  have := h.1.app (LexF.sign (c := 41) (by decide) (by decide) (by decide) (by decide))
  rw [List.take_of_length_le hk] at this
  simpa using this
set_option maxHeartbeats 4000000 in
theorem forms_bad (s : ByteArray) (qb : Option Addr) (nb cb : Nat) (w : World) (hG : Lx.G w) (p : Int) (hp : parL s = .bad p) :
    Calls Tryz.prog 6 #[.string s, .slice qb nb cb] w fun e w' => e = .returned (.bool true) ∧ RowKit.Below w.heap.size w w' := by
  have hfx := fixed_any5 w hG
  obtain ⟨p0, p1⟩ := parL_place hp
  have HG := hide hG
  have HP := hide hp
  have HZ := hide (sameT_yes (rfl : zeroT = zeroT))
  clear hG hp
  go_enter Tryz.func6, Tryz.ntmps6
  go_wp2_with first
    | (go_at_call 9; refine hfx.mono ?_; rintro e w1 ⟨rfl, hb⟩; have B1 := hide hb; clear hb)
    | (go_at_call 10; refine (parse_any s _ (G_on (unhide HG) (unhide B1))).mono ?_; intro e w2 h; rw [unhide HP] at h; obtain ⟨v, rfl, hv, hb⟩ := h.said; simp only [prP, prC]; have B2 := hide (below_sub (below_sub (unhide B1) hb) (al_bel w2 (.cells #[.int .i64 v.kind, .string v.attr, .slice v.qi v.ni v.ci, .slice v.qw v.nw v.cw, .int .i64 v.lo, .int .i64 v.hi, .int .i64 v.op, .slice v.qk v.nk v.ck] 29))); have V2 := hide (hv.keep (al_bel w2 (.cells #[.int .i64 v.kind, .string v.attr, .slice v.qi v.ni v.ci, .slice v.qw v.nw v.cw, .int .i64 v.lo, .int .i64 v.hi, .int .i64 v.op, .slice v.qk v.nk v.ck] 29))); obtain ⟨k0, k1, k2, k3, k4, k5, k6, k7⟩ := of8' (box_nw w2 (.cells #[.int .i64 v.kind, .string v.attr, .slice v.qi v.ni v.ci, .slice v.qw v.nw v.cw, .int .i64 v.lo, .int .i64 v.hi, .int .i64 v.op, .slice v.qk v.nk v.ck] 29)); clear h hv hb; unfold Nv.val)
    | (go_at_call 12; have hsm := sameM_all zeroT zeroT v zNv _ (unhide V2) (zIn _) zOk; rw [unhide HZ] at hsm; unfold Nv.val zNv at hsm; refine hsm.mono ?_; rintro e w5 ⟨rfl, hb⟩; have B5 := hide (below_sub (unhide B2) hb); clear hb hsm)
  go_ret
  exact ⟨rfl, unhide B5⟩
set_option maxRecDepth 100000 in
set_option maxHeartbeats 8000000 in
theorem forms_good (s : ByteArray) (qb : Option Addr) (cb : Nat) (bl : List Int) (w : World) (hG : Lx.G w) (hI : SlOf encI 1 w qb cb bl) (t : Nd) (r : List Tk) (hp : parL s = .ok t r) :
    Calls Tryz.prog 6 #[.string s, .slice qb bl.length cb] w fun e w' => e = .returned (.bool true) ∧ RowKit.Below w.heap.size w w' := by
  have hfx := fixed_any5 w hG
  obtain ⟨hs, ht, hw, hc⟩ := parL_ok hp
  have hwt := parL_wt hp
  have hok : OkN t := OkN.of_wt t hwt
  have htl := text_len t
  have htx := fun W (v : Nv) (h1 : Lx.G W) (h2 : NdIn W v t) => textT_any t v W h1.1 h2 hwt (by omega)
  have hck := fun W (v : Nv) (h2 : NdIn W v t) => checkT_any t v W h2 hwt
  obtain ⟨st, hst⟩ : ∃ st, textB4 t = st := ⟨_, rfl⟩
  rw [hst, hc] at htx
  rw [hc] at hck
  simp only [code, if_true] at htx hck
  have hb1 : st.size ≤ 4096 → parL st = .ok t [] := fun h => by rw [← hst] at h ⊢; exact back_parL hc h
  have hll := (toksL_fit 4096 s.data.toList 0 (by simp; omega) (Nat.le_refl _)).1
  have hin := Lx.toksL_in s.data.toList.length s.data.toList 0 (Nat.le_refl _)
  have hsl : s.data.toList.length = s.size := by simp
  have hmore := fun (o e : ByteArray) (k f g : Nat) (x : Tk) (h : Sp s o k) h1 h2 h3 h4 h5 => h.more (e := e) (f := f) (g := g) (t := x) hs h1 h2 h3 h4 h5
  have hlast := fun (o : ByteArray) (k : Nat) (h : Sp s o k) hk (h9 : (o ++ ⟨#[41]⟩ : ByteArray).size ≤ 4096) => forms_plain hp (h.last hk) h9
  have hsf := Sp.first s
  have hsz := fun (o : ByteArray) (k : Nat) (h : Sp s o k) => h.2
  obtain ⟨l, hL⟩ : ∃ l, (Lx.toksL s.data.toList 0).1 = l := ⟨_, rfl⟩
  rw [hL] at hll hin
  have hlen : l.length ≤ 4096 := by omega
  have htk := fun W (hW : Lx.G W) => Lx.tokens_any s W hW hs
  unfold Nv.val at htx hck
  obtain ⟨SP, hSP⟩ : ∃ SP : ByteArray → Nat → Prop, Sp s = SP := ⟨_, rfl⟩
  rw [hSP] at hsf
  have hmore2 : ∀ (o e : ByteArray) (k f g : Nat) (x : Tk), SP o k → l[k]? = some x → x.2.1 = f → x.2.2.1 = g → (∀ c ∈ e.data.toList, Lx.isBlank (c.toNat : Int) = true) → e.size ≤ 4 → SP (o ++ s.extract f g ++ e ++ ⟨#[32]⟩) (k + 1) := fun o e k f g x h h1 h2 h3 h4 h5 => by
    rw [← hSP] at h ⊢; rw [← hL] at h1; exact hmore o e k f g x h h1 h2 h3 h4 h5
  have hlast2 : ∀ (o : ByteArray) (k : Nat), SP o k → l.length ≤ k → (o ++ ⟨#[41]⟩ : ByteArray).size ≤ 4096 → parL (o ++ ⟨#[41]⟩) = .ok t [] := fun o k h hk h9 => by
    rw [← hSP] at h; rw [← hL] at hk; exact hlast o k h hk h9
  have hsz2 : ∀ (o : ByteArray) (k : Nat), SP o k → o.size ≤ 2 + 10000 * k := fun o k h => by rw [← hSP] at h; exact hsz o k h
  have HG := hide hG
  have HP := hide hp
  have HTX := hide htx
  have HCK := hide hck
  have HB1 := hide hb1
  have HIN := hide hin
  have HMO := hide hmore2
  have HLA := hide hlast2
  have HSZ := hide hsz2
  have HSF := hide hsf
  have HTK := hide htk
  have HT := hide ht
  have HL := hide hL
  have HOK := hide hok
  have HI := hide hI
  have HSAME := hide (sameT_yes (rfl : t = t))
  clear hG hp htx hck hb1 hin hmore hmore2 hlast hlast2 hsz hsz2 hsf htk ht hL hok hI hll hw hc hwt htl hst hSP
  go_enter Tryz.func6, Tryz.ntmps6
  go_upto_region 14 with first
    | (go_at_call 9; refine hfx.mono ?_; rintro e w1 ⟨rfl, hb⟩; have B1 := hide hb; clear hb)
    | (go_at_call 10; refine (parse_any s _ (G_on (unhide HG) (unhide B1))).mono ?_; intro e w2 h; rw [unhide HP] at h; obtain ⟨v, rfl, hv, hb⟩ := h.said; simp only [prP, prC]; have B2 := hide (below_sub (below_sub (unhide B1) hb) (al_bel w2 (.cells #[.int .i64 v.kind, .string v.attr, .slice v.qi v.ni v.ci, .slice v.qw v.nw v.cw, .int .i64 v.lo, .int .i64 v.hi, .int .i64 v.op, .slice v.qk v.nk v.ck] 29))); have V2 := hide (hv.keep (al_bel w2 (.cells #[.int .i64 v.kind, .string v.attr, .slice v.qi v.ni v.ci, .slice v.qw v.nw v.cw, .int .i64 v.lo, .int .i64 v.hi, .int .i64 v.op, .slice v.qk v.nk v.ck] 29))); have X2 := hide (box_nw w2 (.cells #[.int .i64 v.kind, .string v.attr, .slice v.qi v.ni v.ci, .slice v.qw v.nw v.cw, .int .i64 v.lo, .int .i64 v.hi, .int .i64 v.op, .slice v.qk v.nk v.ck] 29)); obtain ⟨k0, k1, k2, k3, k4, k5, k6, k7⟩ := of8' (box_nw w2 (.cells #[.int .i64 v.kind, .string v.attr, .slice v.qi v.ni v.ci, .slice v.qw v.nw v.cw, .int .i64 v.lo, .int .i64 v.hi, .int .i64 v.op, .slice v.qk v.nk v.ck] 29)); clear h hv hb; unfold Nv.val)
    | (go_at_call 21; refine (unhide HTX _ v (G_on (unhide HG) (unhide B2)) (unhide V2)).mono ?_; rintro e w3 ⟨rfl, hb⟩; have B3 := hide (below_sub (unhide B2) hb); have V3 := hide ((unhide V2).keep hb); have X3 := hide (bl_on (unhide X2) hb); obtain ⟨m0, m1, m2, m3, m4, m5, m6, m7⟩ := of8' (unhide X3); clear hb)
    | (go_at_call 22; refine (unhide HCK _ v (unhide V3)).mono ?_; rintro e w4 ⟨rfl, hb⟩; have B4 := hide (below_sub (unhide B3) hb); have V4 := hide ((unhide V3).keep hb); have X4 := hide (bl_on (unhide X3) hb); clear hb)
    | (go_at_call 23; refine (unhide HTK _ (G_on (unhide HG) (unhide B4))).mono ?_; rintro e w5 ⟨he, hb⟩; (obtain ⟨r9, hr, _⟩ | ⟨_, q, cp, rfl, ho⟩ := he); (rw [unhide HT] at hr; cases hr); rw [unhide HL] at ho ⊢; have B5 := hide (below_sub (unhide B4) hb); have V5 := hide ((unhide V4).keep hb); have X5 := hide (bl_on (unhide X4) hb); have HO := hide ho.tks.1; clear hb ho)
  go_loopw [10, 69] (fun y v wr => ∃ (o : ByteArray) (j : Nat), y = .string o ∧ v = .int .i64 j ∧ j ≤ l.length ∧ SP o j ∧ RowKit.Below w5.heap.size w5 wr) (fun _ v _ => l.length - (intOf v).toNat)
  case atStart => exact ⟨⟨#[40, 32]⟩, 0, rfl, rfl, Nat.zero_le _, unhide HSF, RowKit.Below.refl _ _⟩
  case round =>
    obtain ⟨o, j, rfl, rfl, hj, hsp, hbel⟩ := hrel
    have HB := hide hbel
    have HSP := hide hsp
    have hos := unhide HSZ o j hsp
    clear hbel hsp
    by_cases hjl : j < l.length
    · obtain ⟨x, hx, _⟩ := get_at hjl
      obtain ⟨b, off, rfl, hb, hta⟩ := (unhide HO) (by omega)
      obtain ⟨t0, t1, t2, t3, t4⟩ := (hta.below (unhide HB) hb) j x hx
      obtain ⟨f, g, e1, e2, e3, e4, e5⟩ := unhide HIN x (List.mem_of_getElem? hx)
      have j0 : (0 : Int) ≤ (j : Int) := by omega
      have j1 : (j : Int) < (l.length : Int) := by omega
      have f0 : (0 : Int) ≤ (f : Int) := by omega
      have f1 : (f : Int) ≤ (g : Int) := by omega
      have f2 : (g : Int) ≤ (s.size : Int) := by omega
      have hse : (s.extract f g).size ≤ 4096 := by simp; omega
      have hc1 : ¬ 9223372036854775807 < o.size + (s.extract f g).size := by omega
      have hc1' : ¬ 9223372036854775807 < o.size + (min g s.size - f) := by omega
      rw [e1] at t1
      rw [e2] at t2
      have HMX := hide (fun (e : ByteArray) => unhide HMO o e j f g x (unhide HSP) hx e1 e2)
      have BX := hide (below_sub (unhide HB) (al_bel wr (.cells #[.int .i64 x.1, .int .i64 (f : Int), .int .i64 (g : Int), .int .i64 x.2.2.2.1, .string x.2.2.2.2] 56)))
      clear hta hx e1 e2 e3 e4 e5 hse
      by_cases hjb : j < bl.length
      · obtain ⟨y, hy, _⟩ := get_at hjb
        obtain ⟨ib, ioff, rfl, hib, hic⟩ := intsAt (unhide HI) hy
        have i1 : (j : Int) < (bl.length : Int) := by omega
        obtain ⟨n, hn, hbt⟩ := and_3 y
        have icc : wr.cell? ⟨ib, ioff + j, none⟩ = some (.int .i64 y) := (Below.cell ((unhide B5).trans ((unhide HB).mono (unhide B5).size)) (p := ⟨ib, ioff + j, none⟩) hib).trans hic
        have hw1 := wrap_s1 n hn
        have ilt : ib < wr.heap.size := by have := ((unhide B5).trans ((unhide HB).mono (unhide B5).size)).size; omega
        have icc2 : (wr.alloc (.cells #[.int .i64 x.1, .int .i64 (f : Int), .int .i64 (g : Int), .int .i64 x.2.2.2.1, .string x.2.2.2.2] 56)).cell? ⟨ib, ioff + j, none⟩ = some (.int .i64 y) := (Below.cell (al_bel wr _) (p := ⟨ib, ioff + j, none⟩) ilt).trans icc
        have ibl : ¬ ib = wr.heap.size := by have := ((unhide B5).trans ((unhide HB).mono (unhide B5).size)).size; omega
        have ibl2 : ¬ wr.heap.size = ib := fun h => ibl h.symm
        have n0 : (0 : Int) ≤ 1 + (n : Int) := by omega
        have n1 : 1 + (n : Int) ≤ 4 := by omega
        have n2 : (1 + (n : Int)).toNat = 1 + n := by omega
        obtain ⟨x1, x2⟩ := ext_bl n hn
        have HMZ := hide (unhide HMX _ x1 x2)
        have hc2 : ¬ 9223372036854775807 < o.size + (min g s.size - f) + (⟨#[32, 32, 10, 9]⟩ : ByteArray).size := by
          have : (⟨#[32, 32, 10, 9]⟩ : ByteArray).size = 4 := rfl
          omega
        clear hy hic x1 x2 hib hn
        go_wp2
        go_roundw
        case rel => exact ⟨_, j + 1, rfl, by simp, by omega, unhide HMZ, unhide BX⟩
        case measure => simp [intOf]; omega
      · have i1 : ¬ (j : Int) < (bl.length : Int) := by omega
        have HMZ := hide (show SP (o ++ s.extract f g ++ ⟨#[32]⟩) (j + 1) by
          have h9 := unhide HMX ⟨#[]⟩ (fun c hc => by simp at hc) (by decide)
          have e9 : o ++ s.extract f g ++ ⟨#[]⟩ = o ++ s.extract f g := by apply ByteArray.ext; simp
          rw [e9] at h9; exact h9)
        have hc2 : ¬ 9223372036854775807 < o.size + (min g s.size - f) + 1 := by omega
        clear hjb
        go_wp2
        go_roundw
        case rel => exact ⟨_, j + 1, rfl, by simp, by omega, unhide HMZ, unhide BX⟩
        case measure => simp [intOf]; omega
    · have j1 : ¬ (j : Int) < (l.length : Int) := by omega
      have hj9 : l.length ≤ j := by omega
      have hc3 : ¬ 9223372036854775807 < o.size + 1 := by omega
      have HLX := hide (unhide HLA o j (unhide HSP) hj9)
      clear hjl hj9 hj hos HMO HLA HSZ HSF HTK HIN HO HSP
      go_upto_region 23 with (fail)
      obtain ⟨sp, hsp⟩ : ∃ sp : ByteArray, o ++ ⟨#[41]⟩ = sp := ⟨_, rfl⟩
      have HLY := unhide HLX
      rw [hsp] at HLY ⊢
      have HL2 := hide HLY
      have BA := hide (below_sub (unhide HB) (al_bel wr (.cells #[.string st, .string sp] 9)))
      have a0 : (wr.alloc (.cells #[.string st, .string sp] 9)).cell? ⟨wr.heap.size, 0, none⟩ = some (.string st) := (of2 (box_nw wr (.cells #[.string st, .string sp] 9))).1
      have a1 : (wr.alloc (.cells #[.string st, .string sp] 9)).cell? ⟨wr.heap.size, 1, none⟩ = some (.string sp) := (of2 (box_nw wr (.cells #[.string st, .string sp] 9))).2.1
      have A0 := hide a0
      have A1 := hide a1
      have AL := hide (show wr.heap.size < (wr.alloc (.cells #[.string st, .string sp] 9)).heap.size by simp)
      obtain ⟨Wa, EWa⟩ : ∃ W, wr.alloc (.cells #[.string st, .string sp] 9) = W := ⟨_, rfl⟩
      obtain ⟨Ma, EMa⟩ : ∃ M, wr.heap.size = M := ⟨_, rfl⟩
      rw [EWa] at BA A0 A1 AL ⊢
      rw [EMa] at A0 A1 AL ⊢
      clear a0 a1 HLX HLY hsp EWa EMa HB
      go_loopw [104] (fun v w9 => ∃ i : Nat, v = .int .i64 i ∧ i ≤ 2 ∧ RowKit.Below Wa.heap.size Wa w9) (fun v _ => 2 - (intOf v).toNat)
      case atStart => exact ⟨0, rfl, by omega, RowKit.Below.refl _ _⟩
      case round =>
        obtain ⟨i, rfl, hi, hbel⟩ := hrel
        have c0 : wr.cell? ⟨Ma, 0, none⟩ = some (.string st) := (Below.cell hbel (p := ⟨Ma, 0, none⟩) (unhide AL)).trans (unhide A0)
        have c1 : wr.cell? ⟨Ma, 1, none⟩ = some (.string sp) := (Below.cell hbel (p := ⟨Ma, 1, none⟩) (unhide AL)).trans (unhide A1)
        have HBR := hide hbel
        have BW5 := hide (below_sub (unhide BA) hbel)
        have BW := hide (below_sub (unhide B5) (below_sub (unhide BA) hbel))
        have hi3 : i = 0 ∨ i = 1 ∨ i = 2 := by omega
        clear hbel hi
        rcases hi3 with rfl | rfl | rfl
        · have hx0 := unhide HB1
          by_cases hz : st.size ≤ 4096
          · have HXP := hide (hx0 hz)
            have z1 : (st.size : Int) ≤ 4096 := by omega
            clear hx0 hz
            go_wp2_with first
              | (go_at_call 10; refine (parse_any st _ (G_on (unhide HG) (unhide BW))).mono ?_; intro e w2' h; rw [unhide HXP] at h; obtain ⟨u, rfl, hu, hb⟩ := h.said; simp only [prP, prC]; have hb4 := below_sub hb (al_bel w2' (.cells #[.int .i64 u.kind, .string u.attr, .slice u.qi u.ni u.ci, .slice u.qw u.nw u.cw, .int .i64 u.lo, .int .i64 u.hi, .int .i64 u.op, .slice u.qk u.nk u.ck] 29)); have bw2 := below_sub (unhide BW5) hb4; have I4 := hide ((unhide V5).keep bw2); have U4 := hide (hu.keep (al_bel w2' (.cells #[.int .i64 u.kind, .string u.attr, .slice u.qi u.ni u.ci, .slice u.qw u.nw u.cw, .int .i64 u.lo, .int .i64 u.hi, .int .i64 u.op, .slice u.qk u.nk u.ck] 29))); have B6 := hide (below_sub (unhide HBR) hb4); obtain ⟨n0, n1, n2, n3, n4, n5, n6, n7⟩ := of8' (bl_on (unhide X5) bw2); obtain ⟨j0, j1, j2, j3, j4, j5, j6, j7⟩ := of8' (box_nw w2' (.cells #[.int .i64 u.kind, .string u.attr, .slice u.qi u.ni u.ci, .slice u.qw u.nw u.cw, .int .i64 u.lo, .int .i64 u.hi, .int .i64 u.op, .slice u.qk u.nk u.ck] 29)); clear h hu hb hb4 bw2; unfold Nv.val)
              | (go_at_call 12; have hsm := sameM_all t t u v _ (unhide U4) (unhide I4) (unhide HOK); rw [unhide HSAME] at hsm; unfold Nv.val at hsm; refine hsm.mono ?_; rintro e w6 ⟨rfl, hb⟩; have B7 := hide (below_sub (unhide B6) hb); clear hb hsm)
            go_roundw
            case rel => exact ⟨1, by simp, by omega, unhide B7⟩
            case measure => simp [intOf]
          · have z1 : ¬ (st.size : Int) ≤ 4096 := by omega
            clear hx0 hz
            obtain ⟨pp, hpp⟩ : ∃ p, prP (parL st) = p := ⟨_, rfl⟩
            obtain ⟨pc, hpc⟩ : ∃ c, prC (parL st) = c := ⟨_, rfl⟩
            have HPP := hide hpp
            have HPC := hide hpc
            clear hpp hpc
            go_wp2_with (go_at_call 10; refine (parse_any st _ (G_on (unhide HG) (unhide BW))).mono ?_; intro e w2' h; obtain ⟨u, rfl, hu, hb⟩ := h.said; rw [unhide HPP, unhide HPC]; have hb4 := below_sub hb (al_bel w2' (.cells #[.int .i64 u.kind, .string u.attr, .slice u.qi u.ni u.ci, .slice u.qw u.nw u.cw, .int .i64 u.lo, .int .i64 u.hi, .int .i64 u.op, .slice u.qk u.nk u.ck] 29)); have B6 := hide (below_sub (unhide HBR) hb4); clear h hu hb hb4; unfold Nv.val)
            go_roundw
            case rel => exact ⟨1, by simp, by omega, unhide B6⟩
            case measure => simp [intOf]
        · have hx1 := unhide HL2
          by_cases hz : sp.size ≤ 4096
          · have HXP := hide (hx1 hz)
            have z1 : (sp.size : Int) ≤ 4096 := by omega
            clear hx1 hz
            go_wp2_with first
              | (go_at_call 10; refine (parse_any sp _ (G_on (unhide HG) (unhide BW))).mono ?_; intro e w2' h; rw [unhide HXP] at h; obtain ⟨u, rfl, hu, hb⟩ := h.said; simp only [prP, prC]; have hb4 := below_sub hb (al_bel w2' (.cells #[.int .i64 u.kind, .string u.attr, .slice u.qi u.ni u.ci, .slice u.qw u.nw u.cw, .int .i64 u.lo, .int .i64 u.hi, .int .i64 u.op, .slice u.qk u.nk u.ck] 29)); have bw2 := below_sub (unhide BW5) hb4; have I4 := hide ((unhide V5).keep bw2); have U4 := hide (hu.keep (al_bel w2' (.cells #[.int .i64 u.kind, .string u.attr, .slice u.qi u.ni u.ci, .slice u.qw u.nw u.cw, .int .i64 u.lo, .int .i64 u.hi, .int .i64 u.op, .slice u.qk u.nk u.ck] 29))); have B6 := hide (below_sub (unhide HBR) hb4); obtain ⟨n0, n1, n2, n3, n4, n5, n6, n7⟩ := of8' (bl_on (unhide X5) bw2); obtain ⟨j0, j1, j2, j3, j4, j5, j6, j7⟩ := of8' (box_nw w2' (.cells #[.int .i64 u.kind, .string u.attr, .slice u.qi u.ni u.ci, .slice u.qw u.nw u.cw, .int .i64 u.lo, .int .i64 u.hi, .int .i64 u.op, .slice u.qk u.nk u.ck] 29)); clear h hu hb hb4 bw2; unfold Nv.val)
              | (go_at_call 12; have hsm := sameM_all t t u v _ (unhide U4) (unhide I4) (unhide HOK); rw [unhide HSAME] at hsm; unfold Nv.val at hsm; refine hsm.mono ?_; rintro e w6 ⟨rfl, hb⟩; have B7 := hide (below_sub (unhide B6) hb); clear hb hsm)
            go_roundw
            case rel => exact ⟨2, by simp, by omega, unhide B7⟩
            case measure => simp [intOf]
          · have z1 : ¬ (sp.size : Int) ≤ 4096 := by omega
            clear hx1 hz
            obtain ⟨pp, hpp⟩ : ∃ p, prP (parL sp) = p := ⟨_, rfl⟩
            obtain ⟨pc, hpc⟩ : ∃ c, prC (parL sp) = c := ⟨_, rfl⟩
            have HPP := hide hpp
            have HPC := hide hpc
            clear hpp hpc
            go_wp2_with (go_at_call 10; refine (parse_any sp _ (G_on (unhide HG) (unhide BW))).mono ?_; intro e w2' h; obtain ⟨u, rfl, hu, hb⟩ := h.said; rw [unhide HPP, unhide HPC]; have hb4 := below_sub hb (al_bel w2' (.cells #[.int .i64 u.kind, .string u.attr, .slice u.qi u.ni u.ci, .slice u.qw u.nw u.cw, .int .i64 u.lo, .int .i64 u.hi, .int .i64 u.op, .slice u.qk u.nk u.ck] 29)); have B6 := hide (below_sub (unhide HBR) hb4); clear h hu hb hb4; unfold Nv.val)
            go_roundw
            case rel => exact ⟨2, by simp, by omega, unhide B6⟩
            case measure => simp [intOf]
        · go_wp2
          go_ret
          exact ⟨rfl, unhide BW⟩
theorem parseForms_any (s : ByteArray) (qb : Option Addr) (cb : Nat) (bl : List Int) (w : World) (hG : Lx.G w) (hI : SlOf encI 1 w qb cb bl) :
    Calls Tryz.prog 6 #[.string s, .slice qb bl.length cb] w fun e w' => e = .returned (.bool true) ∧ RowKit.Below w.heap.size w w' := by
  cases hp : parL s with
  | bad p => exact forms_bad s qb bl.length cb w hG p hp
  | ok t r => exact forms_good s qb cb bl w hG hI t r hp
end Go.Proofs.YtencibjmiphinaaGreatDoor

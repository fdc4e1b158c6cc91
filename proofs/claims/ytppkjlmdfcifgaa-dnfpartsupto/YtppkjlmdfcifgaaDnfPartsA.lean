/- The law DnfParts returns true, whatever trees of bounded weight it is given. -/
import Derived.Test.YtppkjlmdfcifgaaDnfFixed
import Derived.Test.YtppkjlmdfcifgaaDnfBackPlain
import Derived.Test.YtppkjlmdfcifgaaDnfSame
namespace Go.Proofs.Ytppkjlmdfcifgaa
open Go.RowKit Go.Sort

theorem exp_none {t : Nd} {m : Int} (h : expE t m ≠ 0) : expC t m = [] := by unfold expC; rw [if_neg h]
theorem exp_yes {t : Nd} {m : Int} (h : expE t m = 0) : chkN t = true ∧ 1 ≤ m ∧ m ≤ 64 ∧ ((cjN (downN t false)).length : Int) ≤ m ∧ 1 ≤ (cjN (downN t false)).length ∧ expC t m = cjN (downN t false) := by
  unfold expE at h
  by_cases e0 : WidthE t m = 0
  · rw [if_pos e0] at h
    by_cases e1 : WidthA t m > m
    · rw [if_pos e1] at h; cases h
    · obtain ⟨a1, a2, a3, a4, a5, a6, a7⟩ := exp_ok e0 e1
      have hd := chk_down t false a1
      have h1 := (wid_min (m := 64) (by omega) (by omega) _ hd).2
      have h2 := (cj_all [] _ hd (at_down t false a1)).1
      exact ⟨a1, a2, a3, by omega, by omega, a7⟩
  · rw [if_neg e0] at h; exact absurd h e0
theorem exp_of {T : Nd} (hc : chkN T = true) : ((cjN (downN T false)).length ≤ 64 → expE T 64 = 0 ∧ expC T 64 = cjN (downN T false)) ∧ (¬ (cjN (downN T false)).length ≤ 64 → expE T 64 = 13) := by
  have hd := chk_down T false hc
  have hw := (wid_min (m := 64) (by omega) (by omega) _ hd).1
  have hcj := (cj_all [] _ hd (at_down T false hc)).1
  have hE : WidthE T 64 = 0 := by simp [WidthE, hc]
  have hA : WidthA T 64 = widN 64 (downN T false) := by simp [WidthA, hc]
  refine ⟨fun hl => ?_, fun hl => ?_⟩
  · have e : expE T 64 = 0 := by unfold expE; rw [if_pos hE, if_neg (by rw [hA, hw]; omega)]
    exact ⟨e, by unfold expC; rw [if_pos e]⟩
  · unfold expE; rw [if_pos hE, if_pos (by rw [hA, hw]; omega)]
theorem cross_nil (y : List (List Lt)) : crossL y [[]] = y := by
  unfold crossL
  simp
theorem cj_pair (a b : Nd) : cjN (downN (joinT 4 [a, b]) false) = cjN (downN a false) ++ cjN (downN b false) ∧ cjN (downN (joinT 3 [a, b]) false) = crossL (cjN (downN a false)) (cjN (downN b false)) := by
  rw [joinT_many 4 (by simp), joinT_many 3 (by simp), down_34 (Or.inr rfl), down_34 (Or.inl rfl)]
  simp [cjN, cjSum, cjProd, downL, cross_nil]
theorem chk_pair {a b : Nd} (ca : chkN a = true) (cb : chkN b = true) : chkN (joinT 4 [a, b]) = true ∧ chkN (joinT 3 [a, b]) = true := by
  rw [chk_joinB (Or.inr rfl) (by simp), chk_joinB (Or.inl rfl) (by simp)]
  simp [chkL, ca, cb]
theorem pair_wt (op : Int) (a b : Nd) : wtN (joinT op [a, b]) ≤ wtN a + wtN b + 1 := by
  have := wt_join8 op [a, b]
  simp only [wtL] at this
  omega
theorem LitsOf.take {w : World} {q : Option Addr} {c : Nat} {l m : List Lt} (h : LitsOf w q c (l ++ m)) : LitsOf w q c l := by
  obtain ⟨us, h1, h2, h3⟩ := h
  rw [List.length_append] at h2
  have e : us = us.take l.length ++ us.drop l.length := (List.take_append_drop _ _).symm
  have hl : (us.take l.length).length = l.length := by rw [List.length_take]; omega
  refine ⟨us.take l.length, ⟨fun hq => ?_, by have := h1.2.1; omega, h1.2.2.1, ?_⟩, hl, fun j u x hj hx => ?_⟩
  · have := h1.1 hq; omega
  · have := h1.2.2.2
    rw [e] at this
    exact this.take (by decide)
  · have hjl : j < l.length := (List.getElem?_eq_some_iff.1 hx).1
    rw [List.getElem?_take_of_lt hjl] at hj
    exact h3 j u x hj (by rw [List.getElem?_append_left hjl]; exact hx)
theorem LitsOf.drop {w : World} {b off c : Nat} {l m : List Lt} (h : LitsOf w (some ⟨b, off, none⟩) c (l ++ m)) : LitsOf w (some ⟨b, off + l.length * 7, none⟩) (c - l.length) m := by
  obtain ⟨us, h1, h2, h3⟩ := h
  rw [List.length_append] at h2
  have e : us = us.take l.length ++ us.drop l.length := (List.take_append_drop _ _).symm
  have hl : (us.take l.length).length = l.length := by rw [List.length_take]; omega
  have hd : (us.drop l.length).length = m.length := by rw [List.length_drop]; omega
  have hc := h1.2.1
  have hm := h1.2.2.1
  refine ⟨us.drop l.length, ⟨fun hq => (by cases hq), by omega, by omega, fun h0 => ?_⟩, hd, fun j u x hj hx => ?_⟩
  · obtain ⟨b', off', hq, hlt, hcc⟩ := h1.2.2.2 (by omega)
    cases hq
    refine ⟨b, off + l.length * 7, rfl, hlt, fun j u hj => ?_⟩
    have := hcc (l.length * 7 + j) u (by
      rw [e, flat_app encL 7 (by decide), List.getElem?_append_right (by simp [flatK, hl]), show (flatK encL 7 (us.take l.length).toArray).toList.length = l.length * 7 by simp [flatK, hl], Nat.add_sub_cancel_left]
      exact hj)
    rw [Nat.add_assoc]
    exact this
  · rw [List.getElem?_drop] at hj
    exact h3 (l.length + j) u x hj (by rw [List.getElem?_append_right (by omega), Nat.add_sub_cancel_left]; exact hx)
theorem rowQ : RowOf encQ 64 69 1 24 where
  und := Try.underlying64
  info := by
    obtain ⟨i0, hi, hz0, hz1, hz2⟩ := info_parts Try.info69
    exact ⟨i0, _, hi, hz0, hz1, hz2, rfl⟩
  pos := by decide
  one := one_flat (fun x c hc => by
    obtain rfl : c = 0 := by omega
    rfl) (by decide)
theorem wpList_appW {α : Type} [Inhabited α] {enc : α → List Value} {t e : TypeId} {k bytes : Nat} (R : RowOf enc t e k bytes) {ops : Array Oper} {rest : List Oper} {o : Oper} {a : Act} {w : World} {Q : Exit → Act → World → Prop} (hw : Region.wanted o (yielded ops a.tmps) = true) (s x : Operand)
    (ho : o.op = .call { callee := .builtin .append, args := #[s, x], argTypes := #[t, t] }) (B : Nat) (q : Option Addr) (cap : Nat) (l : List α) (p : Option Addr) (c : Nat) (m : List α) (n n' N : Nat) (hn : l.length = n) (hn' : m.length = n') (hN : n + n' = N)
    (es : a.eval s = .slice q n cap) (ex : a.eval x = .slice p n' c) (hown : OwnK enc e k B w q cap l) (hs : SrcK enc k w p c m) (hm : N ≤ maxLen) (hb : N * bytes ≤ 140737488355328) (hB : B ≤ w.heap.size)
    (h : ∀ q' cap' w', OwnK enc e k B w' q' cap' (l ++ m) → Below B w w' → wpList Try.prog ops Q rest (a.put o.dst (.slice q' N cap')) w') : wpList Try.prog ops Q (o :: rest) a w :=
  wpList_step fun K hK => by
    rw [if_pos hw]
    exact wp_app R s x ho B q cap l p c m n n' N hn hn' hN es ex hown hs hm hb hB fun q' cap' w' h2 h3 _ _ => hK _ _ (h q' cap' w' h2 h3)
theorem nds_twoP {w : World} {M : Nat} {v1 v2 : Nv} {x1 x2 : Nd} (h : w.heap[M]? = some (.cells #[.int .i64 v1.kind, .string v1.attr, .slice v1.qi v1.ni v1.ci, .slice v1.qw v1.nw v1.cw, .int .i64 v1.lo, .int .i64 v1.hi, .int .i64 v1.op, .slice v1.qk v1.nk v1.ck, .int .i64 v2.kind, .string v2.attr, .slice v2.qi v2.ni v2.ci, .slice v2.qw v2.nw v2.cw, .int .i64 v2.lo, .int .i64 v2.hi, .int .i64 v2.op, .slice v2.qk v2.nk v2.ck] 31 (0, 0))) (h1 : NdIn w v1 x1) (h2 : NdIn w v2 x2) : NdsOf w (some ⟨M, 0, none⟩) 2 [x1, x2] := nds_two h h1 h2
theorem cj_ne : ∀ t : Nd, chkN t = true → atN t = true → ∀ c ∈ cjN t, 1 ≤ c.length := by
  intro t
  induction t using Nd.ind with
  | h kind attr ints words lo hi op kids ih =>
    intro hch hat c hc
    simp only [chkN, Bool.and_eq_true] at hch
    obtain ⟨hn, hck⟩ := hch
    simp only [cjN] at hc
    split at hc
    · rename_i o4
      subst o4
      have hA : ∀ x ∈ kids, atN x = true := atL_all (by simpa [atN] using hat)
      have : ∀ ks : List Nd, (∀ x ∈ ks, ∀ c ∈ cjN x, 1 ≤ c.length) → ∀ c ∈ cjSum ks, 1 ≤ c.length := by
        intro ks
        induction ks with
        | nil => intro _ c hc; simp [cjSum] at hc
        | cons x ks ihk =>
          intro hx c hc
          simp only [cjSum, List.mem_append] at hc
          rcases hc with hc | hc
          · exact hx x (by simp) c hc
          · exact ihk (fun y hy => hx y (by simp [hy])) c hc
      exact this kids (fun x hx => ih x hx (chkL_mem hck hx) (hA x hx)) c hc
    · split at hc
      · rename_i o3
        subst o3
        have hA : ∀ x ∈ kids, atN x = true := atL_all (by simpa [atN] using hat)
        cases kids with
        | nil => simp [nodeB] at hn
        | cons x ks =>
          simp only [cjProd, crossL, List.mem_flatMap, List.mem_map] at hc
          obtain ⟨c1, h1, c2, h2, rfl⟩ := hc
          have := ih x (by simp) (chkL_mem hck (by simp)) (hA x (by simp)) c1 h1
          rw [List.length_append]
          omega
      · split at hc
        · cases kids with
          | nil => simp [negLit] at hc
          | cons x ks =>
            obtain ⟨k2, a2, i2, w2, l2, h2, o2, ks2⟩ := x
            simp only [negLit, List.mem_singleton] at hc
            subst hc
            simp
        · simp only [List.mem_singleton] at hc
          subst hc
          simp
/-- Two lists of conjunctions, one behind the other. -/
theorem cjs_app {w : World} {q : Option Addr} {c B : Nat} {x y : List (List Lt)} {us vs : List (Option Addr × Nat × Nat)} (ho : OwnK encQ 69 1 B w q c (us ++ vs)) (hu : us.length = x.length) (hv : vs.length = y.length) (h1 : ∀ (j : Nat) u ls, us[j]? = some u → x[j]? = some ls → u.2.1 = ls.length ∧ LitsOf w u.1 u.2.2 ls) (h2 : ∀ (j : Nat) u ls, vs[j]? = some u → y[j]? = some ls → u.2.1 = ls.length ∧ LitsOf w u.1 u.2.2 ls) : CjsOf w q c (x ++ y) :=
  ⟨us ++ vs, ho.ls, by simp [hu, hv], fun j u ls hj hl => by
    by_cases hjk : j < us.length
    · rw [List.getElem?_append_left hjk] at hj
      rw [List.getElem?_append_left (by omega)] at hl
      exact h1 j u ls hj hl
    · rw [List.getElem?_append_right (by omega)] at hj
      rw [List.getElem?_append_right (by omega), ← hu] at hl
      exact h2 _ u ls hj hl⟩
set_option maxRecDepth 100000 in
set_option maxHeartbeats 4000000 in
theorem parts_none (a b : Nd) (va vb : Nv) (w : World) (ha : NdIn w va a) (hb : NdIn w vb b) (wa : wtN a ≤ 100000000) (wb : wtN b ≤ 100000000) (hne : expE a 64 ≠ 0 ∨ expE b 64 ≠ 0) :
    Calls Try.prog 17 #[va.val, vb.val] w fun e w' => e = .returned (.bool true) ∧ Below w.heap.size w w' := by
  obtain ⟨X, HX⟩ : ∃ X, (w.alloc (.cells #[.int .i64 va.kind, .string va.attr, .slice va.qi va.ni va.ci, .slice va.qw va.nw va.cw, .int .i64 va.lo, .int .i64 va.hi, .int .i64 va.op, .slice va.qk va.nk va.ck] 31)).alloc (.cells #[.int .i64 vb.kind, .string vb.attr, .slice vb.qi vb.ni vb.ci, .slice vb.qw vb.nw vb.cw, .int .i64 vb.lo, .int .i64 vb.hi, .int .i64 vb.op, .slice vb.qk vb.nk vb.ck] 31) = X := ⟨_, rfl⟩
  obtain ⟨xa, xb, bX, sX⟩ := twoM HX
  obtain ⟨a0, a1, a2, a3, a4, a5, a6, a7⟩ := of8' xa
  obtain ⟨b0, b1, b2, b3, b4, b5, b6, b7⟩ := of8' xb
  have la := heap_lt xa
  have lb := heap_lt xb
  have XA := hide xa
  have XB := hide xb
  have BX := hide bX
  have HA := hide (ha.keep bX)
  have HB := hide (hb.keep bX)
  have hfx := fixed8_any X
  have hEa := fun (W : World) (hW : Below X.heap.size X W) => expand_any a 64 va W ((unhide HA).keep hW) (by omega)
  have hEb := fun (W : World) (hW : Below X.heap.size X W) => expand_any b 64 vb W ((unhide HB).keep hW) (by omega)
  simp only [Nv.val] at hEa hEb ⊢
  clear ha hb bX xa xb
  by_cases e0 : expE a 64 = 0
  · have e1 : expE b 64 ≠ 0 := by omega
    have hn := exp_none e1
    rw [e0] at hEa
    rw [hn] at hEb
    obtain ⟨E, hE⟩ : ∃ E, expE b 64 = E := ⟨_, rfl⟩
    rw [hE] at hEb e1
    have e2 : (E != 0) = true := by simp [e1]
    simp only [List.length_nil] at hEb
    have hlen : (expC a 64).length ≤ 64 := by obtain ⟨_, _, _, h4, _, h6⟩ := exp_yes e0; rw [h6]; omega
    obtain ⟨n, hnn⟩ : ∃ n, (expC a 64).length = n := ⟨_, rfl⟩
    rw [hnn] at hEa hlen
    clear hE hn e0 hnn hne
    cases hz : ((n : Int) == 0)
    all_goals
      go_enter Try.func17, Try.ntmps17
      go_wp2_with (first
        | (go_at_call 55; refine hfx.mono ?_; rintro e w1 ⟨rfl, b1'⟩; have B1 := hide b1'; (obtain ⟨d0, d1, d2, d3, d4, d5, d6, d7⟩ := of8' (((unhide B1).block _ la).trans (unhide XA))); (obtain ⟨f0, f1, f2, f3, f4, f5, f6, f7⟩ := of8' (((unhide B1).block _ lb).trans (unhide XB))); clear b1')
        | (go_at_call 56; have tst := unhide B2; clear tst; refine (hEb _ (unhide B2)).mono ?_; rintro e w3 ⟨⟨q3, c3, rfl, _⟩, b3'⟩; simp only; have B3 := hide (below_sub (unhide B2) b3'); clear b3')
        | (go_at_call 56; refine (hEa _ (unhide B1)).mono ?_; rintro e w2 ⟨⟨q2, c2, rfl, _⟩, b2'⟩; simp only; have B2 := hide (below_sub (unhide B1) b2'); (obtain ⟨g0, g1, g2, g3, g4, g5, g6, g7⟩ := of8' (((unhide B2).block _ lb).trans (unhide XB))); clear b2'))
      go_ret
      exact ⟨ret_bool (by simp), below_sub (unhide BX) (unhide B3)⟩
  · have hn := exp_none e0
    rw [hn] at hEa
    obtain ⟨E, hE⟩ : ∃ E, expE a 64 = E := ⟨_, rfl⟩
    obtain ⟨F, hF⟩ : ∃ F, expE b 64 = F := ⟨_, rfl⟩
    obtain ⟨n, hnn⟩ : ∃ n, (expC b 64).length = n := ⟨_, rfl⟩
    rw [hE] at hEa e0
    rw [hF, hnn] at hEb
    have e2 : (E != 0) = true := by simp [e0]
    simp only [List.length_nil] at hEa
    clear hE hn hF hnn hne
    go_enter Try.func17, Try.ntmps17
    go_wp2_with (first
      | (go_at_call 55; refine hfx.mono ?_; rintro e w1 ⟨rfl, b1'⟩; have B1 := hide b1'; (obtain ⟨d0, d1, d2, d3, d4, d5, d6, d7⟩ := of8' (((unhide B1).block _ la).trans (unhide XA))); (obtain ⟨f0, f1, f2, f3, f4, f5, f6, f7⟩ := of8' (((unhide B1).block _ lb).trans (unhide XB))); clear b1')
      | (go_at_call 56; have tst := unhide B2; clear tst; refine (hEb _ (unhide B2)).mono ?_; rintro e w3 ⟨⟨q3, c3, rfl, _⟩, b3'⟩; simp only; have B3 := hide (below_sub (unhide B2) b3'); clear b3')
      | (go_at_call 56; refine (hEa _ (unhide B1)).mono ?_; rintro e w2 ⟨⟨q2, c2, rfl, _⟩, b2'⟩; simp only; have B2 := hide (below_sub (unhide B1) b2'); (obtain ⟨g0, g1, g2, g3, g4, g5, g6, g7⟩ := of8' (((unhide B2).block _ lb).trans (unhide XB))); clear b2'))
    go_ret
    exact ⟨ret_bool (by simp), below_sub (unhide BX) (unhide B3)⟩
end Go.Proofs.Ytppkjlmdfcifgaa

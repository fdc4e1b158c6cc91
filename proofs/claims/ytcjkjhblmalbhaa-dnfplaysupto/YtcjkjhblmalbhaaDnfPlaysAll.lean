/- The law DnfPlays returns true, at every list of conjunctions and every event of bounded size. -/
import Derived.Test.YtcjkjhblmalbhaaDnfHolds
import Derived.Test.YtcjkjhblmalbhaaKept
import Derived.Shelf.Abstract
import Derived.Lib.QuietBelow
import Derived.Test.YtcjkjhblmalbhaaDnfFixed
import Derived.Test.YtcjkjhblmalbhaaDnfBackPlain
import Derived.Test.YtcjkjhblmalbhaaDnfExpand
import Derived.Test.YtcjkjhblmalbhaaMemNode
import Derived.Test.YtcjkjhblmalbhaaEvGet
import Derived.Maps.AppendAt
import Derived.Test.YtcjkjhblmalbhaaDnfRefAll
import Derived.Test.YtcjkjhblmalbhaaSameNode
namespace Go.Proofs.Ytcjkjhblmalbhaa
open Go.RowKit Go.Sort

theorem LitsOf.at7 {w : World} {q : Option Addr} {c : Nat} {ls : List Lt} {j : Nat} {l : Lt} (h : LitsOf w q c ls) (hj : ls[j]? = some l) :
    ∃ b off u, q = some ⟨b, off, none⟩ ∧ b < w.heap.size ∧ SlOf encI 1 w (Lv.qi u) u.ci l.ints ∧ SlOf encS 1 w u.qw u.cw l.words ∧ w.cell? ⟨b, off + j * 7, none⟩ = some (.int .i64 l.kind) ∧ w.cell? ⟨b, off + j * 7 + 1, none⟩ = some (.string l.attr) ∧ w.cell? ⟨b, off + j * 7 + 2, none⟩ = some (.slice u.qi l.ints.length u.ci) ∧ w.cell? ⟨b, off + j * 7 + 3, none⟩ = some (.slice u.qw l.words.length u.cw) ∧ w.cell? ⟨b, off + j * 7 + 4, none⟩ = some (.int .i64 l.lo) ∧ w.cell? ⟨b, off + j * 7 + 5, none⟩ = some (.int .i64 l.hi) ∧ w.cell? ⟨b, off + j * 7 + 6, none⟩ = some (.bool l.neg) := by
  obtain ⟨b, off, u, hq, hb, ⟨h1, h2, h3, h4, h5, h6, h7, h8, h9⟩, g0, g1, g2, g3, g4, g5, g6⟩ := h.at hj
  rw [h1] at g0
  rw [h2] at g1
  rw [h3] at g2
  rw [h4] at g3
  rw [h5] at g4
  rw [h6] at g5
  rw [h7] at g6
  exact ⟨b, off, u, hq, hb, h8, h9, g0, g1, g2, g3, g4, g5, g6⟩
set_option maxRecDepth 100000 in
set_option maxHeartbeats 4000000 in
theorem sameLits_eq (q : Option Addr) (c : Nat) (q' : Option Addr) (c' : Nat) (ls : List Lt) (w : World) (h1 : LitsOf w q c ls) (h2 : LitsOf w q' c' ls) (hb : litBound ls) (ln : ls.length ≤ 1000000000) :
    Calls Try.prog 29 #[.slice q ls.length c, .slice q' ls.length c'] w fun e w' => e = .returned (.bool true) ∧ Below w.heap.size w w' := by
  have mixed : Try.prog.follows .mixedOrders = true := by kernel_rfl
  have en68 : ∀ args w, (callFunc 28 args).run Try.prog w = .ok (.enter 28 args) w := enters_of Try.func28 (by kernel_rfl) rfl
  have H1 := hide h1
  have H2 := hide h2
  have HBD := hide hb
  have hnn : ((ls.length : Int) != (ls.length : Int)) = false := by simp
  have a0 : (ls.length : Int) ≤ 1000000000 := by omega
  clear h1 h2 hb
  go_enter Try.func29, Try.ntmps29
  go_wp2
  go_loopw [13] (fun i wr => ∃ k : Nat, k ≤ ls.length ∧ i = .int .i64 k ∧ Below w.heap.size w wr) (fun i _ => ls.length - (intOf i).toNat)
  case atStart => exact ⟨0, by omega, rfl, Below.refl _ _⟩
  case round =>
    obtain ⟨k, hk, rfl, hbel⟩ := hrel
    have HB := hide hbel
    by_cases hlt : k < ls.length
    · obtain ⟨l, hx, hd⟩ := get_at hlt
      clear hd
      obtain ⟨b, off, u, hq, hbb, s1, t1, g0, g1, g2, g3, g4, g5, g6⟩ := ((unhide H1).below hbel).at7 hx
      obtain ⟨b', off', u', hq', hbb', s2, t2, f0, f1, f2, f3, f4, f5, f6⟩ := ((unhide H2).below hbel).at7 hx
      subst hq hq'
      obtain ⟨m1, m2⟩ := unhide HBD l (List.mem_of_getElem? hx)
      have ki0 : (0 : Int) ≤ (k : Int) := by omega
      have ki1 : (k : Int) < (ls.length : Int) := by omega
      have hn2 : (l.neg != l.neg) = false := by simp
      have q68 := fun (n : Nat) (os : Array Obj) => samePred_eq l.kind l.attr l.ints l.words l.lo l.hi u.qi u.ci u.qw u.cw u'.qi u'.ci u'.qw u'.cw (grow (redrawn wr n) os) (s1.below (below_regrown wr n os)) (s2.below (below_regrown wr n os)) (t1.below (below_regrown wr n os)) (t2.below (below_regrown wr n os)) (by omega) (by omega)
      have G0 : ∀ n os, (grow (redrawn wr n) os).cell? ⟨b, off + k * 7, none⟩ = some _ := cell_regrown g0
      have F0 : ∀ n os, (grow (redrawn wr n) os).cell? ⟨b', off' + k * 7, none⟩ = some _ := cell_regrown f0
      have G1 : ∀ n os, (grow (redrawn wr n) os).cell? ⟨b, off + k * 7 + 1, none⟩ = some _ := cell_regrown g1
      have F1 : ∀ n os, (grow (redrawn wr n) os).cell? ⟨b', off' + k * 7 + 1, none⟩ = some _ := cell_regrown f1
      have G2 : ∀ n os, (grow (redrawn wr n) os).cell? ⟨b, off + k * 7 + 2, none⟩ = some _ := cell_regrown g2
      have F2 : ∀ n os, (grow (redrawn wr n) os).cell? ⟨b', off' + k * 7 + 2, none⟩ = some _ := cell_regrown f2
      have G3 : ∀ n os, (grow (redrawn wr n) os).cell? ⟨b, off + k * 7 + 3, none⟩ = some _ := cell_regrown g3
      have F3 : ∀ n os, (grow (redrawn wr n) os).cell? ⟨b', off' + k * 7 + 3, none⟩ = some _ := cell_regrown f3
      have G4 : ∀ n os, (grow (redrawn wr n) os).cell? ⟨b, off + k * 7 + 4, none⟩ = some _ := cell_regrown g4
      have F4 : ∀ n os, (grow (redrawn wr n) os).cell? ⟨b', off' + k * 7 + 4, none⟩ = some _ := cell_regrown f4
      have G5 : ∀ n os, (grow (redrawn wr n) os).cell? ⟨b, off + k * 7 + 5, none⟩ = some _ := cell_regrown g5
      have F5 : ∀ n os, (grow (redrawn wr n) os).cell? ⟨b', off' + k * 7 + 5, none⟩ = some _ := cell_regrown f5
      have G6 : ∀ n os, (grow (redrawn wr n) os).cell? ⟨b, off + k * 7 + 6, none⟩ = some _ := cell_regrown g6
      have F6 : ∀ n os, (grow (redrawn wr n) os).cell? ⟨b', off' + k * 7 + 6, none⟩ = some _ := cell_regrown f6
      clear s1 s2 t1 t2 g0 g1 g2 g3 g4 g5 g6 f0 f1 f2 f3 f4 f5 f6 hbel hx
      go_wp2
      refine wp_region_quiet_below (by assumption) (by kernel_rfl) ?_
      repeat (go_big_quiet_step (first | (go_at_fn 28; refine Calls.regrown_of (q68 _ _))))
      refine wpQuiet_nil ?_
      intro _ hw'
      obtain ⟨⟨dq, osq⟩, hw''⟩ := hw'
      subst hw''
      go_wp2
      exact ⟨⟨k + 1, by omega, by go_num, below_sub (unhide HB) (below_regrown _ _ _)⟩, by simp [intOf]; omega⟩
    · have ki1 : ¬ (k : Int) < (ls.length : Int) := by omega
      go_wp2
      go_ret
      exact ⟨rfl, unhide HB⟩
set_option maxRecDepth 100000 in
set_option maxHeartbeats 4000000 in
theorem sameCj_eq (q : Option Addr) (c : Nat) (q' : Option Addr) (c' : Nat) (cs : List (List Lt)) (w : World) (h1 : CjsOf w q c cs) (h2 : CjsOf w q' c' cs) (hb : ∀ ls ∈ cs, litBound ls ∧ ls.length ≤ 1000000000) (ln : cs.length ≤ 1000000000) :
    Calls Try.prog 14 #[.slice q cs.length c, .slice q' cs.length c'] w fun e w' => e = .returned (.bool true) ∧ Below w.heap.size w w' := by
  have mixed : Try.prog.follows .mixedOrders = true := by kernel_rfl
  have en70 : ∀ args w, (callFunc 29 args).run Try.prog w = .ok (.enter 29 args) w := enters_of Try.func29 (by kernel_rfl) rfl
  have H1 := hide h1
  have H2 := hide h2
  have HBD := hide hb
  have hnn : ((cs.length : Int) != (cs.length : Int)) = false := by simp
  have a0 : (cs.length : Int) ≤ 1000000000 := by omega
  clear h1 h2 hb
  go_enter Try.func14, Try.ntmps14
  go_wp2
  go_loopw [13] (fun i wr => ∃ k : Nat, k ≤ cs.length ∧ i = .int .i64 k ∧ Below w.heap.size w wr) (fun i _ => cs.length - (intOf i).toNat)
  case atStart => exact ⟨0, by omega, rfl, Below.refl _ _⟩
  case round =>
    obtain ⟨k, hk, rfl, hbel⟩ := hrel
    have HB := hide hbel
    by_cases hlt : k < cs.length
    · obtain ⟨ls, hx, hd⟩ := get_at hlt
      clear hd
      obtain ⟨b, off, q1, c1, hq, hbb, l1, g0⟩ := ((unhide H1).below hbel).at hx
      obtain ⟨b', off', q2, c2, hq', hbb', l2, f0⟩ := ((unhide H2).below hbel).at hx
      subst hq hq'
      obtain ⟨m1, m2⟩ := unhide HBD ls (List.mem_of_getElem? hx)
      have ki0 : (0 : Int) ≤ (k : Int) := by omega
      have ki1 : (k : Int) < (cs.length : Int) := by omega
      have q70 := fun (n : Nat) (os : Array Obj) => sameLits_eq q1 c1 q2 c2 ls (grow (redrawn wr n) os) (l1.below (below_regrown wr n os)) (l2.below (below_regrown wr n os)) m1 m2
      have G0 : ∀ n os, (grow (redrawn wr n) os).cell? ⟨b, off + k, none⟩ = some _ := cell_regrown g0
      have F0 : ∀ n os, (grow (redrawn wr n) os).cell? ⟨b', off' + k, none⟩ = some _ := cell_regrown f0
      clear l1 l2 g0 f0 hbel hx m1
      go_wp2
      refine wp_region_quiet_below (by assumption) (by kernel_rfl) ?_
      repeat (go_big_quiet_step (first | (go_at_fn 29; refine Calls.regrown_of (q70 _ _))))
      refine wpQuiet_nil ?_
      intro _ hw'
      obtain ⟨⟨dq, osq⟩, hw''⟩ := hw'
      subst hw''
      go_wp2
      exact ⟨⟨k + 1, by omega, by go_num, below_sub (unhide HB) (below_regrown _ _ _)⟩, by simp [intOf]; omega⟩
    · have ki1 : ¬ (k : Int) < (cs.length : Int) := by omega
      go_wp2
      go_ret
      exact ⟨rfl, unhide HB⟩
end Go.Proofs.Ytcjkjhblmalbhaa
namespace Go.Proofs.Ytcjkjhblmalbhaa
open Go.RowKit Go.Sort

theorem exp_none {t : Nd} {m : Int} (h : expE t m ≠ 0) : expC t m = [] := by unfold expC; rw [if_neg h]
theorem exp_yes {t : Nd} {m : Int} (h : expE t m = 0) : chkN t = true ∧ 1 ≤ m ∧ m ≤ 64 ∧ ((cjN (downN t false)).length : Int) ≤ m ∧ 1 ≤ (cjN (downN t false)).length ∧ expC t m = cjN (downN t false) := by
  unfold expE at h
  by_cases e0 : WidthE t m = 0
  · rw [if_pos e0] at h
    by_cases e1 : WidthA t m > m
    · rw [if_pos e1] at h; cases h
    · obtain ⟨a1, a2, a3, a4, a5, a6, a7⟩ := exp_ok e0 e1
      have hd := chk_down t false a1
      have h1 := (wid_min (m := 64) (by omega) (by omega) _ hd).2
      have h2 := (cj_all [] _ hd (at_down t false a1)).1
      exact ⟨a1, a2, a3, by omega, by omega, a7⟩
  · rw [if_neg e0] at h; exact absurd h e0
theorem exp_of {T : Nd} (hc : chkN T = true) : ((cjN (downN T false)).length ≤ 64 → expE T 64 = 0 ∧ expC T 64 = cjN (downN T false)) ∧ (¬ (cjN (downN T false)).length ≤ 64 → expE T 64 = 13) := by
  have hd := chk_down T false hc
  have hw := (wid_min (m := 64) (by omega) (by omega) _ hd).1
  have hcj := (cj_all [] _ hd (at_down T false hc)).1
  have hE : WidthE T 64 = 0 := by simp [WidthE, hc]
  have hA : WidthA T 64 = widN 64 (downN T false) := by simp [WidthA, hc]
  refine ⟨fun hl => ?_, fun hl => ?_⟩
  · have e : expE T 64 = 0 := by unfold expE; rw [if_pos hE, if_neg (by rw [hA, hw]; omega)]
    exact ⟨e, by unfold expC; rw [if_pos e]⟩
  · unfold expE; rw [if_pos hE, if_pos (by rw [hA, hw]; omega)]
theorem cross_nil (y : List (List Lt)) : crossL y [[]] = y := by
  unfold crossL
  simp
theorem cj_pair (a b : Nd) : cjN (downN (joinT 4 [a, b]) false) = cjN (downN a false) ++ cjN (downN b false) ∧ cjN (downN (joinT 3 [a, b]) false) = crossL (cjN (downN a false)) (cjN (downN b false)) := by
  rw [joinT_many 4 (by simp), joinT_many 3 (by simp), down_34 (Or.inr rfl), down_34 (Or.inl rfl)]
  simp [cjN, cjSum, cjProd, downL, cross_nil]
theorem chk_pair {a b : Nd} (ca : chkN a = true) (cb : chkN b = true) : chkN (joinT 4 [a, b]) = true ∧ chkN (joinT 3 [a, b]) = true := by
  rw [chk_joinB (Or.inr rfl) (by simp), chk_joinB (Or.inl rfl) (by simp)]
  simp [chkL, ca, cb]
theorem pair_wt (op : Int) (a b : Nd) : wtN (joinT op [a, b]) ≤ wtN a + wtN b + 1 := by
  have := wt_join8 op [a, b]
  simp only [wtL] at this
  omega
theorem LitsOf.take {w : World} {q : Option Addr} {c : Nat} {l m : List Lt} (h : LitsOf w q c (l ++ m)) : LitsOf w q c l := by
  obtain ⟨us, h1, h2, h3⟩ := h
  rw [List.length_append] at h2
  have e : us = us.take l.length ++ us.drop l.length := (List.take_append_drop _ _).symm
  have hl : (us.take l.length).length = l.length := by rw [List.length_take]; omega
  refine ⟨us.take l.length, ⟨fun hq => ?_, by have := h1.2.1; omega, h1.2.2.1, ?_⟩, hl, fun j u x hj hx => ?_⟩
  · have := h1.1 hq; omega
  · have := h1.2.2.2
    rw [e] at this
    exact this.take (by decide)
  · have hjl : j < l.length := (List.getElem?_eq_some_iff.1 hx).1
    rw [List.getElem?_take_of_lt hjl] at hj
    exact h3 j u x hj (by rw [List.getElem?_append_left hjl]; exact hx)
theorem LitsOf.drop {w : World} {b off c : Nat} {l m : List Lt} (h : LitsOf w (some ⟨b, off, none⟩) c (l ++ m)) : LitsOf w (some ⟨b, off + l.length * 7, none⟩) (c - l.length) m := by
  obtain ⟨us, h1, h2, h3⟩ := h
  rw [List.length_append] at h2
  have e : us = us.take l.length ++ us.drop l.length := (List.take_append_drop _ _).symm
  have hl : (us.take l.length).length = l.length := by rw [List.length_take]; omega
  have hd : (us.drop l.length).length = m.length := by rw [List.length_drop]; omega
  have hc := h1.2.1
  have hm := h1.2.2.1
  refine ⟨us.drop l.length, ⟨fun hq => (by cases hq), by omega, by omega, fun h0 => ?_⟩, hd, fun j u x hj hx => ?_⟩
  · obtain ⟨b', off', hq, hlt, hcc⟩ := h1.2.2.2 (by omega)
    cases hq
    refine ⟨b, off + l.length * 7, rfl, hlt, fun j u hj => ?_⟩
    have := hcc (l.length * 7 + j) u (by
      rw [e, flat_app encL 7 (by decide), List.getElem?_append_right (by simp [flatK, hl]), show (flatK encL 7 (us.take l.length).toArray).toList.length = l.length * 7 by simp [flatK, hl], Nat.add_sub_cancel_left]
      exact hj)
    rw [Nat.add_assoc]
    exact this
  · rw [List.getElem?_drop] at hj
    exact h3 (l.length + j) u x hj (by rw [List.getElem?_append_right (by omega), Nat.add_sub_cancel_left]; exact hx)
theorem rowQ : RowOf encQ 22 27 1 24 where
  und := Try.underlying22
  info := by
    obtain ⟨i0, hi, hz0, hz1, hz2⟩ := info_parts Try.info27
    exact ⟨i0, _, hi, hz0, hz1, hz2, rfl⟩
  pos := by decide
  one := one_flat (fun x c hc => by
    obtain rfl : c = 0 := by omega
    rfl) (by decide)
theorem wpList_appW {α : Type} [Inhabited α] {enc : α → List Value} {t e : TypeId} {k bytes : Nat} (R : RowOf enc t e k bytes) {ops : Array Oper} {rest : List Oper} {o : Oper} {a : Act} {w : World} {Q : Exit → Act → World → Prop} (hw : Region.wanted o (yielded ops a.tmps) = true) (s x : Operand)
    (ho : o.op = .call { callee := .builtin .append, args := #[s, x], argTypes := #[t, t] }) (B : Nat) (q : Option Addr) (cap : Nat) (l : List α) (p : Option Addr) (c : Nat) (m : List α) (n n' N : Nat) (hn : l.length = n) (hn' : m.length = n') (hN : n + n' = N)
    (es : a.eval s = .slice q n cap) (ex : a.eval x = .slice p n' c) (hown : OwnK enc e k B w q cap l) (hs : SrcK enc k w p c m) (hm : N ≤ maxLen) (hb : N * bytes ≤ 140737488355328) (hB : B ≤ w.heap.size)
    (h : ∀ q' cap' w', OwnK enc e k B w' q' cap' (l ++ m) → Below B w w' → wpList Try.prog ops Q rest (a.put o.dst (.slice q' N cap')) w') : wpList Try.prog ops Q (o :: rest) a w :=
  wpList_step fun K hK => by
    rw [if_pos hw]
    exact wp_app R s x ho B q cap l p c m n n' N hn hn' hN es ex hown hs hm hb hB fun q' cap' w' h2 h3 _ _ => hK _ _ (h q' cap' w' h2 h3)
theorem nds_twoP {w : World} {M : Nat} {v1 v2 : Nv} {x1 x2 : Nd} (h : w.heap[M]? = some (.cells #[.int .i64 v1.kind, .string v1.attr, .slice v1.qi v1.ni v1.ci, .slice v1.qw v1.nw v1.cw, .int .i64 v1.lo, .int .i64 v1.hi, .int .i64 v1.op, .slice v1.qk v1.nk v1.ck, .int .i64 v2.kind, .string v2.attr, .slice v2.qi v2.ni v2.ci, .slice v2.qw v2.nw v2.cw, .int .i64 v2.lo, .int .i64 v2.hi, .int .i64 v2.op, .slice v2.qk v2.nk v2.ck] 36 (0, 0))) (h1 : NdIn w v1 x1) (h2 : NdIn w v2 x2) : NdsOf w (some ⟨M, 0, none⟩) 2 [x1, x2] := nds_two h h1 h2
theorem cj_ne : ∀ t : Nd, chkN t = true → atN t = true → ∀ c ∈ cjN t, 1 ≤ c.length := by
  intro t
  induction t using Nd.ind with
  | h kind attr ints words lo hi op kids ih =>
    intro hch hat c hc
    simp only [chkN, Bool.and_eq_true] at hch
    obtain ⟨hn, hck⟩ := hch
    simp only [cjN] at hc
    split at hc
    · rename_i o4
      subst o4
      have hA : ∀ x ∈ kids, atN x = true := atL_all (by simpa [atN] using hat)
      have : ∀ ks : List Nd, (∀ x ∈ ks, ∀ c ∈ cjN x, 1 ≤ c.length) → ∀ c ∈ cjSum ks, 1 ≤ c.length := by
        intro ks
        induction ks with
        | nil => intro _ c hc; simp [cjSum] at hc
        | cons x ks ihk =>
          intro hx c hc
          simp only [cjSum, List.mem_append] at hc
          rcases hc with hc | hc
          · exact hx x (by simp) c hc
          · exact ihk (fun y hy => hx y (by simp [hy])) c hc
      exact this kids (fun x hx => ih x hx (chkL_mem hck hx) (hA x hx)) c hc
    · split at hc
      · rename_i o3
        subst o3
        have hA : ∀ x ∈ kids, atN x = true := atL_all (by simpa [atN] using hat)
        cases kids with
        | nil => simp [nodeB] at hn
        | cons x ks =>
          simp only [cjProd, crossL, List.mem_flatMap, List.mem_map] at hc
          obtain ⟨c1, h1, c2, h2, rfl⟩ := hc
          have := ih x (by simp) (chkL_mem hck (by simp)) (hA x (by simp)) c1 h1
          rw [List.length_append]
          omega
      · split at hc
        · cases kids with
          | nil => simp [negLit] at hc
          | cons x ks =>
            obtain ⟨k2, a2, i2, w2, l2, h2, o2, ks2⟩ := x
            simp only [negLit, List.mem_singleton] at hc
            subst hc
            simp
        · simp only [List.mem_singleton] at hc
          subst hc
          simp
/-- Two lists of conjunctions, one behind the other. -/
theorem cjs_app {w : World} {q : Option Addr} {c B : Nat} {x y : List (List Lt)} {us vs : List (Option Addr × Nat × Nat)} (ho : OwnK encQ 27 1 B w q c (us ++ vs)) (hu : us.length = x.length) (hv : vs.length = y.length) (h1 : ∀ (j : Nat) u ls, us[j]? = some u → x[j]? = some ls → u.2.1 = ls.length ∧ LitsOf w u.1 u.2.2 ls) (h2 : ∀ (j : Nat) u ls, vs[j]? = some u → y[j]? = some ls → u.2.1 = ls.length ∧ LitsOf w u.1 u.2.2 ls) : CjsOf w q c (x ++ y) :=
  ⟨us ++ vs, ho.ls, by simp [hu, hv], fun j u ls hj hl => by
    by_cases hjk : j < us.length
    · rw [List.getElem?_append_left hjk] at hj
      rw [List.getElem?_append_left (by omega)] at hl
      exact h1 j u ls hj hl
    · rw [List.getElem?_append_right (by omega)] at hj
      rw [List.getElem?_append_right (by omega), ← hu] at hl
      exact h2 _ u ls hj hl⟩
end Go.Proofs.Ytcjkjhblmalbhaa
namespace Go.Proofs.Ytcjkjhblmalbhaa
open Go.RowKit Go.Sort

theorem memPred_lit (u : Lv) (l : Lt) (w : World) (h : LitIn w u l) (l1 : l.ints.length ≤ 1000000000) (l2 : l.words.length ≤ 1000000000) :
    Calls Try.prog 39 #[.agg #[.int .i64 u.kind, .string u.attr, .slice u.qi u.ni u.ci, .slice u.qw u.nw u.cw, .int .i64 u.lo, .int .i64 u.hi]] w fun e w' => (∃ g1 k1 g2 k2, e = .returned (.agg #[.int .i64 u.kind, .string u.attr, .slice (some ⟨g1, 0, none⟩) u.ni k1, .slice (some ⟨g2, 0, none⟩) u.nw k2, .int .i64 u.lo, .int .i64 u.hi]) ∧ LitFrom w' w.heap.size (⟨u.kind, u.attr, some ⟨g1, 0, none⟩, u.ni, k1, some ⟨g2, 0, none⟩, u.nw, k2, u.lo, u.hi, u.neg⟩ : Lv) l) ∧ Below w.heap.size w w' := by
  obtain ⟨a1, a2, a3, a4, a5, a6, a7, a8, a9⟩ := h
  have := memPred2 l.kind l.attr l.ints l.words l.lo l.hi u.qi u.ci u.qw u.cw w a8 a9 (by omega) (by omega)
  rw [a1, a2, a3, a4, a5, a6, a7]
  refine this.mono ?_
  rintro e w' ⟨⟨g1, k1, g2, k2, he, s1, m1, n1, s2, m2, n2, f1, f2⟩, hb⟩
  exact ⟨⟨g1, k1, g2, k2, he, ⟨rfl, rfl, rfl, rfl, rfl, rfl, rfl, ⟨fun h => (by cases h), Nat.le_trans (Nat.le_add_right _ 2) m1, n1, s1.take (by decide)⟩, ⟨fun h => (by cases h), Nat.le_trans (Nat.le_add_right _ 2) m2, n2, s2.take (by decide)⟩⟩, fun a h => (by cases h; exact f1), fun a h => (by cases h; exact f2)⟩, hb⟩
theorem growL_snoc {w W w9 : World} {q q9 : Option Addr} {c c9 n B : Nat} {us : List Lv} {u : Lv} {ls : List Lt} {l : Lt} (hls : ls.length = n) (hn : us.length = n) (ho : OwnK encL 57 7 B w q c us) (hall : OffP B (fun x => ∀ (j : Nat) (u : Lv) (l : Lt), us[j]? = some u → ls[j]? = some l → LitIn x u l) (Value.slice q n c).ownBlock w) (bv : Below w.heap.size w W) (lf : LitFrom W w.heap.size u l)
    (ho9 : OwnK encL 57 7 B w9 q9 c9 (us ++ [u])) (hb9 : Below B W w9) (hg9 : W.grownBy w9 (Value.slice q n c).ownBlock) (hor9 : (Value.slice q9 (n + 1) c9).ownBlock = (Value.slice q n c).ownBlock ∨ (Value.slice q9 (n + 1) c9).ownBlock = some W.heap.size) (hB : B ≤ w.heap.size) :
    GrowL B w9 q9 c9 (n + 1) (ls ++ [l]) ∧ Below B w w9 := by
  subst hn
  have hlt : ∀ b, (Value.slice q us.length c).ownBlock = some b → b < w.heap.size := fun b e => (World.ownsRow.lt ho b e).2
  have hL : OffP B (fun x => LitIn x u l) (Value.slice q us.length c).ownBlock W := fun x hs hc => (lf.up ⟨hs, fun b o hb hlt2 => hc b o (by omega) hlt2 fun e => by have := hlt b e.symm; omega⟩).1
  exact ⟨⟨by simp [hls], us ++ [u], by simp, ho9, (((hall.below bv).and hL).step hg9 hor9).imp fun x h => snocL hls.symm h.1 h.2⟩, (bv.mono hB).trans hb9⟩
set_option maxRecDepth 100000 in
set_option maxHeartbeats 8000000 in
theorem memLits_any (q : Option Addr) (c : Nat) (ls : List Lt) (w : World) (hl : LitsOf w q c ls) (hb : litBound ls) (ln : ls.length ≤ 1000000000) :
    Calls Try.prog 21 #[.slice q ls.length c] w fun e w' => (∃ q' c', e = .returned (.slice q' ls.length c') ∧ GrowL w.heap.size w' q' c' ls.length ls) ∧ Below w.heap.size w w' := by
  have a0 : (ls.length : Int) ≤ 1000000000 := by omega
  have HL := hide hl
  have HBD := hide hb
  clear hl hb
  go_enter Try.func21, Try.ntmps21
  go_wp2
  go_loopw [3, 8] (fun m i wr => ∃ (k : Nat) (qm : Option Addr) (cm : Nat), k ≤ ls.length ∧ i = .int .i64 k ∧ m = .slice qm k cm ∧ Hid (GrowL w.heap.size wr qm cm k (ls.take k)) ∧ Below w.heap.size w wr) (fun _ i _ => ls.length - (intOf i).toNat)
  case atStart => exact ⟨0, none, 0, by omega, rfl, rfl, hide (by simpa using GrowL.nil _ _), Below.refl _ _⟩
  case round =>
    obtain ⟨k, qm, cm, hkk, rfl, rfl, HG, hbel⟩ := hrel
    have HB := hide hbel
    by_cases hlt : k < ls.length
    · obtain ⟨l, hl, hld⟩ := get_at hlt
      have HTK := hide (show ls.take (k + 1) = ls.take k ++ [l] by rw [List.take_add_one, hl]; rfl)
      clear hld
      obtain ⟨b, off, u, hq, hbb, hin, g0, g1, g2, g3, g4, g5, g6⟩ := ((unhide HL).below hbel).at hl
      subst hq
      have hbd := unhide HBD l (List.mem_of_getElem? hl)
      have ki0 : (0 : Int) ≤ (k : Int) := by omega
      have ki1 : (k : Int) < (ls.length : Int) := by omega
      obtain ⟨Z, HZ⟩ : ∃ Z, wr.alloc (.cells #[.int .i64 u.kind, .string u.attr, .slice u.qi u.ni u.ci, .slice u.qw u.nw u.cw, .int .i64 u.lo, .int .i64 u.hi, .bool u.neg] 57) = Z := ⟨_, rfl⟩
      have bZ : Below wr.heap.size wr Z := by rw [← HZ]; exact (Below.refl _ _).alloc (Nat.le_refl _) _
      have zk : Z.heap[wr.heap.size]? = some (.cells #[.int .i64 u.kind, .string u.attr, .slice u.qi u.ni u.ci, .slice u.qw u.nw u.cw, .int .i64 u.lo, .int .i64 u.hi, .bool u.neg] 57 (0, 0)) := by rw [← HZ]; exact box_nw _ _
      have sZ : Z.heap.size = wr.heap.size + 1 := by rw [← HZ]; simp
      obtain ⟨z0, z1, z2, z3, z4, z5, z6⟩ := of7' zk
      have hC := fun (W : World) (hW : Below Z.heap.size Z W) => memPred_lit u l W (hin.keep (below_sub bZ hW)) hbd.1 hbd.2
      obtain ⟨gl, us, hus, hown, hoff⟩ := unhide HG
      have HUS := hide hus
      have HO := hide hown
      have HF := hide hoff
      have HGL := hide gl
      have BZ := hide bZ
      have hkm : k + 1 ≤ maxLen := by unfold maxLen; omega
      have hkb : (k + 1) * 96 ≤ 140737488355328 := by omega
      have hws := hbel.size
      have hL := hide (fun b e => (World.ownsRow.lt (show OwnK encL 57 7 w.heap.size wr qm cm us from hown) b e).2)
      rw [hus] at hL
      clear hin hl hbel bZ hbd gl hus hown hoff
      go_wp2
      refine wp_region_held_drew (S := fun w' => w'.heap[wr.heap.size]? = some (.cells #[.int .i64 u.kind, .string u.attr, .slice u.qi u.ni u.ci, .slice u.qw u.nw u.cw, .int .i64 u.lo, .int .i64 u.hi, .bool u.neg] 57 (0, 0))) (by kernel_rfl) (zk) (fun hHeld => ?_)
      refine wpAnyH_take (i := 0) (oi := { dst := some 12, op := Op.move (Operand.tmp 3), type := 27, pos := "mem.go:224", after := #[], guard := none }) (v := ?_) rfl (by kernel_rfl) (by kernel_rfl) (by kernel_rfl) (fun _ _ _ h => h) (Or.inl ⟨by rfl, ?_⟩) (by assumption) ?_
      rotate_left
      · intro wq hSw
        obtain ⟨e0, e1, e2, e3, e4, e5, e6⟩ := of7' hSw
        go_simp
        with_reducible rfl
      simp only [Act.put, List.setIfInBounds_toArray, List.set_cons_zero, List.set_cons_succ]
      refine wpAnyH_take (i := 1) (oi := { dst := some 13, op := Op.fieldAddr 57 (Operand.tmp 5) 0, type := 0, pos := "mem.go:224", after := #[], guard := none }) (v := ?_) rfl (by kernel_rfl) (by kernel_rfl) (by kernel_rfl) (fun _ _ _ h => h) (Or.inl ⟨by rfl, ?_⟩) (by assumption) ?_
      rotate_left
      · intro wq hSw
        obtain ⟨e0, e1, e2, e3, e4, e5, e6⟩ := of7' hSw
        go_simp
        with_reducible rfl
      simp only [Act.put, List.setIfInBounds_toArray, List.set_cons_zero, List.set_cons_succ]
      refine wpAnyH_take (i := 2) (oi := { dst := some 14, op := Op.load 33 (Operand.tmp 13), type := 33, pos := "mem.go:224", after := #[{ on := 1, ground := Ground.data }], guard := none }) (v := ?_) rfl (by kernel_rfl) (by kernel_rfl) (by kernel_rfl) (fun _ _ _ h => h) (Or.inl ⟨by rfl, ?_⟩) (by assumption) ?_
      rotate_left
      · intro wq hSw
        obtain ⟨e0, e1, e2, e3, e4, e5, e6⟩ := of7' hSw
        go_simp
        with_reducible rfl
      simp only [Act.put, List.setIfInBounds_toArray, List.set_cons_zero, List.set_cons_succ]
      refine wpAnyH_take (i := 4) (oi := { dst := some 16, op := Op.fieldAddr 57 (Operand.tmp 5) 1, type := 0, pos := "mem.go:224", after := #[], guard := none }) (v := ?_) rfl (by kernel_rfl) (by kernel_rfl) (by kernel_rfl) (fun _ _ _ h => h) (Or.inl ⟨by rfl, ?_⟩) (by assumption) ?_
      rotate_left
      · intro wq hSw
        obtain ⟨e0, e1, e2, e3, e4, e5, e6⟩ := of7' hSw
        go_simp
        with_reducible rfl
      simp only [Act.put, List.setIfInBounds_toArray, List.set_cons_zero, List.set_cons_succ]
      refine wpAnyH_take (i := 5) (oi := { dst := some 17, op := Op.load 4 (Operand.tmp 16), type := 4, pos := "mem.go:224", after := #[{ on := 4, ground := Ground.data }], guard := none }) (v := ?_) rfl (by kernel_rfl) (by kernel_rfl) (by kernel_rfl) (fun _ _ _ h => h) (Or.inl ⟨by rfl, ?_⟩) (by assumption) ?_
      rotate_left
      · intro wq hSw
        obtain ⟨e0, e1, e2, e3, e4, e5, e6⟩ := of7' hSw
        go_simp
        with_reducible rfl
      simp only [Act.put, List.setIfInBounds_toArray, List.set_cons_zero, List.set_cons_succ]
      refine wpAnyH_ready (rs := [3]) (by kernel_rfl) (by simp) ?_
      refine AllReadyH.cons (o := { dst := some 15, op := Op.call { callee := Callee.value (Operand.func 39), args := #[Operand.tmp 14], argTypes := #[33] }, type := 33, pos := "mem.go:224", after := #[{ on := 2, ground := Ground.data }], guard := none }) rfl (fun K hK => ?_) ?_
      · go_simp
        refine (hC _ ((Below.refl _ _).drew)).mono ?_
        rintro e w1 ⟨⟨g1, k1, g2, k2, rfl, lf⟩, b1⟩
        simp only
        have LF := hide lf
        have R1 : Below Z.heap.size Z w1 := below_undrewM b1
        have B1 := hide R1
        have s1 := R1.size
        have S1 : w1.heap[wr.heap.size]? = some (.cells #[.int .i64 u.kind, .string u.attr, .slice u.qi u.ni u.ci, .slice u.qw u.nw u.cw, .int .i64 u.lo, .int .i64 u.hi, .bool u.neg] 57 (0, 0)) := (R1.block _ (by omega)).trans zk
        have SA : ∀ o : Obj, (w1.alloc o).heap[wr.heap.size]? = some (.cells #[.int .i64 u.kind, .string u.attr, .slice u.qi u.ni u.ci, .slice u.qw u.nw u.cw, .int .i64 u.lo, .int .i64 u.hi, .bool u.neg] 57 (0, 0)) := fun o => (((Below.refl w1.heap.size w1).alloc (Nat.le_refl _) o).block wr.heap.size (by omega)).trans S1
        clear lf b1 R1
        refine hK.out _ _ (S1) (fun hHeld => ?_)
        clear hK K
        refine wpAnyH_take (i := 6) (oi := { dst := some 18, op := Op.build 57 #[(0, Operand.tmp 15), (1, Operand.tmp 17)], type := 57, pos := "mem.go:224", after := #[{ on := 3, ground := Ground.data }, { on := 5, ground := Ground.data }], guard := none }) (v := ?_) rfl (by kernel_rfl) (by kernel_rfl) (by kernel_rfl) (fun _ _ _ h => h) (Or.inl ⟨by rfl, ?_⟩) (by assumption) ?_
        rotate_left
        · intro wq hSw
          obtain ⟨e0, e1, e2, e3, e4, e5, e6⟩ := of7' hSw
          go_simp
          with_reducible rfl
        simp only [Act.put, List.setIfInBounds_toArray, List.set_cons_zero, List.set_cons_succ]
        refine wpAnyH_ready (rs := [7]) (by kernel_rfl) (by simp) ?_
        refine AllReadyH.cons (o := { dst := some 19, op := Op.buildSlice 27 1 #[(0, Operand.tmp 18)], type := 27, pos := "mem.go:224", after := #[{ on := 6, ground := Ground.data }], guard := none }) rfl (fun K hK => ?_) ?_
        · go_simp
          refine hK.out _ _ (SA _) (fun hHeld => ?_)
          clear hK K
          refine wpAnyH_ready (rs := [8]) (by kernel_rfl) (by simp) ?_
          refine AllReadyH.cons (o := { dst := some 20, op := Op.call { callee := Callee.builtin Builtin.append, args := #[Operand.tmp 12, Operand.tmp 19], argTypes := #[27, 27] }, type := 27, pos := "mem.go:224", after := #[{ on := 0, ground := Ground.data }, { on := 7, ground := Ground.data }, { on := 3, ground := Ground.chain }], guard := none }) rfl (fun K hK => ?_) ?_
          · refine step_appG rowL (by rfl) (.tmp 12) (.tmp 19) (by rfl) w.heap.size qm cm us ⟨w1.heap.size, 0, none⟩ 1 [(⟨u.kind, u.attr, some ⟨g1, 0, none⟩, u.ni, k1, some ⟨g2, 0, none⟩, u.nw, k2, u.lo, u.hi, u.neg⟩ : Lv)] k 1 (k + 1) (unhide HUS) rfl rfl (by rfl) (by rfl) (((unhide HO).below (unhide BZ)).below ((unhide B1).alloc (unhide B1).size _)) (lit_src (⟨u.kind, u.attr, some ⟨g1, 0, none⟩, u.ni, k1, some ⟨g2, 0, none⟩, u.nw, k2, u.lo, u.hi, u.neg⟩ : Lv) rfl) hkm hkb (by simp only [size_al]; omega) ?_
            intro q3 c3 w3 ho3 hb3 hg3 hor3
            have S3 := (hg3.block wr.heap.size (by simp only [size_al]; omega) (fun e => by have := unhide hL _ e.symm; omega)).trans (SA _)
            have bY := (Below.refl w1.heap.size w1).alloc (Nat.le_refl _) (.cells #[.int .i64 u.kind, .string u.attr, .slice (some ⟨g1, 0, none⟩) u.ni k1, .slice (some ⟨g2, 0, none⟩) u.nw k2, .int .i64 u.lo, .int .i64 u.hi, .bool u.neg] 57)
            have lf0 := unhide LF
            simp only [drew_heap] at lf0
            have HE := hide (growL_snoc (unhide HGL) (unhide HUS) (unhide HO) (unhide HF) (below_sub (unhide BZ) (below_sub (unhide B1) bY)) ⟨lf0.1.keep bY, fun a h => Nat.le_trans (by omega) (lf0.2.1 a h), fun a h => Nat.le_trans (by omega) (lf0.2.2 a h)⟩ ho3 hb3 hg3 hor3 hws)
            clear ho3 hb3 hg3 hor3 bY lf0
            refine hK.out _ _ (S3) (fun hHeld => ?_)
            clear hK K
            refine wpAnyH_take (i := 9) (oi := { dst := some 3, op := Op.assign (Operand.tmp 20), type := 27, pos := "mem.go:224", after := #[{ on := 8, ground := Ground.data }, { on := 8, ground := Ground.chain }, { on := 0, ground := Ground.phase }, { on := 1, ground := Ground.phase }, { on := 2, ground := Ground.phase }, { on := 3, ground := Ground.phase }, { on := 4, ground := Ground.phase }, { on := 5, ground := Ground.phase }, { on := 6, ground := Ground.phase }, { on := 7, ground := Ground.phase }, { on := 8, ground := Ground.phase }], guard := none }) (v := ?_) rfl (by kernel_rfl) (by kernel_rfl) (by kernel_rfl) (fun _ _ _ h => h) (Or.inl ⟨by rfl, ?_⟩) (by assumption) ?_
            rotate_left
            · intro wq hSw
              obtain ⟨e0, e1, e2, e3, e4, e5, e6⟩ := of7' hSw
              go_simp
              with_reducible rfl
            simp only [Act.put, List.setIfInBounds_toArray, List.set_cons_zero, List.set_cons_succ]
            refine wpAnyH_done (by kernel_rfl) ?_ _
            go_wp2
            exact ⟨⟨k + 1, q3, c3, by omega, by go_num, rfl, hide (by rw [unhide HTK]; exact (unhide HE).1), (unhide HB).trans (unhide HE).2⟩, by simp [intOf]; omega⟩
          exact AllReadyH.nil
        exact AllReadyH.nil
      exact AllReadyH.nil
    · have ki1 : ¬ (k : Int) < (ls.length : Int) := by omega
      have hkl : k = ls.length := by omega
      subst hkl
      have HGG := hide (show GrowL w.heap.size wr qm cm ls.length ls by have := unhide HG; rwa [List.take_length] at this)
      clear hbel
      go_wp2
      go_ret
      exact ⟨⟨qm, cm, rfl, unhide HGG⟩, unhide HB⟩
end Go.Proofs.Ytcjkjhblmalbhaa
namespace Go.Proofs.Ytcjkjhblmalbhaa
open Go.RowKit Go.Sort

theorem growL_off {B B' : Nat} {W : World} {q : Option Addr} {c n : Nat} {ls : List Lt} {g : Option Nat} (h : GrowL B' W q c n ls) (hB : B ≤ B') (hg : ∀ b, g = some b → b < B') : OffP B (fun x => LitsOf x q c ls) g W := fun x hs hc => by
  obtain ⟨h1, us, h2, h3, h4⟩ := h
  have su : SameUp B' W x := ⟨hs, fun b o hb hlt => hc b o (by omega) hlt fun e => by have := hg b e.symm; omega⟩
  exact ⟨us, h3.ls.up (fun a e => h3.from a e) su, by omega, h4 x hs (fun b o hb hlt _ => su.2 b o hb hlt)⟩
theorem q_src {W : World} {M : Nat} (u : Option Addr × Nat × Nat) (hM : W.heap.size = M) : SrcK encQ 1 (W.alloc (.cells #[.slice u.1 u.2.1 u.2.2] 27)) (some ⟨M, 0, none⟩) 1 [u] := by
  subst hM
  have hb := box_nw W (.cells #[.slice u.1 u.2.1 u.2.2] 27)
  refine LsOf.src (fun h => by cases h) (LsOf.one (by rw [size_al]; omega) fun c hc => ?_)
  obtain rfl : c = 0 := by omega
  unfold World.cell?; rw [show (W.alloc (.cells #[.slice u.1 u.2.1 u.2.2] 27)).heap[(⟨W.heap.size, 0 + 0, none⟩ : Addr).block]? = _ from hb]; rfl
/-- Conjunctions that lie in memory from B on. -/
def CjsFrom (B : Nat) (w : World) (q : Option Addr) (c : Nat) (cs : List (List Lt)) : Prop := ∀ x, SameUp B w x → CjsOf x q c cs
theorem CjsFrom.now {B : Nat} {w : World} {q : Option Addr} {c : Nat} {cs : List (List Lt)} (h : CjsFrom B w q c cs) : CjsOf w q c cs := h w (SameUp.of (Below.refl _ _))
def LitsAll (cs : List (List Lt)) (us : List (Option Addr × Nat × Nat)) (x : World) : Prop := ∀ (j : Nat) (u : Option Addr × Nat × Nat) (ls : List Lt), us[j]? = some u → cs[j]? = some ls → u.2.1 = ls.length ∧ LitsOf x u.1 u.2.2 ls
set_option maxRecDepth 100000 in
set_option maxHeartbeats 8000000 in
theorem copies_any (q : Option Addr) (c : Nat) (cs : List (List Lt)) (w : World) (hl : CjsOf w q c cs) (hb : ∀ ls ∈ cs, litBound ls ∧ ls.length ≤ 1000000000) (ln : cs.length ≤ 1000000000) :
    Calls Try.prog 5 #[.slice q cs.length c] w fun e w' => (∃ q' c', e = .returned (.slice q' cs.length c') ∧ CjsFrom w.heap.size w' q' c' cs) ∧ Below w.heap.size w w' := by
  have a0 : (cs.length : Int) ≤ 1000000000 := by omega
  have HL := hide hl
  have HBD := hide hb
  clear hl hb
  go_enter Try.func5, Try.ntmps5
  go_wp2
  go_loopw [3, 8] (fun m i wr => ∃ (k : Nat) (qm : Option Addr) (cm : Nat) (us : List (Option Addr × Nat × Nat)), k ≤ cs.length ∧ i = .int .i64 k ∧ m = .slice qm k cm ∧ us.length = k ∧ Hid (OwnK encQ 27 1 w.heap.size wr qm cm us) ∧ Hid (OffP w.heap.size (LitsAll cs us) (Value.slice qm k cm).ownBlock wr) ∧ Below w.heap.size w wr) (fun _ i _ => cs.length - (intOf i).toNat)
  case atStart => exact ⟨0, none, 0, [], by omega, rfl, rfl, rfl, hide (OwnK.nil _ _), hide (fun x _ _ j u ls h => by simp at h), Below.refl _ _⟩
  case round =>
    obtain ⟨k, qm, cm, us, hkk, rfl, rfl, hus, HO, HF, hbel⟩ := hrel
    have HB := hide hbel
    have HUS := hide hus
    by_cases hlt : k < cs.length
    · obtain ⟨l, hl, hld⟩ := get_at hlt
      clear hld
      obtain ⟨b, off, q1, c1, hq, hbb, hin, g0⟩ := ((unhide HL).below hbel).at hl
      subst hq
      have hbd := unhide HBD l (List.mem_of_getElem? hl)
      have ki0 : (0 : Int) ≤ (k : Int) := by omega
      have ki1 : (k : Int) < (cs.length : Int) := by omega
      have hC := memLits_any q1 c1 l wr hin hbd.1 hbd.2
      have hL := hide (fun b e => (World.ownsRow.lt (unhide HO) b e).2)
      rw [hus] at hL
      have HLL := hide hl
      have hkm : k + 1 ≤ maxLen := by unfold maxLen; omega
      have hkb : (k + 1) * 24 ≤ 140737488355328 := by omega
      have hws := hbel.size
      clear hin hl hbel hbd hus
      go_wp2_with (first
        | (go_at_call 21; refine hC.mono ?_; rintro e w1 ⟨⟨q2, c2, rfl, hg⟩, b1⟩; simp only; have GG := hide hg; have B1 := hide b1; have s1 := b1.size; clear hg b1)
        | (at_builtin; have bY := (Below.refl w1.heap.size w1).alloc (Nat.le_refl _) (.cells #[.slice q2 l.length c2] 27); have hOA := ((unhide HO).below (unhide B1)).below bY; refine wpList_appG rowQ rfl _ _ rfl w.heap.size qm cm us ⟨w1.heap.size, 0, none⟩ 1 [(q2, l.length, c2)] k 1 (k + 1) (unhide HUS) rfl rfl rfl rfl hOA (q_src (q2, l.length, c2) rfl) hkm hkb (by simp only [size_al]; omega) ?_; intro q3 c3 w3 ho3 hb3 hg3 hor3; have HO3 := hide ho3; have HF3 := hide ((((((unhide HF).below (unhide B1)).below bY).and ((growL_off (unhide GG) hws (fun b e => by have := unhide hL b e; omega)).below bY)).step hg3 hor3).imp (fun x h => (show LitsAll cs (us ++ [(q2, l.length, c2)]) x from snocQ (unhide HUS) (unhide HLL) h.1 ⟨rfl, h.2⟩))); have HB3 := hide ((below_sub (unhide HB) (below_sub (unhide B1) bY)).trans hb3); clear ho3 hb3 hg3 hor3 bY hOA))
      exact ⟨⟨k + 1, q3, c3, us ++ [(q2, l.length, c2)], by omega, by go_num, rfl, by rw [List.length_append, unhide HUS]; rfl, HO3, HF3, unhide HB3⟩, by simp [intOf]; omega⟩
    · have ki1 : ¬ (k : Int) < (cs.length : Int) := by omega
      have hkl : k = cs.length := by omega
      subst hkl
      have HR := hide (show CjsFrom w.heap.size wr qm cm cs from fun x su => ⟨us, (unhide HO).ls.up (fun a e => (unhide HO).from a e) su, hus, (unhide HF) x su.1 (fun b o hb hlt _ => su.2 b o hb hlt)⟩)
      clear hbel
      go_wp2
      go_ret
      exact ⟨⟨qm, cm, rfl, unhide HR⟩, unhide HB⟩
end Go.Proofs.Ytcjkjhblmalbhaa
namespace Go.Proofs.Ytcjkjhblmalbhaa
open Go.RowKit Go.Sort

theorem Try.info55 : (Try.prog.info? 55).map (fun i => (i.zero, i.size, i.bytes)) = some (some (.agg #[.string ⟨#[]⟩, .int .i64 0, .int .i64 0, .string ⟨#[]⟩]), 4, 48) := by kernel_rfl
theorem rowP : RowOf encP 23 55 4 48 where
  und := Try.underlying23
  info := by
    obtain ⟨i0, hi, hz0, hz1, hz2⟩ := info_parts Try.info55
    exact ⟨i0, _, hi, hz0, hz1, hz2, rfl⟩
  pos := by decide
  one := one_flat (fun x c hc => by
    have hm : c = 0 ∨ c = 1 ∨ c = 2 ∨ c = 3 := by omega
    rcases hm with e | e | e | e <;> rw [e] <;> rfl) (by decide)
set_option maxRecDepth 100000 in
theorem eqlP_same (x : Pr) (w : World) : (binOp .eql 55 (.agg #[.string x.name, .int .i64 x.kind, .int .i64 x.int, .string x.word]) (.agg #[.string x.name, .int .i64 x.kind, .int .i64 x.int, .string x.word])).run Try.prog w = .ok (.bool true) w := by
  have u3 := Try.underlying3
  have a3 := Try.isAgg3
  have z3 := Try.sizeOf3
  have u9 := Try.underlying9
  have a9 := Try.isAgg9
  have z9 := Try.sizeOf9
  have a45 := Try.isAgg53
  have z45 := Try.sizeOf53
  have hS : Try.prog.underlying 55 = some (.struct (Try.prog.fieldsOf 55)) := by kernel_rfl
  have hp : Try.prog.stoodInHeld 55 = false := by kernel_rfl
  have h45 : (Op.equalIn 9999 53 (.agg #[.int .i64 x.kind, .int .i64 x.int, .string x.word]) (.agg #[.int .i64 x.kind, .int .i64 x.int, .string x.word])).run Try.prog w = .ok true w := by
    clear hS hp
    have hS45 : Try.prog.underlying 53 = some (.struct (Try.prog.fieldsOf 53)) := by kernel_rfl
    have hp45 : Try.prog.stoodInHeld 53 = false := by kernel_rfl
    rw [show (9999 : Nat) = 9998 + 1 from rfl, run_equalIn_agg w 9998 53 _ _ hS45 hp45]
    simp only [Program.fieldsOf, Try.underlying53]
    go_simp
  rw [run_eql_struct, show (10000 : Nat) = 9999 + 1 from rfl, run_equalIn_agg w 9999 55 _ _ hS hp]
  simp only [Program.fieldsOf, Try.underlying55]
  go_simp
set_option maxRecDepth 100000 in
theorem neqP_same (x : Pr) (w : World) : (binOp .neq 55 (.agg #[.string x.name, .int .i64 x.kind, .int .i64 x.int, .string x.word]) (.agg #[.string x.name, .int .i64 x.kind, .int .i64 x.int, .string x.word])).run Try.prog w = .ok (.bool false) w := by
  have u3 := Try.underlying3
  have a3 := Try.isAgg3
  have z3 := Try.sizeOf3
  have u9 := Try.underlying9
  have a9 := Try.isAgg9
  have z9 := Try.sizeOf9
  have a45 := Try.isAgg53
  have z45 := Try.sizeOf53
  have hS : Try.prog.underlying 55 = some (.struct (Try.prog.fieldsOf 55)) := by kernel_rfl
  have hp : Try.prog.stoodInHeld 55 = false := by kernel_rfl
  have h45 : (Op.equalIn 9999 53 (.agg #[.int .i64 x.kind, .int .i64 x.int, .string x.word]) (.agg #[.int .i64 x.kind, .int .i64 x.int, .string x.word])).run Try.prog w = .ok true w := by
    clear hS hp
    have hS45 : Try.prog.underlying 53 = some (.struct (Try.prog.fieldsOf 53)) := by kernel_rfl
    have hp45 : Try.prog.stoodInHeld 53 = false := by kernel_rfl
    rw [show (9999 : Nat) = 9998 + 1 from rfl, run_equalIn_agg w 9998 53 _ _ hS45 hp45]
    simp only [Program.fieldsOf, Try.underlying53]
    go_simp
  rw [run_neq_struct, show (10000 : Nat) = 9999 + 1 from rfl, run_equalIn_agg w 9999 55 _ _ hS hp]
  simp only [Program.fieldsOf, Try.underlying55]
  go_simp
/-- The pair that marks the spare room. -/
def spP : Pr := ⟨⟨#[115, 112, 97, 114, 101]⟩, 0, 0, ⟨#[]⟩⟩
theorem makeP (n : Nat) (h : n * 48 ≤ 140737488355328) : ∃ cur : Array Value, cur.size = n * 4 ∧ ∀ W : World, (Instr.makeSlice 23 (.int .i64 0) (.int .i64 (n : Int))).run Try.prog W = .ok (.slice (some ⟨W.heap.size, 0, none⟩) 0 n) (W.alloc (.cells cur 55)) := by
  obtain ⟨i0, hi, hz0, hz1, hz2⟩ := info_parts Try.info55
  refine ⟨madeCells (Value.agg #[.string ⟨#[]⟩, .int .i64 0, .int .i64 0, .string ⟨#[]⟩]).cells (n * i0.size), by rw [size_madeCells, hz1], fun W => ?_⟩
  have := run_make (P := Try.prog) W 23 55 i0 _ Try.underlying23 hi hz0 .i64 .i64 0 (n : Int) (Int.le_refl _) (by omega) (by rw [hz2]; omega) (by omega)
  simpa only [Int.toNat_zero, Int.toNat_natCast] using this
theorem ownP {B : Nat} {w : World} {n : Nat} {cur : Array Value} (hB : B ≤ w.heap.size) (hn : n ≤ maxLen) (hs : cur.size = n * 4) : OwnK encP 55 4 B (w.alloc (.cells cur 55)) (some ⟨w.heap.size, 0, none⟩) n [] := by
  have : (flatK encP 4 ([] : List Pr).toArray).toList = [] := by simp [flatK]
  unfold OwnK; rw [this]; exact World.ownsRow_made w cur n hB hn hs
theorem OwnP {B : Nat} {w : World} {q : Option Addr} {cap : Nat} {l : List Pr} (h : OwnK encP 55 4 B w q cap (l ++ [spP])) : ∃ g, q = some ⟨g, 0, none⟩ := by
  rcases h.2 with ⟨h0, _⟩ | ⟨g, cp, cur, hv, _⟩
  · injection h0 with _ h1; simp at h1
  · injection hv with h1; exact ⟨g, h1⟩
theorem pr_src {w : World} {M : Nat} {u : Pr} (h : w.heap[M]? = some (.cells #[.string u.name, .int .i64 u.kind, .int .i64 u.int, .string u.word] 55 (0, 0))) : SrcK encP 4 w (some ⟨M, 0, none⟩) 1 [u] :=
  ⟨(fun h => by cases h), fun ad hq j z hj => by
    cases hq
    rw [add_plain, Nat.zero_add]
    have hs := (List.getElem?_eq_some_iff.1 hj).1
    simp [flatK] at hs
    have hc : w.cell? ⟨M, j, none⟩ = (#[.string u.name, .int .i64 u.kind, .int .i64 u.int, .string u.word] : Array Value)[j]? := (by unfold World.cell?; simp [h])
    rw [hc]
    have e := flat_at (enc := encP) (k := 4) (l := [u]) (j := 0) (x := u) rfl j hs
    rw [Nat.zero_mul, Nat.zero_add] at e
    rw [e] at hj
    obtain rfl | rfl | rfl | rfl : j = 0 ∨ j = 1 ∨ j = 2 ∨ j = 3 := by omega
    all_goals exact hj⟩
set_option maxHeartbeats 1000000 in
set_option maxRecDepth 100000 in
theorem memP (q : Option Addr) (c : Nat) (l : List Pr) (w : World) (h : SlOf encP 4 w q c l) (hl : l.length * 48 + 64 ≤ 140737488355328) :
    Calls Try.prog 6 #[.slice q l.length c] w fun e w' => (∃ g cp, e = .returned (.slice (some ⟨g, 0, none⟩) l.length cp) ∧ OwnK encP 55 4 w.heap.size w' (some ⟨g, 0, none⟩) cp (l ++ [spP]) ∧ l.length + 1 ≤ cp) ∧ Below w.heap.size w w' := by
  have HS := hide h
  have l0 : (0 : Int) ≤ (l.length : Int) := by omega
  obtain ⟨cur, hcs, hmk⟩ := makeP (l.length + 1) (by omega)
  have hmk' : ∀ W : World, (Instr.makeSlice 23 (.int .i64 0) (.int .i64 ((l.length : Int) + 1))).run Try.prog W = .ok (.slice (some ⟨W.heap.size, 0, none⟩) 0 (l.length + 1)) (W.alloc (.cells cur 55)) := fun W => by have := hmk W; rwa [Int.natCast_add] at this
  have Hcs := hide hcs
  clear h hmk hcs
  go_enter Try.func6, Try.ntmps6
  go_wp2_with (first
    | (at_builtin; refine wpList_app rowP rfl _ _ rfl w.heap.size q8 cp8 l (some ⟨w8.heap.size, 0, none⟩) 1 [spP] l.length 1 (l.length + 1) rfl rfl rfl rfl rfl ((unhide Hown8).below ((Below.refl _ _).alloc (Nat.le_refl _) _)) (pr_src (box_nw _ _)) (by unfold maxLen; omega) (by omega) (by have := (unhide B8).size; simp; omega) ?_; intro q9 cp9 w9 hown9 hb9 hnn9 _; obtain ⟨g9, hg9⟩ := OwnP hown9; subst hg9; have hc9 := hown9.ls.2.1; have c9 : (l.length : Int) ≤ (cp9 : Int) := (by simp at hc9; omega); have Hown9 := hide hown9; have B9 := hide (((unhide B8).alloc (unhide B8).size _).trans hb9); clear hown9 hb9 hnn9)
    | (at_builtin; refine wpList_app rowP rfl _ _ rfl w.heap.size (some ⟨w.heap.size, 0, none⟩) (l.length + 1) [] q c l 0 l.length l.length rfl rfl (by simp) rfl rfl (ownP (Nat.le_refl _) (by unfold maxLen; omega) (unhide Hcs)) ((unhide HS).below ((Below.refl _ _).alloc (Nat.le_refl _) _)).src (by unfold maxLen; omega) (by omega) (by simp) ?_; intro q8 cp8 w8 hown8 hb8 _ _; have Hown8 := hide hown8; have B8 := hide (((Below.refl w.heap.size w).alloc (Nat.le_refl _) (.cells cur 55)).trans hb8); clear hown8 hb8))
  go_ret
  exact ⟨⟨g9, cp9, rfl, unhide Hown9, by simp at hc9; exact hc9⟩, unhide B9⟩
set_option maxHeartbeats 1000000 in
theorem sameP_eq (p p' : Option Addr) (cap cap' : Nat) (l : List Pr) (w : World) (hm : l.length ≤ 100000000000000) (hA : SlOf encP 4 w p cap l) (hA' : SlOf encP 4 w p' cap' l) :
    Calls Try.prog 30 #[.slice p l.length cap, .slice p' l.length cap'] w fun e w' => e = .returned (.bool true) ∧ Below w.heap.size w w' := by
  have HA := hide hA
  have HA' := hide hA'
  have hne := fun (x : Pr) (W : World) => neqP_same x W
  have hnn : ((l.length : Int) != (l.length : Int)) = false := by simp
  have a0 : (l.length : Int) ≤ 100000000000000 := by omega
  clear hA hA'
  go_enter Try.func30, Try.ntmps30
  go_wp2
  go_loopw [13] (fun i wr => ∃ k : Nat, k ≤ l.length ∧ i = .int .i64 k ∧ Below w.heap.size w wr) (fun i _ => l.length - (intOf i).toNat)
  case atStart => exact ⟨0, by omega, rfl, Below.refl _ _⟩
  case round =>
    obtain ⟨k, hk, rfl, hbel⟩ := hrel
    by_cases hlt : k < l.length
    · obtain ⟨x, hx, _⟩ := get_at hlt
      obtain ⟨bb, off, rfl, hbb, g0, g1, g2, g3⟩ := prsAt ((unhide HA).below hbel) hx
      obtain ⟨cc, off', rfl, hcc, c0, c1, c2, c3⟩ := prsAt ((unhide HA').below hbel) hx
      have ki0 : (0 : Int) ≤ (k : Int) := by omega
      have ki1 : (k : Int) < (l.length : Int) := by omega
      have hnx := hne x
      clear hx hne
      go_wp2
      go_quiet (fail)
      go_wp2
      go_roundw
      case rel => exact ⟨k + 1, by omega, by go_num, below_drewN hbel _⟩
      case measure => simp [intOf]; omega
    · obtain rfl : k = l.length := by omega
      go_wp2
      go_ret
      exact ⟨rfl, hbel⟩
set_option maxHeartbeats 1000000 in
set_option maxRecDepth 100000 in
theorem keptP (g cp : Nat) (p' : Option Addr) (cp' : Nat) (l : List Pr) (w : World) (hl : l.length ≤ 100000000000000) (hN : LsOf encP 4 w (some ⟨g, 0, none⟩) (l ++ [spP])) (hc : l.length + 1 ≤ cp) (hcm : cp ≤ maxLen) (hA' : SlOf encP 4 w p' cp' l) :
    Calls Try.prog 15 #[.slice (some ⟨g, 0, none⟩) l.length cp, .slice p' l.length cp'] w fun e w' => e = .returned (.bool true) ∧ Below w.heap.size w w' := by
  have mixed : Try.prog.follows .mixedOrders = true := by kernel_rfl
  have l0 : (0 : Int) ≤ (l.length : Int) := by omega
  have l1 : (0 : Int) ≤ (l.length : Int) + 1 := by omega
  have l2 : (l.length : Int) + 1 ≤ (cp : Int) := by omega
  have hAl : SlOf encP 4 w (some ⟨g, 0, none⟩) cp l := ⟨fun h => (by cases h), by omega, hcm, hN.take (by decide)⟩
  obtain ⟨b, off, hq, hlt, hcs⟩ := hN.at (j := l.length) (x := spP) (by simp)
  cases hq
  have c0 := hcs 0 (by omega)
  have c1 := hcs 1 (by omega)
  have c2 := hcs 2 (by omega)
  have c3 := hcs 3 (by omega)
  have heq := fun (W : World) => eqlP_same spP W
  simp only [Nat.zero_add, Nat.add_zero, spP] at c0 c1 c2 c3 heq
  simp only [encP, List.getElem!_cons_zero, List.getElem!_cons_succ] at c0 c1 c2 c3
  have hsame := sameP_eq (some ⟨g, 0, none⟩) p' cp cp' l w hl hAl hA'
  clear hN hA' hAl hcs
  go_enter Try.func15, Try.ntmps15
  go_wp2_with (first | (go_at_call 30; refine hsame.mono ?_; rintro e w1 ⟨rfl, b1⟩))
  go_ret
  exact ⟨rfl, b1⟩
/-- A row of the call's own, whatever it holds. -/
def RawI (B : Nat) (w : World) (q : Option Addr) (n cap : Nat) : Prop := ∃ xs, w.ownsRow B 3 1 (.slice q n cap) n xs
theorem RawI.cell {B : Nat} {w : World} {g n cap : Nat} (h : RawI B w (some ⟨g, 0, none⟩) n cap) (t : Nat) (ht : t < n * 1) : (∃ v, w.cell? ⟨g, t, none⟩ = some v) ∧ w.frozen? ⟨g, t, none⟩ = false := by
  obtain ⟨xs, h⟩ := h
  rcases h.2 with ⟨h0, _⟩ | ⟨g', cap', cur, hv, _, hblk, hc, _, hs, _⟩
  · cases h0
  · injection hv with h1 h2 h3
    cases h1
    have hlt : t < cur.size := by rw [hs]; omega
    exact ⟨⟨cur[t], by rw [cell_of_row w g t cur 3 (0, 0) hblk]; exact Array.getElem?_eq_getElem hlt⟩, frozen_free hblk⟩
theorem RawI.set {B : Nat} {w : World} {g n cap : Nat} (h : RawI B w (some ⟨g, 0, none⟩) n cap) (j : Nat) (u : Value) : RawI B (w.setCell ⟨g, j, none⟩ u) (some ⟨g, 0, none⟩) n cap := by
  obtain ⟨xs, h⟩ := h
  exact ⟨_, (h.stored j u).1⟩
theorem RawI.shape {B : Nat} {w : World} {q : Option Addr} {n cap : Nat} (h : RawI B w q n cap) : (q = none ∧ n = 0 ∧ cap = 0) ∨ ∃ g, q = some ⟨g, 0, none⟩ := by
  obtain ⟨xs, h⟩ := h
  rcases h.2 with ⟨h0, _⟩ | ⟨g', cap', cur, hv, _⟩
  · injection h0 with h1 h2 h3
    exact Or.inl ⟨h1, h2, h3⟩
  · injection hv with h1
    exact Or.inr ⟨g', h1⟩
theorem OwnK.rawI {B : Nat} {w : World} {q : Option Addr} {cap : Nat} {l : List Int} (h : OwnK encI 3 1 B w q cap l) : RawI B w q l.length cap := ⟨_, h⟩
theorem grown_two {w w1 w2 : World} {r r2 : Option Nat} (h : w.grownBy w1 r) (h2 : w1.grownBy w2 r2) (hr : ∀ k, r2 = some k → r = some k ∨ w.heap.size ≤ k) : w.grownBy w2 r :=
  ⟨h2.os.trans h.os, h2.tape.trans h.tape, h2.output.trans h.output, Nat.le_trans h.size h2.size, fun k hk hne => (h2.block k (Nat.lt_of_lt_of_le hk h.size) (fun e => by
    rcases hr k e.symm with h3 | h3
    · exact hne h3.symm
    · omega)).trans (h.block k hk hne)⟩
theorem grown_refl (w : World) (r : Option Nat) : w.grownBy w r := ⟨rfl, rfl, rfl, Nat.le_refl _, fun _ _ _ => rfl⟩
theorem grown_alloc (w : World) (o : Obj) (r : Option Nat) : w.grownBy (w.alloc o) r := World.grownBy_alloc w o r
theorem grown_setI {w w1 : World} {g : Nat} (h : w.grownBy w1 (some g)) (j : Nat) (u : Value) : w.grownBy (w1.setCell ⟨g, j, none⟩ u) (some g) := by
  have hb := (Below.refl 0 w1).setCell (p := ⟨g, j, none⟩) (Nat.zero_le _) u
  exact ⟨hb.os.trans h.os, hb.tape.trans h.tape, hb.output.trans h.output, Nat.le_trans h.size hb.size, fun k hk hne => (Below.heap_setCell _ _ _ _ (fun e => hne (by rw [e]))).trans (h.block k hk hne)⟩
def fiveI : Array Value := #[.int .i64 (-5), .int .i64 (-6)]
end Go.Proofs.Ytcjkjhblmalbhaa
namespace Go.Proofs.Ytcjkjhblmalbhaa
open Go.RowKit Go.Sort

theorem wt_tree (cs : List (List Lt)) : wtN (treeT cs) ≤ wtL (cs.map treeC) + 1 := by
  have e : (⟨#[]⟩ : ByteArray).size = 0 := rfl
  unfold treeT
  split
  · match cs.map treeC with
    | [] => simp [joinT, zeroT, wtN, wtL, wordsWt, e]
    | [x] => simp [joinT, wtL]
    | x :: y :: l => simp only [joinT, wtN, wordsWt, List.length_nil, e]; omega
  · simp [zeroT, wtN, wtL, wordsWt, e]
set_option maxRecDepth 100000 in
set_option maxHeartbeats 8000000 in
theorem dnfPlays_any (q : Option Addr) (c : Nat) (cs : List (List Lt)) (qe : Option Addr) (ce : Nat) (ev : List Pr) (w : World) (hl : CjsOf w q c cs) (he : SlOf encP 4 w qe ce ev) (wc : ∀ ls ∈ cs, ls.length ≤ 1000000000 ∧ wtL (ls.map litN) ≤ 400000000 ∧ litBound ls) (wt : wtL (cs.map treeC) ≤ 100000000) (ln : cs.length ≤ 1000000000) (l3 : ev.length ≤ 1000000000) :
    Calls Try.prog 3 #[.slice q cs.length c, .slice qe ev.length ce] w fun e w' => e = .returned (.bool true) ∧ Below w.heap.size w w' := by
  have mixed : Try.prog.follows .mixedOrders = true := by kernel_rfl
  have e7 : ∀ args w, (callFunc 7 args).run Try.prog w = .ok (.enter 7 args) w := enters_of Try.func7 (by kernel_rfl) rfl
  have e8 : ∀ args w, (callFunc 8 args).run Try.prog w = .ok (.enter 8 args) w := enters_of Try.func8 (by kernel_rfl) rfl
  have hb : ∀ ls ∈ cs, litBound ls ∧ ls.length ≤ 1000000000 := fun ls h => ⟨(wc ls h).2.2, (wc ls h).1⟩
  have a0 : (cs.length : Int) ≤ 1000000000 := by omega
  have HL := hide hl
  have HE := hide he
  have HBD := hide hb
  have HWC := hide wc
  clear hl he hb wc
  go_enter Try.func3, Try.ntmps3
  go_wp2_with (first
    | (go_at_call 4; refine (fixed8_any w).mono ?_; rintro e w1 ⟨rfl, b1⟩; have B1 := hide b1; clear b1)
    | (go_at_call 5; refine (copies_any q c cs w1 ((unhide HL).below (unhide B1)) (unhide HBD) ln).mono ?_; rintro e w2 ⟨⟨q1, c1, rfl, hm⟩, b2⟩; have HM2 := hide hm.now; have B2 := hide (below_sub (unhide B1) b2); clear hm b2)
    | (go_at_call 6; refine (memP qe ce ev w2 ((unhide HE).below (unhide B2)) (by omega)).mono ?_; rintro e w3 ⟨⟨g, cp, rfl, ho, hcp⟩, b3⟩; have HO := hide ho; have HCP := hide hcp; have HM := hide ((unhide HM2).below b3); have B3 := hide (below_sub (unhide B2) b3); clear ho hcp b3 HM2))
  have HPR := hide (show SlOf encP 4 w3 (some ⟨g, 0, none⟩) cp ev from ⟨(fun h => by cases h), (by have := unhide HCP; omega), (unhide HO).ls.2.2.1, (unhide HO).ls.2.2.2.take (by decide)⟩)
  go_loopw [21] (fun i wr => ∃ k : Nat, k ≤ cs.length ∧ i = .int .i64 k ∧ Below w3.heap.size w3 wr) (fun i _ => cs.length - (intOf i).toNat)
  case atStart => exact ⟨0, by omega, rfl, Below.refl _ _⟩
  case round =>
    obtain ⟨k, hk, rfl, hbel⟩ := hrel
    obtain ⟨U, rfl⟩ : ∃ U, U = wr := ⟨_, rfl⟩
    have HB := hide hbel
    by_cases hlt : k < cs.length
    · obtain ⟨ls, hx, hxd⟩ := get_at hlt
      clear hxd
      obtain ⟨b1, off1, qa, ca, hq1, hb1, hla, g1⟩ := ((unhide HM).below hbel).at hx
      subst hq1
      obtain ⟨b2, off2, qb, cb, hq2, hb2, hlb, g2⟩ := (((unhide HL).below (unhide B3)).below hbel).at hx
      subst hq2
      have hbd := unhide HBD ls (List.mem_of_getElem? hx)
      have ki0 : (0 : Int) ≤ (k : Int) := by omega
      have ki1 : (k : Int) < (cs.length : Int) := by omega
      have q7 := fun (n : Nat) (os : Array Obj) => dnfHolds_any (some ⟨g, 0, none⟩) cp ev qa ca ls (grow (redrawn U n) os) (((unhide HPR).below (unhide HB)).below (below_regrown U n os)) (hla.below (below_regrown U n os)) hbd.1 (by omega) hbd.2
      have q8 := fun (n : Nat) (os : Array Obj) => refHolds8_any qe ce ev qb cb ls (grow (redrawn U n) os) ((((unhide HE).below (unhide B3)).below (unhide HB)).below (below_regrown U n os)) (hlb.below (below_regrown U n os)) hbd.1 (by omega) hbd.2
      obtain ⟨D, hD⟩ : ∃ D, ls.all (ltH ev) = D := ⟨_, rfl⟩
      rw [hD] at q7 q8
      have r2 := cell_regrown g2
      have DD : (D != D) = false := by simp
      clear hD hla hlb hbd hx hbel
      go_wp2
      refine wp_region_quiet_below (by assumption) (by kernel_rfl) ?_
      repeat (go_big_quiet_step (first
        | (go_at_fn 7; refine Calls.regrown_of (q7 _ _))
        | (go_at_fn 8; refine Calls.regrown_of (q8 _ _))))
      refine wpQuiet_nil ?_
      intro w4 hw'
      obtain ⟨⟨dq2, osq2⟩, hw''⟩ := hw'
      have b4 := below_regrown U dq2 osq2
      dsimp only at hw''
      rw [← hw''] at b4
      have HB4 := hide (below_sub (unhide HB) b4)
      clear hw'' b4 q7 q8 r2 g1 g2
      go_wp2
      go_roundw
      case rel => exact ⟨k + 1, by omega, by go_num, unhide HB4⟩
      case measure => simp [intOf]; omega
    · have ki1 : ¬ (k : Int) < (cs.length : Int) := by omega
      have hT := tree_any q1 c1 cs U ((unhide HM).below hbel) (fun ls h => ⟨(unhide HWC ls h).1, (unhide HWC ls h).2.1⟩) (by omega) ln
      have hww := wt_tree cs
      have BU := hide (below_sub (unhide B3) hbel)
      clear hbel
      simp only [Nv.val] at hT
      generalize hE : treeE cs = E at *
      have h10 := fun (W : World) (hW : Below w.heap.size w W) => refTree_any q c cs W ((unhide HL).below hW) (unhide HBD) ln
      rw [hE] at h10
      simp only [Nv.val] at h10
      clear hE
      go_wp2_with (first
        | (go_at_call 9; refine hT.mono ?_; rintro e w5 ⟨⟨va, rfl, na⟩, b5⟩; simp only; have NA := hide na.toIn; have B5 := hide b5; clear na b5; obtain ⟨Y, HY⟩ : ∃ Y, w5.alloc (.cells #[.int .i64 va.kind, .string va.attr, .slice va.qi va.ni va.ci, .slice va.qw va.nw va.cw, .int .i64 va.lo, .int .i64 va.hi, .int .i64 va.op, .slice va.qk va.nk va.ck] 36) = Y := ⟨_, rfl⟩; have bY : Below w5.heap.size w5 Y := (by rw [← HY]; exact (Below.refl _ _).alloc (Nat.le_refl _) _); have yk : Y.heap[w5.heap.size]? = some (.cells #[.int .i64 va.kind, .string va.attr, .slice va.qi va.ni va.ci, .slice va.qw va.nw va.cw, .int .i64 va.lo, .int .i64 va.hi, .int .i64 va.op, .slice va.qk va.nk va.ck] 36 (0, 0)) := (by rw [← HY]; exact box_nw _ _); have ylt := heap_lt yk; have BY := hide (below_sub (unhide B5) bY); have NAY := hide ((unhide NA).keep bY); have YK := hide yk; clear bY yk)
        | (go_at_call 10; refine (h10 Y (below_sub (unhide BU) (unhide BY))).mono ?_; rintro e w6 ⟨⟨vb, rfl, nb⟩, b6⟩; simp only; have NB := hide nb; have B6 := hide b6; have s6 := b6.size; clear nb b6; obtain ⟨Z, HZ⟩ : ∃ Z, w6.alloc (.cells #[.int .i64 vb.kind, .string vb.attr, .slice vb.qi vb.ni vb.ci, .slice vb.qw vb.nw vb.cw, .int .i64 vb.lo, .int .i64 vb.hi, .int .i64 vb.op, .slice vb.qk vb.nk vb.ck] 36) = Z := ⟨_, rfl⟩; have bZ : Below w6.heap.size w6 Z := (by rw [← HZ]; exact (Below.refl _ _).alloc (Nat.le_refl _) _); have zk : Z.heap[w6.heap.size]? = some (.cells #[.int .i64 vb.kind, .string vb.attr, .slice vb.qi vb.ni vb.ci, .slice vb.qw vb.nw vb.cw, .int .i64 vb.lo, .int .i64 vb.hi, .int .i64 vb.op, .slice vb.qk vb.nk vb.ck] 36 (0, 0)) := (by rw [← HZ]; exact box_nw _ _); have zlt := heap_lt zk; have BZY := hide (below_sub (unhide B6) bZ); have NBZ := hide ((unhide NB).keep bZ); have NAZ := hide ((unhide NAY).keep (unhide BZY)); have yz := (((unhide BZY)).block _ ylt).trans (unhide YK); have YZ := hide yz; have ZK := hide zk; have BZ := hide (below_sub (unhide BY) (unhide BZY)); have hylz := heap_lt yz; clear bZ zk yz)
        | (go_at_call 11; refine (dnfAny_any (some ⟨g, 0, none⟩) cp ev q1 c1 cs Z ((unhide HPR).below (below_sub (unhide HB) (unhide BZ))) ((unhide HM).below (below_sub (unhide HB) (unhide BZ))) (unhide HBD) (by omega) ln).mono ?_; rintro e w7 ⟨rfl, b7⟩; have B7 := hide b7; clear b7)
        | (go_at_call 12; refine (refAny8_any qe ce ev q c cs w7 ((unhide HE).below (below_sub (unhide BU) (below_sub (unhide BZ) (unhide B7)))) ((unhide HL).below (below_sub (unhide BU) (below_sub (unhide BZ) (unhide B7)))) (unhide HBD) (by omega) ln).mono ?_; rintro e w8 ⟨rfl, b8⟩; have B8 := hide (below_sub (unhide B7) b8); clear b8; (obtain ⟨m0, m1, m2, m3, m4, m5, m6, m7⟩ := of8' (((unhide B8).block _ hylz).trans (unhide YZ))); (obtain ⟨n0, n1, n2, n3, n4, n5, n6, n7⟩ := of8' (((unhide B8).block _ zlt).trans (unhide ZK))); have AA : (anyC ev cs == anyC ev cs) = true := (by simp))
        | (go_at_call 13; refine (show Calls Try.prog 13 _ w8 _ from sameM_all (treeT cs) (treeT cs) va vb w8 ((unhide NAZ).keep (unhide B8)) ((unhide NBZ).keep (unhide B8)) (OkN.of_wt _ (by omega))).mono ?_; rintro e w9 ⟨rfl, b9⟩; rw [sameT_yes rfl]; have B9 := hide (below_sub (unhide B8) b9); clear b9)
        | (go_at_call 14; refine (sameCj_eq q1 c1 q c cs w9 ((unhide HM).below (below_sub (unhide HB) (below_sub (unhide BZ) (unhide B9)))) ((unhide HL).below (below_sub (unhide BU) (below_sub (unhide BZ) (unhide B9)))) (unhide HBD) ln).mono ?_; rintro e w10 ⟨rfl, b10⟩; have B10 := hide (below_sub (unhide B9) b10); clear b10)
        | (go_at_call 15; refine (keptP g cp qe ce ev w10 (by omega) (((unhide HO).below (below_sub (unhide HB) (below_sub (unhide BZ) (unhide B10)))).ls.2.2.2) (unhide HCP) (unhide HO).ls.2.2.1 ((unhide HE).below (below_sub (unhide BU) (below_sub (unhide BZ) (unhide B10))))).mono ?_; rintro e w11 ⟨rfl, b11⟩; have B11 := hide (below_sub (unhide B10) b11); clear b11))
      go_ret
      exact ⟨rfl, below_sub (unhide BU) (below_sub (unhide BZ) (unhide B11))⟩
end Go.Proofs.Ytcjkjhblmalbhaa

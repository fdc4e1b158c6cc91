/- What the reference's Sum and Product return. -/
import Derived.Test.YtmpdfgebhpfhhaaDnfHolds
import Derived.Test.YtmpdfgebhpfhhaaDnfTree
import Derived.Test.YtmpdfgebhpfhhaaDnfExpand
import Derived.Test.YtmpdfgebhpfhhaaKept
import Derived.Shelf.Abstract
import Derived.Lib.QuietBelow
import Derived.Test.YtmpdfgebhpfhhaaDnfFixed
import Derived.Test.YtmpdfgebhpfhhaaMemNode
import Derived.Test.YtmpdfgebhpfhhaaPushSum
namespace Go.Proofs.Ytmpdfgebhpfhhaa
open Go.RowKit Go.Sort

theorem cross_cons (x : List Lt) (a b : List (List Lt)) : crossL (x :: a) b = b.map (fun y => x ++ y) ++ crossL a b := by simp [crossL]
theorem cross_app (a a' b : List (List Lt)) : crossL (a ++ a') b = crossL a b ++ crossL a' b := by simp [crossL]
theorem cross_one (b : List (List Lt)) : crossL [[]] b = b := by simp [crossL]
theorem cross_end (a : List (List Lt)) : crossL a [[]] = a := by
  induction a with
  | nil => rfl
  | cons x a ih => rw [cross_cons, ih]; simp
theorem cross_map (x : List Lt) (b c : List (List Lt)) : crossL (b.map (fun y => x ++ y)) c = (crossL b c).map (fun y => x ++ y) := by
  induction b with
  | nil => rfl
  | cons y b ih => rw [List.map_cons, cross_cons, cross_cons, ih, List.map_append, List.map_map]; simp [Function.comp_def]
theorem cross_assoc (a b c : List (List Lt)) : crossL (crossL a b) c = crossL a (crossL b c) := by
  induction a with
  | nil => rfl
  | cons x a ih => rw [cross_cons, cross_app, cross_map, cross_cons, ih]
theorem prod_snoc (l : List Nd) (x : Nd) : cjProd (l ++ [x]) = crossL (cjProd l) (cjN x) := by
  induction l with
  | nil => simp only [List.nil_append, cjProd]; rw [cross_end, cross_one]
  | cons y l ih => simp only [List.cons_append, cjProd]; rw [ih, cross_assoc]
/-- What stands at a place of an And, seen from its last kid. -/
theorem prod_last (l : List Nd) (x : Nd) (p : Nat) (hp : p < (cjProd (l ++ [x])).length) :
    ∃ c d, (cjProd l)[p / (cjN x).length]? = some c ∧ (cjN x)[p % (cjN x).length]? = some d ∧ (cjProd (l ++ [x]))[p]? = some (c ++ d) := by
  rw [prod_snoc, cross_len] at hp
  have hpos : 0 < (cjN x).length := by
    rcases Nat.eq_zero_or_pos (cjN x).length with h | h
    · rw [h, Nat.mul_zero] at hp; omega
    · exact h
  have h1 : p / (cjN x).length < (cjProd l).length := (Nat.div_lt_iff_lt_mul hpos).2 hp
  have h2 : p % (cjN x).length < (cjN x).length := Nat.mod_lt _ hpos
  refine ⟨_, _, List.getElem?_eq_getElem h1, List.getElem?_eq_getElem h2, ?_⟩
  have := cross_get (cjProd l) (cjN x) _ _ _ _ (List.getElem?_eq_getElem h1) (List.getElem?_eq_getElem h2)
  rw [prod_snoc]
  rw [Nat.mul_comm, Nat.div_add_mod] at this
  exact this
end Go.Proofs.Ytmpdfgebhpfhhaa
namespace Go.Proofs.Ytmpdfgebhpfhhaa
open Go.RowKit Go.Sort

theorem zero_parts {kind : Int} {attr : ByteArray} {ints : List Int} {words : List ByteArray} {lo hi : Int} (h : zeroB kind attr ints.length words.length lo hi = true) : kind = 0 ∧ attr = ⟨#[]⟩ ∧ ints = [] ∧ words = [] ∧ lo = 0 ∧ hi = 0 := by
  unfold zeroB at h
  simp only [emptyB, Bool.and_eq_true, decide_eq_true_eq] at h
  obtain ⟨h1, h2, h3, h4, h5, h6⟩ := h
  exact ⟨h1, bytes_of_size h2, List.length_eq_zero_iff.1 h3, List.length_eq_zero_iff.1 h4, h5, h6⟩
theorem down_id : ∀ t, chkN t = true → atN t = true → downN t false = t := by
  intro t
  induction t using Nd.ind with
  | h kind attr ints words lo hi op kids ih =>
    intro hch hat
    simp only [chkN, Bool.and_eq_true] at hch
    obtain ⟨hn, hc⟩ := hch
    unfold nodeB at hn
    by_cases o1 : op = 1
    · subst o1
      rw [if_pos rfl, Bool.and_eq_true] at hn
      obtain rfl := List.length_eq_zero_iff.1 (of_decide_eq_true hn.2)
      simp [downN, litT]
    · rw [if_neg o1] at hn
      by_cases o2 : op = 2
      · subst o2
        rw [if_pos rfl, Bool.and_eq_true] at hn
        obtain ⟨x, rfl⟩ := List.length_eq_one_iff.1 (of_decide_eq_true hn.2)
        obtain ⟨rfl, rfl, rfl, rfl, rfl, rfl⟩ := zero_parts hn.1
        obtain ⟨k2, a2, i2, w2, l2, h2, o2, ks2⟩ := x
        simp only [atN, if_true, headPred, opN] at hat
        have hat := of_decide_eq_true hat
        subst hat
        have hx := chkL_mem hc (x := .mk k2 a2 i2 w2 l2 h2 1 ks2) (by simp)
        simp only [chkN, Bool.and_eq_true] at hx
        have hx1 := hx.1
        unfold nodeB at hx1
        rw [if_pos rfl, Bool.and_eq_true] at hx1
        obtain rfl := List.length_eq_zero_iff.1 (of_decide_eq_true hx1.2)
        simp [downN, downH, litT, notT]
      · have ho : op = 3 ∨ op = 4 := by
          by_cases o3 : op = 3
          · exact Or.inl o3
          · by_cases o4 : op = 4
            · exact Or.inr o4
            · rw [if_neg o2, if_neg (by omega)] at hn; cases hn
        rw [if_neg o2, if_pos ho, Bool.and_eq_true] at hn
        obtain ⟨rfl, rfl, rfl, rfl, rfl, rfl⟩ := zero_parts hn.1
        rw [down_34 ho]
        have hA : ∀ x ∈ kids, atN x = true := atL_all (by rcases ho with rfl | rfl <;> simpa [atN] using hat)
        have hD : ∀ l : List Nd, (∀ x ∈ l, downN x false = x) → downL l false = l := by
          intro l
          induction l with
          | nil => intro _; rfl
          | cons a l ihl => intro h; simp only [downL]; rw [h a (by simp), ihl (fun x hx => h x (by simp [hx]))]
        rw [hD kids (fun x hx => ih x hx (chkL_mem hc hx) (hA x hx))]
        simp
end Go.Proofs.Ytmpdfgebhpfhhaa
namespace Go.Proofs.Ytmpdfgebhpfhhaa
open Go.RowKit Go.Sort

theorem LitsOf.at7 {w : World} {q : Option Addr} {c : Nat} {ls : List Lt} {j : Nat} {l : Lt} (h : LitsOf w q c ls) (hj : ls[j]? = some l) :
    ∃ b off u, q = some ⟨b, off, none⟩ ∧ b < w.heap.size ∧ SlOf encI 1 w (Lv.qi u) u.ci l.ints ∧ SlOf encS 1 w u.qw u.cw l.words ∧ w.cell? ⟨b, off + j * 7, none⟩ = some (.int .i64 l.kind) ∧ w.cell? ⟨b, off + j * 7 + 1, none⟩ = some (.string l.attr) ∧ w.cell? ⟨b, off + j * 7 + 2, none⟩ = some (.slice u.qi l.ints.length u.ci) ∧ w.cell? ⟨b, off + j * 7 + 3, none⟩ = some (.slice u.qw l.words.length u.cw) ∧ w.cell? ⟨b, off + j * 7 + 4, none⟩ = some (.int .i64 l.lo) ∧ w.cell? ⟨b, off + j * 7 + 5, none⟩ = some (.int .i64 l.hi) ∧ w.cell? ⟨b, off + j * 7 + 6, none⟩ = some (.bool l.neg) := by
  obtain ⟨b, off, u, hq, hb, ⟨h1, h2, h3, h4, h5, h6, h7, h8, h9⟩, g0, g1, g2, g3, g4, g5, g6⟩ := h.at hj
  rw [h1] at g0
  rw [h2] at g1
  rw [h3] at g2
  rw [h4] at g3
  rw [h5] at g4
  rw [h6] at g5
  rw [h7] at g6
  exact ⟨b, off, u, hq, hb, h8, h9, g0, g1, g2, g3, g4, g5, g6⟩
set_option maxRecDepth 100000 in
set_option maxHeartbeats 4000000 in
theorem sameLits_eq (q : Option Addr) (c : Nat) (q' : Option Addr) (c' : Nat) (ls : List Lt) (w : World) (h1 : LitsOf w q c ls) (h2 : LitsOf w q' c' ls) (hb : litBound ls) (ln : ls.length ≤ 1000000000) :
    Calls Try.prog 25 #[.slice q ls.length c, .slice q' ls.length c'] w fun e w' => e = .returned (.bool true) ∧ Below w.heap.size w w' := by
  have mixed : Try.prog.follows .mixedOrders = true := by kernel_rfl
  have en68 : ∀ args w, (callFunc 46 args).run Try.prog w = .ok (.enter 46 args) w := enters_of Try.func46 (by kernel_rfl) rfl
  have H1 := hide h1
  have H2 := hide h2
  have HBD := hide hb
  have hnn : ((ls.length : Int) != (ls.length : Int)) = false := by simp
  have a0 : (ls.length : Int) ≤ 1000000000 := by omega
  clear h1 h2 hb
  go_enter Try.func25, Try.ntmps25
  go_wp2
  go_loopw [13] (fun i wr => ∃ k : Nat, k ≤ ls.length ∧ i = .int .i64 k ∧ Below w.heap.size w wr) (fun i _ => ls.length - (intOf i).toNat)
  case atStart => exact ⟨0, by omega, rfl, Below.refl _ _⟩
  case round =>
    obtain ⟨k, hk, rfl, hbel⟩ := hrel
    have HB := hide hbel
    by_cases hlt : k < ls.length
    · obtain ⟨l, hx, hd⟩ := get_at hlt
      clear hd
      obtain ⟨b, off, u, hq, hbb, s1, t1, g0, g1, g2, g3, g4, g5, g6⟩ := ((unhide H1).below hbel).at7 hx
      obtain ⟨b', off', u', hq', hbb', s2, t2, f0, f1, f2, f3, f4, f5, f6⟩ := ((unhide H2).below hbel).at7 hx
      subst hq hq'
      obtain ⟨m1, m2⟩ := unhide HBD l (List.mem_of_getElem? hx)
      have ki0 : (0 : Int) ≤ (k : Int) := by omega
      have ki1 : (k : Int) < (ls.length : Int) := by omega
      have hn2 : (l.neg != l.neg) = false := by simp
      have q68 := fun (n : Nat) (os : Array Obj) => samePred_eq l.kind l.attr l.ints l.words l.lo l.hi u.qi u.ci u.qw u.cw u'.qi u'.ci u'.qw u'.cw (grow (redrawn wr n) os) (s1.below (below_regrown wr n os)) (s2.below (below_regrown wr n os)) (t1.below (below_regrown wr n os)) (t2.below (below_regrown wr n os)) (by omega) (by omega)
      have G0 : ∀ n os, (grow (redrawn wr n) os).cell? ⟨b, off + k * 7, none⟩ = some _ := cell_regrown g0
      have F0 : ∀ n os, (grow (redrawn wr n) os).cell? ⟨b', off' + k * 7, none⟩ = some _ := cell_regrown f0
      have G1 : ∀ n os, (grow (redrawn wr n) os).cell? ⟨b, off + k * 7 + 1, none⟩ = some _ := cell_regrown g1
      have F1 : ∀ n os, (grow (redrawn wr n) os).cell? ⟨b', off' + k * 7 + 1, none⟩ = some _ := cell_regrown f1
      have G2 : ∀ n os, (grow (redrawn wr n) os).cell? ⟨b, off + k * 7 + 2, none⟩ = some _ := cell_regrown g2
      have F2 : ∀ n os, (grow (redrawn wr n) os).cell? ⟨b', off' + k * 7 + 2, none⟩ = some _ := cell_regrown f2
      have G3 : ∀ n os, (grow (redrawn wr n) os).cell? ⟨b, off + k * 7 + 3, none⟩ = some _ := cell_regrown g3
      have F3 : ∀ n os, (grow (redrawn wr n) os).cell? ⟨b', off' + k * 7 + 3, none⟩ = some _ := cell_regrown f3
      have G4 : ∀ n os, (grow (redrawn wr n) os).cell? ⟨b, off + k * 7 + 4, none⟩ = some _ := cell_regrown g4
      have F4 : ∀ n os, (grow (redrawn wr n) os).cell? ⟨b', off' + k * 7 + 4, none⟩ = some _ := cell_regrown f4
      have G5 : ∀ n os, (grow (redrawn wr n) os).cell? ⟨b, off + k * 7 + 5, none⟩ = some _ := cell_regrown g5
      have F5 : ∀ n os, (grow (redrawn wr n) os).cell? ⟨b', off' + k * 7 + 5, none⟩ = some _ := cell_regrown f5
      have G6 : ∀ n os, (grow (redrawn wr n) os).cell? ⟨b, off + k * 7 + 6, none⟩ = some _ := cell_regrown g6
      have F6 : ∀ n os, (grow (redrawn wr n) os).cell? ⟨b', off' + k * 7 + 6, none⟩ = some _ := cell_regrown f6
      clear s1 s2 t1 t2 g0 g1 g2 g3 g4 g5 g6 f0 f1 f2 f3 f4 f5 f6 hbel hx
      go_wp2
      refine wp_region_quiet_below (by assumption) (by kernel_rfl) ?_
      repeat (go_big_quiet_step (first | (go_at_fn 46; refine Calls.regrown_of (q68 _ _))))
      refine wpQuiet_nil ?_
      intro _ hw'
      obtain ⟨⟨dq, osq⟩, hw''⟩ := hw'
      subst hw''
      go_wp2
      exact ⟨⟨k + 1, by omega, by go_num, below_sub (unhide HB) (below_regrown _ _ _)⟩, by simp [intOf]; omega⟩
    · have ki1 : ¬ (k : Int) < (ls.length : Int) := by omega
      go_wp2
      go_ret
      exact ⟨rfl, unhide HB⟩
set_option maxRecDepth 100000 in
set_option maxHeartbeats 4000000 in
theorem sameCj_eq (q : Option Addr) (c : Nat) (q' : Option Addr) (c' : Nat) (cs : List (List Lt)) (w : World) (h1 : CjsOf w q c cs) (h2 : CjsOf w q' c' cs) (hb : ∀ ls ∈ cs, litBound ls ∧ ls.length ≤ 1000000000) (ln : cs.length ≤ 1000000000) :
    Calls Try.prog 8 #[.slice q cs.length c, .slice q' cs.length c'] w fun e w' => e = .returned (.bool true) ∧ Below w.heap.size w w' := by
  have mixed : Try.prog.follows .mixedOrders = true := by kernel_rfl
  have en70 : ∀ args w, (callFunc 25 args).run Try.prog w = .ok (.enter 25 args) w := enters_of Try.func25 (by kernel_rfl) rfl
  have H1 := hide h1
  have H2 := hide h2
  have HBD := hide hb
  have hnn : ((cs.length : Int) != (cs.length : Int)) = false := by simp
  have a0 : (cs.length : Int) ≤ 1000000000 := by omega
  clear h1 h2 hb
  go_enter Try.func8, Try.ntmps8
  go_wp2
  go_loopw [13] (fun i wr => ∃ k : Nat, k ≤ cs.length ∧ i = .int .i64 k ∧ Below w.heap.size w wr) (fun i _ => cs.length - (intOf i).toNat)
  case atStart => exact ⟨0, by omega, rfl, Below.refl _ _⟩
  case round =>
    obtain ⟨k, hk, rfl, hbel⟩ := hrel
    have HB := hide hbel
    by_cases hlt : k < cs.length
    · obtain ⟨ls, hx, hd⟩ := get_at hlt
      clear hd
      obtain ⟨b, off, q1, c1, hq, hbb, l1, g0⟩ := ((unhide H1).below hbel).at hx
      obtain ⟨b', off', q2, c2, hq', hbb', l2, f0⟩ := ((unhide H2).below hbel).at hx
      subst hq hq'
      obtain ⟨m1, m2⟩ := unhide HBD ls (List.mem_of_getElem? hx)
      have ki0 : (0 : Int) ≤ (k : Int) := by omega
      have ki1 : (k : Int) < (cs.length : Int) := by omega
      have q70 := fun (n : Nat) (os : Array Obj) => sameLits_eq q1 c1 q2 c2 ls (grow (redrawn wr n) os) (l1.below (below_regrown wr n os)) (l2.below (below_regrown wr n os)) m1 m2
      have G0 : ∀ n os, (grow (redrawn wr n) os).cell? ⟨b, off + k, none⟩ = some _ := cell_regrown g0
      have F0 : ∀ n os, (grow (redrawn wr n) os).cell? ⟨b', off' + k, none⟩ = some _ := cell_regrown f0
      clear l1 l2 g0 f0 hbel hx m1
      go_wp2
      refine wp_region_quiet_below (by assumption) (by kernel_rfl) ?_
      repeat (go_big_quiet_step (first | (go_at_fn 25; refine Calls.regrown_of (q70 _ _))))
      refine wpQuiet_nil ?_
      intro _ hw'
      obtain ⟨⟨dq, osq⟩, hw''⟩ := hw'
      subst hw''
      go_wp2
      exact ⟨⟨k + 1, by omega, by go_num, below_sub (unhide HB) (below_regrown _ _ _)⟩, by simp [intOf]; omega⟩
    · have ki1 : ¬ (k : Int) < (cs.length : Int) := by omega
      go_wp2
      go_ret
      exact ⟨rfl, unhide HB⟩
end Go.Proofs.Ytmpdfgebhpfhhaa
namespace Go.Proofs.Ytmpdfgebhpfhhaa
open Go.RowKit Go.Sort

theorem exp_none {t : Nd} {m : Int} (h : expE t m ≠ 0) : expC t m = [] := by unfold expC; rw [if_neg h]
theorem exp_yes {t : Nd} {m : Int} (h : expE t m = 0) : chkN t = true ∧ 1 ≤ m ∧ m ≤ 64 ∧ ((cjN (downN t false)).length : Int) ≤ m ∧ 1 ≤ (cjN (downN t false)).length ∧ expC t m = cjN (downN t false) := by
  unfold expE at h
  by_cases e0 : WidthE t m = 0
  · rw [if_pos e0] at h
    by_cases e1 : WidthA t m > m
    · rw [if_pos e1] at h; cases h
    · obtain ⟨a1, a2, a3, a4, a5, a6, a7⟩ := exp_ok e0 e1
      have hd := chk_down t false a1
      have h1 := (wid_min (m := 64) (by omega) (by omega) _ hd).2
      have h2 := (cj_all [] _ hd (at_down t false a1)).1
      exact ⟨a1, a2, a3, by omega, by omega, a7⟩
  · rw [if_neg e0] at h; exact absurd h e0
theorem LitsOf.take {w : World} {q : Option Addr} {c : Nat} {l m : List Lt} (h : LitsOf w q c (l ++ m)) : LitsOf w q c l := by
  obtain ⟨us, h1, h2, h3⟩ := h
  rw [List.length_append] at h2
  have e : us = us.take l.length ++ us.drop l.length := (List.take_append_drop _ _).symm
  have hl : (us.take l.length).length = l.length := by rw [List.length_take]; omega
  refine ⟨us.take l.length, ⟨fun hq => ?_, by have := h1.2.1; omega, h1.2.2.1, ?_⟩, hl, fun j u x hj hx => ?_⟩
  · have := h1.1 hq; omega
  · have := h1.2.2.2
    rw [e] at this
    exact this.take (by decide)
  · have hjl : j < l.length := (List.getElem?_eq_some_iff.1 hx).1
    rw [List.getElem?_take_of_lt hjl] at hj
    exact h3 j u x hj (by rw [List.getElem?_append_left hjl]; exact hx)
theorem LitsOf.drop {w : World} {b off c : Nat} {l m : List Lt} (h : LitsOf w (some ⟨b, off, none⟩) c (l ++ m)) : LitsOf w (some ⟨b, off + l.length * 7, none⟩) (c - l.length) m := by
  obtain ⟨us, h1, h2, h3⟩ := h
  rw [List.length_append] at h2
  have e : us = us.take l.length ++ us.drop l.length := (List.take_append_drop _ _).symm
  have hl : (us.take l.length).length = l.length := by rw [List.length_take]; omega
  have hd : (us.drop l.length).length = m.length := by rw [List.length_drop]; omega
  have hc := h1.2.1
  have hm := h1.2.2.1
  refine ⟨us.drop l.length, ⟨fun hq => (by cases hq), by omega, by omega, fun h0 => ?_⟩, hd, fun j u x hj hx => ?_⟩
  · obtain ⟨b', off', hq, hlt, hcc⟩ := h1.2.2.2 (by omega)
    cases hq
    refine ⟨b, off + l.length * 7, rfl, hlt, fun j u hj => ?_⟩
    have := hcc (l.length * 7 + j) u (by
      rw [e, flat_app encL 7 (by decide), List.getElem?_append_right (by simp [flatK, hl]), show (flatK encL 7 (us.take l.length).toArray).toList.length = l.length * 7 by simp [flatK, hl], Nat.add_sub_cancel_left]
      exact hj)
    rw [Nat.add_assoc]
    exact this
  · rw [List.getElem?_drop] at hj
    exact h3 (l.length + j) u x hj (by rw [List.getElem?_append_right (by omega), Nat.add_sub_cancel_left]; exact hx)
theorem rowQ : RowOf encQ 31 45 1 24 where
  und := Try.underlying31
  info := by
    obtain ⟨i0, hi, hz0, hz1, hz2⟩ := info_parts Try.info45
    exact ⟨i0, _, hi, hz0, hz1, hz2, rfl⟩
  pos := by decide
  one := one_flat (fun x c hc => by
    obtain rfl : c = 0 := by omega
    rfl) (by decide)
end Go.Proofs.Ytmpdfgebhpfhhaa
namespace Go.Proofs.Ytmpdfgebhpfhhaa
open Go.RowKit Go.Sort

theorem q_src {W : World} {M : Nat} (u : Option Addr × Nat × Nat) (hM : W.heap.size = M) : SrcK encQ 1 (W.alloc (.cells #[.slice u.1 u.2.1 u.2.2] 45)) (some ⟨M, 0, none⟩) 1 [u] := by
  subst hM
  have hb := box_nw W (.cells #[.slice u.1 u.2.1 u.2.2] 45)
  refine LsOf.src (fun h => by cases h) (LsOf.one (by rw [size_al]; omega) fun c hc => ?_)
  obtain rfl : c = 0 := by omega
  unfold World.cell?; rw [show (W.alloc (.cells #[.slice u.1 u.2.1 u.2.2] 45)).heap[(⟨W.heap.size, 0 + 0, none⟩ : Addr).block]? = _ from hb]; rfl
/-- Conjunctions that lie in memory from B on. -/
def CjsFrom (B : Nat) (w : World) (q : Option Addr) (c : Nat) (cs : List (List Lt)) : Prop := ∀ x, SameUp B w x → CjsOf x q c cs
theorem CjsFrom.now {B : Nat} {w : World} {q : Option Addr} {c : Nat} {cs : List (List Lt)} (h : CjsFrom B w q c cs) : CjsOf w q c cs := h w (SameUp.of (Below.refl _ _))
end Go.Proofs.Ytmpdfgebhpfhhaa
namespace Go.Proofs.Ytmpdfgebhpfhhaa
open Go.RowKit Go.Sort

theorem bound_any (m : Int) (w : World) : Calls Try.prog 82 #[.int .i64 m] w fun e w' => e = .returned (.int .i64 (bnd m)) ∧ w' = w := by
  go_enter Try.func82, Try.ntmps82
  go_wp2
  go_ret
  exact ⟨by simp [bnd], rfl⟩
set_option maxHeartbeats 4000000 in
theorem refSum_any (m : Int) (q : Option Addr) (c : Nat) (l : List Int) (w : World) (h : SlOf encI 1 w q c l) (hl : l.length ≤ 1000000000000000000) :
    Calls Try.prog 65 #[.int .i64 m, .slice q l.length c] w fun e w' => e = .returned (.int .i64 (sumB m l)) ∧ Below w.heap.size w w' := by
  have HA := hide h
  have a0 : (l.length : Int) ≤ 1000000000000000000 := by omega
  have hb := fun w => bound_any m w
  have h0 := bnd_ge m
  have h1 := bnd_le m
  unfold sumB
  obtain ⟨M, hM⟩ : ∃ M, bnd m = M := ⟨_, rfl⟩
  rw [hM] at hb h0 h1
  rw [hM]
  clear h hM
  go_enter Try.func65, Try.ntmps65
  go_wp2_with (go_at_call 82; refine (hb _).mono ?_; rintro e w2 ⟨rfl, hw2⟩; subst hw2)
  go_loopw [6, 7] (fun sv i wr => ∃ (k : Nat) (s : Int), k ≤ l.length ∧ i = .int .i64 k ∧ sv = .int .i64 s ∧ 0 ≤ s ∧ s ≤ M ∧ sumGo M (l.drop k) s = sumGo M l 0 ∧ Below w2.heap.size w2 wr) (fun _ i _ => l.length - (intOf i).toNat)
  case atStart => exact ⟨0, 0, by omega, rfl, rfl, Int.le_refl _, h0, rfl, Below.refl _ _⟩
  case round =>
    obtain ⟨k, s, hk, rfl, rfl, s0, s1, heq, hbel⟩ := hrel
    have HB := hide hbel
    by_cases hlt : k < l.length
    · obtain ⟨x, hx, hxd⟩ := get_at hlt
      obtain ⟨b, off, hq, hb, hc⟩ := intsAt (unhide HA) hx
      subst hq
      have g := (hbel.cell (p := ⟨b, off + k, none⟩) hb).trans hc
      have ki0 : (0 : Int) ≤ (k : Int) := by omega
      have ki1 : (k : Int) < (l.length : Int) := by omega
      rw [hxd] at heq
      have w1 : IntKind.i64.wrap (M - s) = M - s := wrap_of _ (by omega) (by omega)
      obtain ⟨X, hX⟩ : ∃ X, max x 0 = X := ⟨_, rfl⟩
      by_cases hgt : M - s < x
      · have hgt2 : M - s < X := by omega
        simp only [sumGo, if_pos hgt] at heq
        have w2 : IntKind.i64.wrap (M + 1) = M + 1 := wrap_of _ (by omega) (by omega)
        have HE := hide heq
        clear heq hbel hxd hx hc hgt
        go_wp2
        go_ret
        exact ⟨by rw [← unhide HE]; rfl, unhide HB⟩
      · have hgt2 : ¬ M - s < X := by omega
        simp only [sumGo, if_neg hgt, hX] at heq
        have w2 : IntKind.i64.wrap (s + X) = s + X := wrap_of _ (by omega) (by omega)
        have HE := hide heq
        have x0 : 0 ≤ X := by omega
        clear heq hbel hxd hx hc hgt
        go_wp2
        go_roundw
        case rel => exact ⟨k + 1, s + X, by omega, by go_num, rfl, by omega, by omega, unhide HE, unhide HB⟩
        case measure => simp [intOf]; omega
    · have ki1 : ¬ (k : Int) < (l.length : Int) := by omega
      rw [List.drop_of_length_le (by omega)] at heq
      have HE := hide heq
      clear heq hbel
      go_wp2
      go_ret
      exact ⟨by rw [← unhide HE]; rfl, unhide HB⟩
theorem div_swap {M p x : Int} (hM : 0 ≤ M) (hp : 1 ≤ p) (hx : 1 ≤ x) : (M.tdiv p < x) ↔ (M.tdiv x < p) := by
  rw [Int.tdiv_eq_ediv_of_nonneg hM, Int.tdiv_eq_ediv_of_nonneg hM, Int.ediv_lt_iff_lt_mul (by omega), Int.ediv_lt_iff_lt_mul (by omega), Int.mul_comm]
set_option maxHeartbeats 8000000 in
theorem refProd_any (m : Int) (q : Option Addr) (c : Nat) (l : List Int) (w : World) (h : SlOf encI 1 w q c l) (hl : l.length ≤ 1000000000000000000) :
    Calls Try.prog 66 #[.int .i64 m, .slice q l.length c] w fun e w' => e = .returned (.int .i64 (prodB m l)) ∧ Below w.heap.size w w' := by
  have HA := hide h
  have a0 : (l.length : Int) ≤ 1000000000000000000 := by omega
  have hb := fun w => bound_any m w
  have h0 := bnd_ge m
  have h1 := bnd_le m
  obtain ⟨M, hM⟩ : ∃ M, bnd m = M := ⟨_, rfl⟩
  obtain ⟨Q, hQ⟩ : ∃ Q, prodB m l = Q := ⟨_, rfl⟩
  rw [hQ]
  unfold prodB at hQ
  rw [hM] at hb h0 h1 hQ
  have HQ := hide hQ
  clear h hM hQ
  go_enter Try.func66, Try.ntmps66
  go_wp2_with (go_at_call 82; refine (hb _).mono ?_; rintro e w2 ⟨rfl, hw2⟩; subst hw2)
  clear hb
  go_loopw [6] (fun i wr => ∃ k : Nat, k ≤ l.length ∧ i = .int .i64 k ∧ (∀ (j : Nat) (x : Int), j < k → l[j]? = some x → 0 < x) ∧ Below w2.heap.size w2 wr) (fun i _ => l.length - (intOf i).toNat)
  case atStart => exact ⟨0, by omega, rfl, fun j x h => absurd h (by omega), Below.refl _ _⟩
  case round =>
    obtain ⟨k, hk, rfl, hall, hbel⟩ := hrel
    have HALL := hide hall
    have HB := hide hbel
    by_cases hlt : k < l.length
    · obtain ⟨x, hx, hxd⟩ := get_at hlt
      obtain ⟨b, off, hq, hb, hc⟩ := intsAt (unhide HA) hx
      subst hq
      have g := (hbel.cell (p := ⟨b, off + k, none⟩) hb).trans hc
      have ki0 : (0 : Int) ≤ (k : Int) := by omega
      have ki1 : (k : Int) < (l.length : Int) := by omega
      have HX := hide hx
      by_cases hx0 : x ≤ 0
      · clear hall hbel hxd hx hc
        go_wp2
        go_ret
        have : l.any (fun x => decide (x ≤ 0)) = true := List.any_eq_true.2 ⟨x, List.mem_of_getElem? (unhide HX), by simp [hx0]⟩
        have hq := unhide HQ
        rw [this] at hq
        exact ⟨by rw [← hq]; rfl, unhide HB⟩
      · clear hall hbel hxd hx hc
        go_wp2
        go_roundw
        case rel =>
          refine ⟨k + 1, by omega, by go_num, fun j y hj hy => ?_, unhide HB⟩
          by_cases e : j = k
          · subst e; rw [unhide HX] at hy; cases hy; omega
          · exact unhide HALL j y (by omega) hy
        case measure => simp [intOf]; omega
    · have ki1 : ¬ (k : Int) < (l.length : Int) := by omega
      have hany : l.any (fun x => decide (x ≤ 0)) = false := by
        rw [List.any_eq_false]
        intro x hx
        obtain ⟨j, hj⟩ := List.getElem?_of_mem hx
        have := unhide HALL j x (by have := (List.getElem?_eq_some_iff.1 hj).1; omega) hj
        simp; omega
      have HP := hide (show ∀ (j : Nat) (x : Int), l[j]? = some x → 0 < x from fun j x hj => unhide HALL j x (by have := (List.getElem?_eq_some_iff.1 hj).1; omega) hj)
      have HQ2 := hide (show prodGo M l 1 = Q by have := unhide HQ; rw [hany] at this; simpa using this)
      clear hall hbel hany hk hlt HALL HQ
      by_cases hM0 : M = 0
      · subst hM0
        have HE := hide (show prodGo 0 l 1 = 1 by
          cases l with
          | nil => rfl
          | cons x l =>
            have hx := unhide HP 0 x rfl
            have : (0 : Int).tdiv x = 0 := Int.zero_tdiv x
            simp [prodGo, this])
        go_wp2
        go_ret
        exact ⟨by rw [← unhide HQ2, unhide HE]; rfl, unhide HB⟩
      · have m1 : 1 ≤ M := by omega
        have e0 : (M == 0) = false := by simp [hM0]
        obtain ⟨V, rfl⟩ : ∃ V, V = wr := ⟨_, rfl⟩
        go_wp2
        go_loopw [7, 8] (fun pv i wr => ∃ (k : Nat) (p : Int), k ≤ l.length ∧ i = .int .i64 k ∧ pv = .int .i64 p ∧ 1 ≤ p ∧ p ≤ M ∧ prodGo M (l.drop k) p = prodGo M l 1 ∧ Below w2.heap.size w2 wr) (fun _ i _ => l.length - (intOf i).toNat)
        case atStart => exact ⟨0, 1, by omega, rfl, rfl, Int.le_refl _, by omega, rfl, unhide HB⟩
        case round =>
          obtain ⟨k, p, hk, rfl, rfl, s0, s1, heq, hbel⟩ := hrel
          have HB2 := hide hbel
          by_cases hlt : k < l.length
          · obtain ⟨x, hx, hxd⟩ := get_at hlt
            obtain ⟨b, off, hq, hb, hc⟩ := intsAt (unhide HA) hx
            subst hq
            have g := (hbel.cell (p := ⟨b, off + k, none⟩) hb).trans hc
            have ki0 : (0 : Int) ≤ (k : Int) := by omega
            have ki2 : (k : Int) < (l.length : Int) := by omega
            rw [hxd] at heq
            have x0 := unhide HP k x hx
            have pn : ¬ p = 0 := by omega
            obtain ⟨D, hD⟩ : ∃ D, M.tdiv p = D := ⟨_, rfl⟩
            have D0 : 0 ≤ D ∧ D ≤ M := by
              rw [← hD, Int.tdiv_eq_ediv_of_nonneg h0]
              exact ⟨Int.ediv_nonneg h0 (by omega), Int.ediv_le_self p h0⟩
            have hsw := div_swap (p := p) (x := x) h0 s0 (by omega)
            rw [hD] at hsw
            have w1 : IntKind.i64.wrap D = D := wrap_of _ (by omega) (by omega)
            by_cases hgt : D < x
            · have hg2 := hsw.1 hgt
              simp only [prodGo, if_pos hg2] at heq
              have w2 : IntKind.i64.wrap (M + 1) = M + 1 := wrap_of _ (by omega) (by omega)
              have HE := hide heq
              clear heq hbel hxd hx hc hsw hg2
              go_wp2
              go_region
              go_wp2
              go_ret
              exact ⟨by rw [← unhide HQ2, ← unhide HE]; rfl, (unhide HB2).drew⟩
            · have hg2 : ¬ M.tdiv x < p := fun h => hgt (hsw.2 h)
              have hps := prod_step h0 s0 x0 hg2
              simp only [prodGo, if_neg hg2] at heq
              obtain ⟨Z, hZ⟩ : ∃ Z, p * x = Z := ⟨_, rfl⟩
              rw [hZ] at hps heq
              have w2 : IntKind.i64.wrap Z = Z := wrap_of _ (by omega) (by omega)
              have HE := hide heq
              clear heq hbel hxd hx hc hsw hg2
              go_wp2
              go_region
              go_wp2
              go_roundw
              case rel => exact ⟨k + 1, Z, by omega, by go_num, rfl, by omega, by omega, unhide HE, (unhide HB2).drew⟩
              case measure => simp [intOf]; omega
          · have ki2 : ¬ (k : Int) < (l.length : Int) := by omega
            rw [List.drop_of_length_le (by omega)] at heq
            have HE := hide heq
            clear heq hbel
            go_wp2
            go_ret
            exact ⟨by rw [← unhide HQ2, ← unhide HE]; rfl, unhide HB2⟩
end Go.Proofs.Ytmpdfgebhpfhhaa

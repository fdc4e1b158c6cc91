/- What is stored: journal.whole, stored, discardFresh; the scan as told. -/
import Derived.Test.YtfigjfmldpfjkaaGreatZai
namespace Go.Proofs.YtfigjfmldpfjkaaGreat
open Go.RowKit Go.Sort Go.Shelf

theorem own_sameG {α : Type} [Inhabited α] {enc : α → List Value} {t : TypeId} {k B : Nat} {w w' : World} {q : Option Addr} {cap : Nat} {l : List α} (h : OwnK enc t k B w q cap l) (he : ∀ p, q = some p → w'.heap[p.block]? = w.heap[p.block]?) : OwnK enc t k B w' q cap l := by
  refine ⟨h.1, ?_⟩
  rcases h.2 with h0 | ⟨g, cp, cur, hv, hB, hblk, hr⟩
  · exact Or.inl h0
  · refine Or.inr ⟨g, cp, cur, hv, hB, ?_, hr⟩
    injection hv with h1
    exact (he _ h1).trans hblk
theorem own_cellsG {α : Type} [Inhabited α] {enc : α → List Value} {t : TypeId} {k B : Nat} {w : World} {q : Option Addr} {cap : Nat} {l : List α} (h : OwnK enc t k B w q cap l) {p : Addr} (hp : q = some p) : B ≤ p.block ∧ ∃ cur, w.heap[p.block]? = some (.cells cur t (0, 0)) := by
  subst hp
  rcases h.2 with ⟨h0, _⟩ | ⟨g, cp, cur, hv, hB, hblk, hr⟩
  · injection h0 with h0; cases h0
  · injection hv with h1
    injection h1 with h1
    subst h1
    exact ⟨hB, cur, hblk⟩
/-- The scan, as told: its error, the number, the changes, the length. -/
def scA (l : List UInt8) : Nat := (sealS l (headV l).2.1 (headV l).2.2).1
def scE (l : List UInt8) : Int := if headOk l = true then 0 else 31
def scN (l : List UInt8) : Int := if headOk l = true then ((headV l).1 : Int) else 0
def scC (l : List UInt8) : List Ch := if headOk l = true then (scanL (l.length + 1) (l.drop (scA l))).1 else []
def scL (l : List UInt8) : Nat := if headOk l = true then scA l + (scanL (l.length + 1) (l.drop (scA l))).2 else 0
theorem scan_one (q : Option Addr) (c : Nat) (l : List UInt8) (w : World) (h : SlOf encB 1 w q c l) (hl : l.length ≤ 4000000000000) :
    Calls Tryz.prog 45 #[.slice q l.length c] w fun e w' => (∃ q' c', e = .returned (.tuple #[.int .i64 (scN l), .slice q' (scC l).length c', .int .i64 ((scL l : Nat) : Int), .int .i64 (scE l)]) ∧ OwnK encC 63 3 w.heap.size w' q' c' (scC l)) ∧ Below w.heap.size w w' := by
  refine (scan_any q c l w h hl).mono ?_
  rintro e w' ⟨h1, h2⟩
  refine ⟨?_, h2⟩
  rcases h1 with ⟨h, rfl⟩ | ⟨h, q', c', a, rfl, rfl, ho⟩
  · refine ⟨none, 0, ?_, ?_⟩
    · simp only [scN, scC, scL, scE, h, Bool.false_eq_true, if_false]; rfl
    · simp only [scC, h, Bool.false_eq_true, if_false]; exact OwnK.nil _ _
  · refine ⟨q', c', ?_, ?_⟩
    · simp only [scN, scC, scL, scE, scA, h, if_true]
    · simp only [scC, scA, h, if_true]; exact ho
theorem sc_back {l : List UInt8} (h : scE l = 0) : ∃ n : Nat, scN l = (n : Int) ∧ 1 ≤ n ∧ n ≤ 1099511627777 ∧ (∀ c ∈ scC l, MayB c) ∧ scL l = (headB n ++ encs (scC l)).length ∧ ∃ r, l = headB n ++ encs (scC l) ++ r := by
  have hk : headOk l = true := by
    cases hk : headOk l with
    | true => rfl
    | false => simp [scE, hk] at h
  obtain ⟨n, h1, h2, h3, h4, h5⟩ := head_back hk
  obtain ⟨b1, b2, r, b3⟩ := scan_back (l.length + 1) (l.drop (scA l))
  have hC : scC l = (scanL (l.length + 1) (l.drop (scA l))).1 := by simp only [scC, hk, if_true]
  have hA : scA l = (headB n).length := h4
  refine ⟨n, by simp only [scN, hk, if_true, h1], h2, h3, by rw [hC]; exact b1, ?_, r, ?_⟩
  · simp only [scL, hk, if_true]
    rw [b2, hC, List.length_append, hA]
  · rw [hC, List.append_assoc, ← b3, hA]
    exact h5
theorem sc_head (n : Nat) (x : List UInt8) (h1 : 1 ≤ n) (h2 : n ≤ 1099511627777) : scE (headB n ++ x) = 0 ∧ scN (headB n ++ x) = (n : Int) ∧ scC (headB n ++ x) = (scanL ((headB n ++ x).length + 1) x).1 ∧ scL (headB n ++ x) = (headB n).length + (scanL ((headB n ++ x).length + 1) x).2 := by
  obtain ⟨a1, a2, a3⟩ := head_read (l := headB n ++ x) (r := x) h1 h2 rfl
  have hA : scA (headB n ++ x) = (headB n).length := a3
  refine ⟨by simp only [scE, a1, if_true], by simp only [scN, a1, if_true, a2], ?_, ?_⟩
  · simp only [scC, a1, if_true, hA, List.drop_left]
  · simp only [scL, a1, if_true, hA, List.drop_left]
theorem sc_torn (n : Nat) (cs : List Ch) (m : Nat) (h1 : 1 ≤ n) (h2 : n ≤ 1099511627777) (hm : ∀ c ∈ cs, MayB c) (hl : m ≤ (encs cs).length) : scE (headB n ++ (encs cs).take m) = 0 ∧ scN (headB n ++ (encs cs).take m) = (n : Int) ∧ scC (headB n ++ (encs cs).take m) = cs.take (fit cs m) ∧ scL (headB n ++ (encs cs).take m) = (headB n ++ encs (cs.take (fit cs m))).length := by
  obtain ⟨a1, a2, a3, a4⟩ := sc_head n ((encs cs).take m) h1 h2
  have hs := scan_take cs m ((headB n ++ (encs cs).take m).length + 1) hm hl (by simp; omega)
  rw [hs] at a3 a4
  exact ⟨a1, a2, a3, by rw [a4, List.length_append]⟩
theorem fit_all (cs : List Ch) : fit cs (encs cs).length = cs.length := fit_eq cs _ cs.length (Nat.le_refl _) (by rw [List.take_length]; exact Nat.le_refl _) (Or.inl rfl)
theorem sc_of (n : Nat) (cs : List Ch) (h1 : 1 ≤ n) (h2 : n ≤ 1099511627777) (hm : ∀ c ∈ cs, MayB c) : scE (headB n ++ encs cs) = 0 ∧ scN (headB n ++ encs cs) = (n : Int) ∧ scC (headB n ++ encs cs) = cs ∧ scL (headB n ++ encs cs) = (headB n ++ encs cs).length := by
  have h := sc_torn n cs (encs cs).length h1 h2 hm (Nat.le_refl _)
  rw [List.take_length, fit_all, List.take_length] at h
  exact h
theorem head_len (n : Nat) (h : n ≤ 1099511627777) : (headB n).length ≤ 20 := by
  unfold headB
  rw [seal_len]
  have := vint_len9 n (by omega)
  simp
  omega
/-- A journal's bytes, and what is wrong with them. -/
def whE (n : Int) (cs : List Ch) : Int := if 1 ≤ n ∧ n ≤ 1099511627777 then (if ∀ c ∈ cs, MayB c then 0 else 1) else 2
def whB (n : Int) (cs : List Ch) : List UInt8 := if whE n cs = 0 then headB n.toNat ++ encs cs else []
theorem wh_range {n : Int} (h : ¬ (1 ≤ n ∧ n ≤ 1099511627777)) (cs : List Ch) : whE n cs = 2 ∧ whB n cs = [] := by
  have h1 : whE n cs = 2 := if_neg h
  exact ⟨h1, if_neg (by rw [h1]; decide)⟩
theorem wh_form {n : Int} (h : 1 ≤ n ∧ n ≤ 1099511627777) {cs : List Ch} (hc : ¬ ∀ c ∈ cs, MayB c) : whE n cs = 1 ∧ whB n cs = [] := by
  have h1 : whE n cs = 1 := (if_pos h).trans (if_neg hc)
  exact ⟨h1, if_neg (by rw [h1]; decide)⟩
theorem wh_good {n : Nat} (h : 1 ≤ n ∧ n ≤ 1099511627777) {cs : List Ch} (hc : ∀ c ∈ cs, MayB c) : whE (n : Int) cs = 0 ∧ whB (n : Int) cs = headB n ++ encs cs := by
  have h1 : whE (n : Int) cs = 0 := (if_pos (by omega)).trans (if_pos hc)
  exact ⟨h1, if_pos h1⟩
set_option maxHeartbeats 1000000 in
set_option maxRecDepth 100000 in
theorem whole_any (n : Int) (q : Option Addr) (c : Nat) (cs : List Ch) (w : World) (h : SlOf encC 3 w q c cs) (hn : cs.length ≤ 10000000000) :
    Calls Tryz.prog 38 #[.int .i64 n, .slice q cs.length c] w fun e w' => (∃ q' c', e = .returned (.tuple #[.slice q' (whB n cs).length c', .int .i64 (whE n cs)]) ∧ OwnK encB 5 1 w.heap.size w' q' c' (whB n cs)) ∧ Below w.heap.size w w' := by
  by_cases hr : 1 ≤ n ∧ n ≤ 1099511627777
  · obtain ⟨m, rfl⟩ : ∃ m : Nat, n = (m : Int) := ⟨n.toNat, by omega⟩
    have hm1 : 1 ≤ m := by omega
    have hm2 : m ≤ 1099511627777 := by omega
    have hh := head_yes m hm1 hm2 w
    have hhl := head_len m hm2
    obtain ⟨H, hH⟩ : ∃ H, (headB m).length = H := ⟨_, rfl⟩
    rw [hH] at hh
    have hen := fun (W : World) (hW : SlOf encC 3 W q c cs) => encode_any q c cs W hW hn
    have HS := hide h
    by_cases hc : ∀ c ∈ cs, MayB c
    · obtain ⟨g1, g2⟩ := wh_good ⟨hm1, hm2⟩ hc
      rw [g1, g2]
      have hel := encs_len cs hc
      obtain ⟨E, hE⟩ : ∃ E, (encs cs).length = E := ⟨_, rfl⟩
      have hen' : ∀ (W : World), SlOf encC 3 W q c cs → Calls Tryz.prog 35 #[.slice q cs.length c] W fun e w' => (∃ q' cap', e = .returned (.tuple #[.slice q' E cap', .int .i64 0]) ∧ OwnK encB 5 1 W.heap.size w' q' cap' (encs cs)) ∧ Below W.heap.size W w' := fun W hW => (hen W hW).mono (by
        rintro e w' ⟨h1, h2⟩
        rcases h1 with ⟨_, q', cap', rfl, ho⟩ | ⟨h3, _⟩
        · rw [hE]; exact ⟨⟨q', cap', rfl, ho⟩, h2⟩
        · exact absurd hc h3)
      obtain ⟨T, hT⟩ : ∃ T, H + E = T := ⟨_, rfl⟩
      have hTL : (headB m ++ encs cs).length = T := by rw [List.length_append, hH, hE, hT]
      have hTb : T ≤ 140737488355328 := by omega
      rw [hTL]
      have HH := hide hH
      have HE := hide hE
      have HT := hide hT
      clear h hc hel hH hE hT hTL hen hr hn g1 g2 hhl
      go_enter Tryz.func38, Tryz.ntmps38
      go_wp2_with (first
        | (go_at_call 71; refine hh.mono ?_; rintro e w1 ⟨⟨q1, c1, rfl, o1⟩, b1⟩; have O1 := hide o1; have B1 := hide b1; clear o1 b1)
        | (go_at_call 35; refine (hen' w1 ((unhide HS).below (unhide B1))).mono ?_; rintro e w2 ⟨⟨q2, c2, rfl, o2⟩, b2⟩; have O2 := hide o2; have O12 := hide ((unhide O1).below b2); have B2 := hide (below_sub (unhide B1) b2); clear o2 b2)
        | (at_builtin; refine wpList_app rowB rfl _ _ rfl w.heap.size q1 c1 (headB m) q2 c2 (encs cs) H E T (unhide HH) (unhide HE) (unhide HT) rfl rfl (unhide O12) (unhide O2).ls.src (by unfold maxLen; omega) (by omega) (unhide B2).size ?_; intro q3 c3 w3 o3 b3 _ _; have O3 := hide o3; have B3 := hide ((unhide B2).trans b3); clear o3 b3))
      refine bodyPost_ret (v := .tuple #[.slice q3 T c3, .int .i64 0]) (by simp [results, Tryz.f38, go_sem]) rfl ?_
      exact ⟨⟨q3, c3, rfl, unhide O3⟩, unhide B3⟩
    · obtain ⟨g1, g2⟩ := wh_form hr hc
      rw [g1, g2]
      have hen' : ∀ (W : World), SlOf encC 3 W q c cs → Calls Tryz.prog 35 #[.slice q cs.length c] W fun e w' => e = .returned (.tuple #[.slice none 0 0, .int .i64 1]) ∧ Below W.heap.size W w' := fun W hW => (hen W hW).mono (by
        rintro e w' ⟨h1, h2⟩
        rcases h1 with ⟨h3, _⟩ | ⟨_, h3⟩
        · exact absurd h3 hc
        · exact ⟨h3, h2⟩)
      clear h hc hen hr hn g1 g2 hH
      go_enter Tryz.func38, Tryz.ntmps38
      go_wp2_with (first
        | (go_at_call 71; refine hh.mono ?_; rintro e w1 ⟨⟨q1, c1, rfl, o1⟩, b1⟩; have B1 := hide b1; clear o1 b1)
        | (go_at_call 35; refine (hen' w1 ((unhide HS).below (unhide B1))).mono ?_; rintro e w2 ⟨rfl, b2⟩; have B2 := hide (below_sub (unhide B1) b2); clear b2))
      refine bodyPost_ret (v := .tuple #[.slice none 0 0, .int .i64 1]) (by simp [results, Tryz.f38, go_sem]) rfl ?_
      exact ⟨⟨none, 0, rfl, OwnK.nil _ _⟩, unhide B2⟩
  · obtain ⟨g1, g2⟩ := wh_range hr cs
    rw [g1, g2]
    have hh := head_no n hr w
    clear h hr hn g1 g2
    go_enter Tryz.func38, Tryz.ntmps38
    go_wp2_with (go_at_call 71; refine hh.mono ?_; rintro e w1 ⟨rfl, hw1⟩; obtain rfl := hw1.symm)
    refine bodyPost_ret (v := .tuple #[.slice none 0 0, .int .i64 2]) (by simp [results, Tryz.f38, go_sem]) rfl ?_
    exact ⟨⟨none, 0, rfl, OwnK.nil _ _⟩, Below.refl _ _⟩
def stB (s : JS) : List UInt8 := match s.j with
  | some fl => fl.bytes
  | none => headB 1
theorem readJ_any {B : Nat → Prop} {w : World} {g : Nat} {s : JS} (hd : JAt B w g s) (ho : s.off = false) {fl : Fl} (hj : s.j = some fl) (hl : fl.bytes.length ≤ 140737488355328) :
    Calls Tryz.prog 67 #[.pointer (some ⟨g, 0, none⟩), .string nJ] w fun e w' => (∃ q' c', e = .returned (.tuple #[.slice q' fl.bytes.length c', .int .i64 0]) ∧ OwnK encB 5 1 w.heap.size w' q' c' fl.bytes) ∧ Below w.heap.size w w' := by
  obtain ⟨n, hn, hd⟩ := hd
  exact read_yes hd ho okJ (s.get_J.trans hj) hl
set_option maxRecDepth 100000 in
theorem stored_any {B : Nat → Prop} {w : World} {g : Nat} {s : JS} (hd : JAt B w g s) (ha : s.acts ≤ 100000000) (ho : s.off = false) (hl : szO s.j ≤ 140737488355328) :
    Calls Tryz.prog 44 #[.pointer (some ⟨g, 0, none⟩)] w fun e w' => (∃ q' c', e = .returned (.tuple #[.slice q' (stB s).length c', .int .i64 0]) ∧ OwnK encB 5 1 w.heap.size w' q' c' (stB s)) ∧ Below w.heap.size w w' := by
  have hh := has_any hd ha ho nJ
  rw [s.get_J] at hh
  cases hj : s.j with
  | some fl =>
    rw [hj] at hh hl
    have hrd := fun (W : World) (hW : JAt B W g s) => readJ_any hW ho hj hl
    have hst : stB s = fl.bytes := by unfold stB; rw [hj]
    rw [hst]
    have HD := hide hd
    clear hd hst
    go_enter Tryz.func44, Tryz.ntmps44
    go_wp2_with (first
      | (go_at_call 42; refine hh.mono ?_; rintro e w1 ⟨rfl, b1⟩; have D1 := hide ((unhide HD).below b1); have B1 := hide b1; clear b1)
      | (go_at_call 67; refine (hrd w1 (unhide D1)).mono ?_; rintro e w2 ⟨⟨q2, c2, rfl, o2⟩, b2⟩; have O2 := hide (o2.mono (unhide B1).size); have B2 := hide (below_sub (unhide B1) b2); clear o2 b2))
    refine bodyPost_ret (v := .tuple #[.slice q2 fl.bytes.length c2, .int .i64 0]) (by simp [results, Tryz.f44, go_sem]) rfl ?_
    exact ⟨⟨q2, c2, rfl, unhide O2⟩, unhide B2⟩
  | none =>
    rw [hj] at hh
    have hst : stB s = headB 1 := by unfold stB; rw [hj]
    rw [hst]
    have hwh := fun (W : World) => whole_any 1 none 0 [] W ⟨fun _ => ⟨rfl, rfl⟩, Nat.le_refl _, by unfold maxLen; omega, fun h => by cases h⟩ (by simp)
    obtain ⟨g1, g2⟩ := wh_good (n := 1) ⟨by decide, by decide⟩ (cs := []) (fun c hc => by cases hc)
    have g3 : whE 1 [] = 0 := g1
    have g4 : whB 1 [] = headB 1 := g2.trans (by simp [encs])
    rw [g3, g4] at hwh
    simp only [List.length_nil] at hwh
    obtain ⟨H, hH⟩ : ∃ H, (headB 1).length = H := ⟨_, rfl⟩
    rw [hH] at hwh ⊢
    clear hd hst g1 g2 g3 g4 hH
    go_enter Tryz.func44, Tryz.ntmps44
    go_wp2_with (first
      | (go_at_call 42; refine hh.mono ?_; rintro e w1 ⟨rfl, b1⟩; have B1 := hide b1; clear b1)
      | (go_at_call 38; refine (hwh w1).mono ?_; rintro e w2 ⟨⟨q2, c2, rfl, o2⟩, b2⟩; have O2 := hide (o2.mono (unhide B1).size); have B2 := hide (below_sub (unhide B1) b2); clear o2 b2))
    refine bodyPost_ret (v := .tuple #[.slice q2 H c2, .int .i64 0]) (by simp [results, Tryz.f44, go_sem]) rfl ?_
    exact ⟨⟨q2, c2, rfl, unhide O2⟩, unhide B2⟩
def disM (s : JS) : Int × JS := match s.f with
  | none => (0, s)
  | some _ => remR s
theorem discard_any {B : Nat → Prop} {w : World} {g : Nat} {s : JS} (hd : JAt B w g s) (hB : Sub B w) (ha : s.acts ≤ 100000000) (ho : s.off = false) :
    Calls Tryz.prog 23 #[.pointer (some ⟨g, 0, none⟩)] w fun e w' => e = .returned (.int .i64 (disM s).1) ∧ JAt B w' g (disM s).2 ∧ Kpt B w w' := by
  have hh := has_any hd ha ho nR
  rw [s.get_R] at hh
  unfold disM
  cases hf : s.f with
  | none =>
    rw [hf] at hh
    have HD := hide hd
    clear hd
    go_enter Tryz.func23, Tryz.ntmps23
    go_wp2_with (go_at_call 42; refine hh.mono ?_; rintro e w1 ⟨rfl, b1⟩; have D1 := hide ((unhide HD).below b1); have B1 := hide b1; clear b1)
    go_ret
    exact ⟨rfl, unhide D1, Kpt.of (unhide B1)⟩
  | some fl =>
    rw [hf] at hh
    have hrm := fun (W : World) (hW : JAt B W g s) (hBW : Sub B W) => remR_any hW hBW ha ho hf
    have HD := hide hd
    have HB := hide hB
    simp only
    obtain ⟨E, S, hES⟩ : ∃ E S, remR s = (E, S) := ⟨_, _, rfl⟩
    rw [hES] at hrm ⊢
    clear hd hB hES
    go_enter Tryz.func23, Tryz.ntmps23
    go_wp2_with (first
      | (go_at_call 42; refine hh.mono ?_; rintro e w1 ⟨rfl, b1⟩; have D1 := hide ((unhide HD).below b1); have B1 := hide b1; clear b1)
      | (go_at_call 43; refine (hrm w1 (unhide D1) ((unhide HB).trans (unhide B1).size)).mono ?_; rintro e w2 ⟨rfl, d2, b2⟩; have D2 := hide d2; have B2 := hide ((Kpt.of (B := B) (unhide B1)).trans b2); clear d2 b2))
    go_ret
    exact ⟨rfl, unhide D2, unhide B2⟩
end Go.Proofs.YtfigjfmldpfjkaaGreat
namespace Go.Proofs.YtfigjfmldpfjkaaGreat
open Go.RowKit Go.Sort Go.Shelf

theorem wa1 {B : Nat → Prop} {w : World} {g : Nat} {s : JS} (hd : JAt B w g s) (hB : Sub B w) (ha : s.acts ≤ 100000000) (b1 b2 : Nat) (p : Option Addr) (k : Nat) (data : List UInt8) (hdt : SlOf encB 1 w p k data) (hl : szO s.f + data.length ≤ 140737488355328)
    (c1 : w.cell? ⟨b1, 0, none⟩ = some (.pointer (some ⟨g, 0, none⟩))) (c2 : w.cell? ⟨b2, 0, none⟩ = some (.slice p data.length k)) :
    Calls Tryz.prog 72 #[.pointer (some ⟨b1, 0, none⟩), .pointer (some ⟨b2, 0, none⟩)] w fun e w' => e = .returned (.int .i64 (appR s data).1) ∧ JAt B w' g (appR s data).2 ∧ Kpt B w w' := by
  have h := appR_any hd hB ha p k data hdt hl
  obtain ⟨E, S, hES⟩ : ∃ E S, appR s data = (E, S) := ⟨_, _, rfl⟩
  rw [hES] at h ⊢
  clear hd hB hES hdt hl
  go_enter Tryz.func72, Tryz.ntmps72
  go_wp2_with (go_at_call 29; refine h.mono ?_; rintro e w1 ⟨rfl, d1, b1'⟩; have D1 := hide d1; have B1 := hide b1'; clear d1 b1')
  go_ret
  exact ⟨rfl, unhide D1, unhide B1⟩
theorem wa2 {B : Nat → Prop} {w : World} {g : Nat} {s : JS} (hd : JAt B w g s) (hB : Sub B w) (ha : s.acts ≤ 100000000) (b1 : Nat)
    (c1 : w.cell? ⟨b1, 0, none⟩ = some (.pointer (some ⟨g, 0, none⟩))) :
    Calls Tryz.prog 73 #[.pointer (some ⟨b1, 0, none⟩)] w fun e w' => e = .returned (.int .i64 (synR s).1) ∧ JAt B w' g (synR s).2 ∧ Kpt B w w' := by
  have h := synR_any hd hB ha
  obtain ⟨E, S, hES⟩ : ∃ E S, synR s = (E, S) := ⟨_, _, rfl⟩
  rw [hES] at h ⊢
  clear hd hB hES
  go_enter Tryz.func73, Tryz.ntmps73
  go_wp2_with (go_at_call 37; refine h.mono ?_; rintro e w1 ⟨rfl, d1, b1'⟩; have D1 := hide d1; have B1 := hide b1'; clear d1 b1')
  go_ret
  exact ⟨rfl, unhide D1, unhide B1⟩
theorem wa3 {B : Nat → Prop} {w : World} {g : Nat} {s : JS} (hd : JAt B w g s) (hB : Sub B w) (ha : s.acts ≤ 100000000) (b1 : Nat)
    (c1 : w.cell? ⟨b1, 0, none⟩ = some (.pointer (some ⟨g, 0, none⟩))) :
    Calls Tryz.prog 74 #[.pointer (some ⟨b1, 0, none⟩)] w fun e w' => e = .returned (.int .i64 (renM s).1) ∧ JAt B w' g (renM s).2 ∧ Kpt B w w' := by
  have h := renM_any hd hB ha
  obtain ⟨E, S, hES⟩ : ∃ E S, renM s = (E, S) := ⟨_, _, rfl⟩
  rw [hES] at h ⊢
  clear hd hB hES
  go_enter Tryz.func74, Tryz.ntmps74
  go_wp2_with (go_at_call 75; refine h.mono ?_; rintro e w1 ⟨rfl, d1, b1'⟩; have D1 := hide d1; have B1 := hide b1'; clear d1 b1')
  go_ret
  exact ⟨rfl, unhide D1, unhide B1⟩
def writeM (s : JS) (b : List UInt8) : Int × JS := if (appR s b).1 ≠ 0 then appR s b else if (synR (appR s b).2).1 ≠ 0 then synR (appR s b).2 else renM (synR (appR s b).2).2
theorem appR_acts (s : JS) (b : List UInt8) : (appR s b).2.acts ≤ s.acts + 1 := by
  unfold appR
  split
  · exact Nat.le_succ _
  · split
    · exact Nat.le_succ _
    · exact Nat.le_refl _
theorem synR_acts (s : JS) : (synR s).2.acts ≤ s.acts + 1 := by
  unfold synR
  split
  · exact Nat.le_succ _
  · split
    · exact Nat.le_succ _
    · split
      · exact Nat.le_succ _
      · exact Nat.le_refl _
theorem renM_acts (s : JS) : (renM s).2.acts ≤ s.acts + 1 := by
  unfold renM
  split
  · exact Nat.le_succ _
  · split
    · exact Nat.le_succ _
    · split
      · exact Nat.le_succ _
      · exact Nat.le_refl _
theorem remR_acts (s : JS) : (remR s).2.acts ≤ s.acts + 1 := by
  unfold remR
  split
  · exact Nat.le_succ _
  · split
    · exact Nat.le_succ _
    · split
      · exact Nat.le_succ _
      · exact Nat.le_refl _
theorem writeM_acts (s : JS) (b : List UInt8) : (writeM s b).2.acts ≤ s.acts + 3 := by
  have h1 := appR_acts s b
  have h2 := synR_acts (appR s b).2
  have h3 := renM_acts (synR (appR s b).2).2
  unfold writeM
  split
  · omega
  · split <;> omega
/-- How far the writing has come. -/
def WSt (s : JS) (b : List UInt8) (i : Int) (S : JS) : Prop :=
  (i = 0 ∧ S = s) ∨ (i = 1 ∧ (appR s b).1 = 0 ∧ S = (appR s b).2) ∨ (i = 2 ∧ (appR s b).1 = 0 ∧ (synR (appR s b).2).1 = 0 ∧ S = (synR (appR s b).2).2) ∨ (i = 3 ∧ writeM s b = (0, S))
theorem cell_of_block {w : World} {b : Nat} {cur : Array Value} {t : TypeId} (h : w.heap[b]? = some (.cells cur t (0, 0))) (j : Nat) : w.cell? ⟨b, j, none⟩ = cur[j]? := by unfold World.cell?; rw [h]; rfl
theorem write_1 {s : JS} {b : List UInt8} (h : (appR s b).1 ≠ 0) : writeM s b = appR s b := if_pos h
theorem write_2 {s : JS} {b : List UInt8} (h : (appR s b).1 = 0) (h2 : (synR (appR s b).2).1 ≠ 0) : writeM s b = synR (appR s b).2 := (if_neg (fun h9 => h9 h)).trans (if_pos h2)
theorem write_3 {s : JS} {b : List UInt8} (h : (appR s b).1 = 0) (h2 : (synR (appR s b).2).1 = 0) : writeM s b = renM (synR (appR s b).2).2 := (if_neg (fun h9 => h9 h)).trans (if_neg (fun h9 => h9 h2))
set_option maxHeartbeats 2000000 in
set_option maxRecDepth 100000 in
theorem write_js {B : Nat → Prop} {w : World} {g : Nat} {s : JS} (hd : JAt B w g s) (hB : Sub B w) (ha : s.acts ≤ 99999990) (p : Option Addr) (k : Nat) (data : List UInt8) (hdt : SlOf encB 1 w p k data) (hl : szO s.f + data.length ≤ 140737488355328) :
    Calls Tryz.prog 39 #[.pointer (some ⟨g, 0, none⟩), .slice p data.length k] w fun e w' => e = .returned (.int .i64 (writeM s data).1) ∧ JAt B w' g (writeM s data).2 ∧ Kpt B w w' := by
  obtain ⟨z1, hz1⟩ : ∃ z1, w.alloc (.cells #[.pointer (some ⟨g, 0, none⟩)] 25) = z1 := ⟨_, rfl⟩
  obtain ⟨z2, hz2⟩ : ∃ z2, z1.alloc (.cells #[.slice p data.length k] 40) = z2 := ⟨_, rfl⟩
  obtain ⟨z3, hz3⟩ : ∃ z3, z2.alloc (.cells #[.func (.func 72) #[] #[.pointer (some ⟨w.heap.size, 0, none⟩), .pointer (some ⟨z1.heap.size, 0, none⟩)], .func (.func 73) #[] #[.pointer (some ⟨w.heap.size, 0, none⟩)], .func (.func 74) #[] #[.pointer (some ⟨w.heap.size, 0, none⟩)]] 53) = z3 := ⟨_, rfl⟩
  have s1 : z1.heap.size = w.heap.size + 1 := by rw [← hz1]; simp
  have s2 : z2.heap.size = z1.heap.size + 1 := by rw [← hz2]; simp
  have s3 : z3.heap.size = z2.heap.size + 1 := by rw [← hz3]; simp
  have b1 : Below w.heap.size w z1 := by rw [← hz1]; exact (Below.refl _ _).alloc (Nat.le_refl _) _
  have b2 : Below z1.heap.size z1 z2 := by rw [← hz2]; exact (Below.refl _ _).alloc (Nat.le_refl _) _
  have b3 : Below z2.heap.size z2 z3 := by rw [← hz3]; exact (Below.refl _ _).alloc (Nat.le_refl _) _
  have k1 : z3.heap[w.heap.size]? = some (.cells #[.pointer (some ⟨g, 0, none⟩)] 25 (0, 0)) := (b3.block _ (by omega)).trans ((b2.block _ (by omega)).trans (by rw [← hz1]; exact heap_alloc_new _ _))
  have k2 : z3.heap[z1.heap.size]? = some (.cells #[.slice p data.length k] 40 (0, 0)) := (b3.block _ (by omega)).trans (by rw [← hz2]; exact heap_alloc_new _ _)
  have k3 : z3.heap[z2.heap.size]? = some (.cells #[.func (.func 72) #[] #[.pointer (some ⟨w.heap.size, 0, none⟩), .pointer (some ⟨z1.heap.size, 0, none⟩)], .func (.func 73) #[] #[.pointer (some ⟨w.heap.size, 0, none⟩)], .func (.func 74) #[] #[.pointer (some ⟨w.heap.size, 0, none⟩)]] 53 (0, 0)) := by rw [← hz3]; exact heap_alloc_new _ _
  have bz : Below w.heap.size w z3 := below_sub (below_sub b1 b2) b3
  obtain ⟨B', hB'⟩ : ∃ B' : Nat → Prop, B' = fun i => B i ∨ (w.heap.size ≤ i ∧ i < z3.heap.size) := ⟨_, rfl⟩
  have hB2 : ∀ i, B' i ↔ B i ∨ (w.heap.size ≤ i ∧ i < z3.heap.size) := fun i => by rw [hB']
  have hd0 : JAt B' z3 g s := (hd.more (B' := B') fun i hi => by rcases (hB2 i).1 hi with h | h; exact Or.inl h; exact Or.inr (Or.inl h.1)).below bz
  have hs0 : Sub B' z3 := fun i hi => by rcases (hB2 i).1 hi with h | h; have := hB i h; omega; exact h.2
  have hdt0 := hdt.below bz
  have hend : ∀ V S, JAt B' V g S → Kpt B' z3 V → JAt B V g S ∧ Kpt B w V := fun V S h1 h2 => ⟨h1.more fun i hi => Or.inl ((hB2 i).2 (Or.inl hi)), (Kpt.of bz).trans (h2.mono fun i hi => (hB2 i).2 (Or.inl hi))⟩
  have hcl : ∀ V, Kpt B' z3 V → (V.cell? ⟨w.heap.size, 0, none⟩ = some (.pointer (some ⟨g, 0, none⟩)) ∧ V.cell? ⟨z1.heap.size, 0, none⟩ = some (.slice p data.length k)) ∧ V.cell? ⟨z2.heap.size, 0, none⟩ = some (.func (.func 72) #[] #[.pointer (some ⟨w.heap.size, 0, none⟩), .pointer (some ⟨z1.heap.size, 0, none⟩)]) ∧ V.cell? ⟨z2.heap.size, 1, none⟩ = some (.func (.func 73) #[] #[.pointer (some ⟨w.heap.size, 0, none⟩)]) ∧ V.cell? ⟨z2.heap.size, 2, none⟩ = some (.func (.func 74) #[] #[.pointer (some ⟨w.heap.size, 0, none⟩)]) := fun V hV => by
    have e1 := (hV.block w.heap.size ((hB2 _).2 (Or.inr ⟨by omega, by omega⟩)) (by omega)).trans k1
    have e2 := (hV.block z1.heap.size ((hB2 _).2 (Or.inr ⟨by omega, by omega⟩)) (by omega)).trans k2
    have e3 := (hV.block z2.heap.size ((hB2 _).2 (Or.inr ⟨by omega, by omega⟩)) (by omega)).trans k3
    exact ⟨⟨cell_of_block e1 0, cell_of_block e2 0⟩, cell_of_block e3 0, cell_of_block e3 1, cell_of_block e3 2⟩
  have ha1 := appR_acts s data
  have ha2 := synR_acts (appR s data).2
  have HD := hide hd0
  have HS := hide hs0
  have HT := hide hdt0
  have HE := hide hend
  have HC := hide hcl
  have S1 := hide s1
  have S2 := hide s2
  have S3 := hide s3
  clear hd hB hdt s1 s2 s3 b1 b2 b3 k1 k2 k3 bz hB' hB2 hd0 hs0 hdt0 hend hcl
  go_enter Tryz.func39, Tryz.ntmps39
  go_wp2
  go_loopw [15] (fun v wr => ∃ (i : Int) (S : JS), v = .int .i64 i ∧ Hid (WSt s data i S) ∧ Hid (JAt B' wr g S) ∧ Hid (Kpt B' z3 wr) ∧ Hid (i = 0 → wr = z3)) (fun v _ => (3 - intOf v).toNat)
  case atStart => exact ⟨0, s, rfl, hide (Or.inl ⟨rfl, rfl⟩), HD, hide (Kpt.refl _ _), hide (fun _ => rfl)⟩
  case round =>
    obtain ⟨i, S, rfl, HW, HJ, HK, HZ⟩ := hrel
    obtain ⟨⟨x0, x1⟩, x2, x3, x4⟩ := unhide HC wr (unhide HK)
    have hsub : Sub B' wr := (unhide HS).trans (unhide HK).size
    rcases unhide HW with ⟨rfl, rfl⟩ | ⟨rfl, h1, rfl⟩ | ⟨rfl, h1, h2, rfl⟩ | ⟨rfl, h3⟩
    · have h := wa1 (unhide HJ) hsub (by omega) w.heap.size z1.heap.size p k data (by rw [unhide HZ rfl]; exact unhide HT) hl x0 x1
      by_cases he : (appR S data).1 = 0
      · rw [he] at h
        have HEQ := hide he
        clear he hsub
        go_wp2_with (go_at_call 72; refine h.mono ?_; rintro e w1 ⟨rfl, d1, q1⟩; have D1 := hide d1; have Q1 := hide ((unhide HK).trans q1); clear d1 q1)
        go_roundw
        case rel => exact ⟨1, _, rfl, hide (Or.inr (Or.inl ⟨rfl, unhide HEQ, rfl⟩)), D1, Q1, hide (fun h => absurd h (by decide))⟩
        case measure => simp [intOf]
      · obtain ⟨E, S9, hR⟩ : ∃ E S9, appR S data = (E, S9) := ⟨_, _, rfl⟩
        have HWR := hide ((write_1 he).trans hR)
        rw [hR] at h he
        have hE : (E == 0) = false := beq_eq_false_iff_ne.2 he
        clear he hsub hR
        go_wp2_with (go_at_call 72; refine h.mono ?_; rintro e w1 ⟨rfl, d1, q1⟩; have D1 := hide (unhide HE w1 _ d1 ((unhide HK).trans q1)); clear d1 q1)
        go_ret
        rw [unhide HWR]
        exact ⟨rfl, (unhide D1).1, (unhide D1).2⟩
    · have h := wa2 (unhide HJ) hsub (by omega) w.heap.size x0
      by_cases he : (synR (appR s data).2).1 = 0
      · rw [he] at h
        have HEQ := hide he
        clear he hsub
        go_wp2_with (go_at_call 73; refine h.mono ?_; rintro e w1 ⟨rfl, d1, q1⟩; have D1 := hide d1; have Q1 := hide ((unhide HK).trans q1); clear d1 q1)
        go_roundw
        case rel => exact ⟨2, _, rfl, hide (Or.inr (Or.inr (Or.inl ⟨rfl, h1, unhide HEQ, rfl⟩))), D1, Q1, hide (fun h => absurd h (by decide))⟩
        case measure => simp [intOf]
      · obtain ⟨E, S9, hR⟩ : ∃ E S9, synR (appR s data).2 = (E, S9) := ⟨_, _, rfl⟩
        have HWR := hide ((write_2 h1 he).trans hR)
        rw [hR] at h he
        have hE : (E == 0) = false := beq_eq_false_iff_ne.2 he
        clear he hsub hR
        go_wp2_with (go_at_call 73; refine h.mono ?_; rintro e w1 ⟨rfl, d1, q1⟩; have D1 := hide (unhide HE w1 _ d1 ((unhide HK).trans q1)); clear d1 q1)
        go_ret
        rw [unhide HWR]
        exact ⟨rfl, (unhide D1).1, (unhide D1).2⟩
    · have h := wa3 (unhide HJ) hsub (by omega) w.heap.size x0
      by_cases he : (renM (synR (appR s data).2).2).1 = 0
      · rw [he] at h
        have HEQ := hide he
        clear he hsub
        go_wp2_with (go_at_call 74; refine h.mono ?_; rintro e w1 ⟨rfl, d1, q1⟩; have D1 := hide d1; have Q1 := hide ((unhide HK).trans q1); clear d1 q1)
        go_roundw
        case rel => exact ⟨3, _, rfl, hide (Or.inr (Or.inr (Or.inr ⟨rfl, by rw [write_3 h1 h2, ← unhide HEQ]⟩))), D1, Q1, hide (fun h => absurd h (by decide))⟩
        case measure => simp [intOf]
      · obtain ⟨E, S9, hR⟩ : ∃ E S9, renM (synR (appR s data).2).2 = (E, S9) := ⟨_, _, rfl⟩
        have HWR := hide ((write_3 h1 h2).trans hR)
        rw [hR] at h he
        have hE : (E == 0) = false := beq_eq_false_iff_ne.2 he
        clear he hsub hR
        go_wp2_with (go_at_call 74; refine h.mono ?_; rintro e w1 ⟨rfl, d1, q1⟩; have D1 := hide (unhide HE w1 _ d1 ((unhide HK).trans q1)); clear d1 q1)
        go_ret
        rw [unhide HWR]
        exact ⟨rfl, (unhide D1).1, (unhide D1).2⟩
    · have HWR := hide h3
      have D1 := hide (unhide HE wr _ (unhide HJ) (unhide HK))
      clear hsub h3
      go_wp2
      go_ret
      rw [unhide HWR]
      exact ⟨rfl, (unhide D1).1, (unhide D1).2⟩
end Go.Proofs.YtfigjfmldpfjkaaGreat

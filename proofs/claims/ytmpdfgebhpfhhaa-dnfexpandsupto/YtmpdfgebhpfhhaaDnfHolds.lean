/- Literals in memory; what dnf.Holds and dnf.Any return. -/
import Derived.Test.YtmpdfgebhpfhhaaPushPlain
import Derived.Test.YtmpdfgebhpfhhaaEvEval
import Derived.Test.YtmpdfgebhpfhhaaLeaves
import Derived.Lib.QuietBelow
import Derived.BigQuiet
import Derived.Shelf.Abstract
namespace Go.Proofs.Ytmpdfgebhpfhhaa
open Go.RowKit Go.Sort

mutual
/-- The width, as a whole number. -/
def wN : Nd → Int
  | .mk _ _ _ _ _ _ op ks => if op = 4 then wSum ks else if op = 3 then wProd ks else 1
def wSum : List Nd → Int
  | [] => 0
  | x :: xs => wN x + wSum xs
def wProd : List Nd → Int
  | [] => 1
  | x :: xs => wN x * wProd xs
end
def lsum : List Int → Int
  | [] => 0
  | x :: xs => x + lsum xs
def lprod : List Int → Int
  | [] => 1
  | x :: xs => x * lprod xs
theorem wSum_l (l : List Nd) : wSum l = lsum (l.map wN) := by
  induction l with
  | nil => rfl
  | cons x l ih => simp [wSum, lsum, ih]
theorem wProd_l (l : List Nd) : wProd l = lprod (l.map wN) := by
  induction l with
  | nil => rfl
  | cons x l ih => simp [wProd, lprod, ih]
theorem lsum_ge {l : List Int} (h : ∀ x ∈ l, 1 ≤ x) : 0 ≤ lsum l := by
  induction l with
  | nil => simp [lsum]
  | cons x l ih => have := h x (by simp); have := ih fun y hy => h y (by simp [hy]); simp only [lsum]; omega
theorem mul_ge {a b : Int} (ha : 1 ≤ a) (hb : 1 ≤ b) : a ≤ a * b ∧ b ≤ a * b ∧ 1 ≤ a * b := by
  have h1 := Int.mul_le_mul_of_nonneg_left hb (show (0 : Int) ≤ a by omega)
  have h2 := Int.mul_le_mul_of_nonneg_right ha (show (0 : Int) ≤ b by omega)
  omega
theorem lprod_ge {l : List Int} (h : ∀ x ∈ l, 1 ≤ x) : 1 ≤ lprod l := by
  induction l with
  | nil => simp [lprod]
  | cons x l ih => have h1 := h x (by simp); have h2 := ih fun y hy => h y (by simp [hy]); simp only [lprod]; exact (mul_ge h1 h2).2.2
theorem sumGo_min (M : Int) : ∀ (ws : List Int) (s : Int), 0 ≤ s → s ≤ M → (∀ x ∈ ws, 1 ≤ x) → sumGo M (ws.map (fun x => min x (M + 1))) s = min (s + lsum ws) (M + 1) := by
  intro ws
  induction ws with
  | nil => intro s h0 h1 _; simp only [List.map_nil, sumGo, lsum]; omega
  | cons x l ih =>
    intro s h0 h1 h
    have hx := h x (by simp)
    have hl : ∀ y ∈ l, 1 ≤ y := fun y hy => h y (by simp [hy])
    have hg := lsum_ge hl
    simp only [List.map_cons, sumGo, lsum]
    by_cases hc : M - s < min x (M + 1)
    · rw [if_pos hc]; omega
    · rw [if_neg hc, ih _ (by omega) (by omega) hl]; omega
theorem prodGo_min (M : Int) : ∀ (ws : List Int) (p : Int), 1 ≤ p → p ≤ M → (∀ x ∈ ws, 1 ≤ x) → prodGo M (ws.map (fun x => min x (M + 1))) p = min (p * lprod ws) (M + 1) := by
  intro ws
  induction ws with
  | nil => intro p h0 h1 _; simp only [List.map_nil, prodGo, lprod, Int.mul_one]; omega
  | cons x l ih =>
    intro p h0 h1 h
    have hx := h x (by simp)
    have hl : ∀ y ∈ l, 1 ≤ y := fun y hy => h y (by simp [hy])
    have hg := lprod_ge hl
    have hm : 1 ≤ min x (M + 1) := by omega
    simp only [List.map_cons, prodGo, lprod]
    have hM : 0 ≤ M := by omega
    by_cases hc : M.tdiv (min x (M + 1)) < p
    · rw [if_pos hc]
      rw [Int.tdiv_eq_ediv_of_nonneg hM, Int.ediv_lt_iff_lt_mul (by omega)] at hc
      have h2 : p * min x (M + 1) ≤ p * x := Int.mul_le_mul_of_nonneg_left (by omega) (by omega)
      have h3 := (mul_ge (mul_ge h0 hx).2.2 hg).1
      rw [Int.mul_assoc] at h3
      omega
    · rw [if_neg hc]
      have hs := prod_step hM h0 (by omega) hc
      have h4 : min x (M + 1) ≤ p * min x (M + 1) := (mul_ge h0 hm).2.1
      have h5 : min x (M + 1) = x := by omega
      rw [h5] at hs ⊢
      rw [ih _ (by omega) (by omega) hl, Int.mul_assoc]
theorem bnd_id {m : Int} (h1 : 1 ≤ m) (h2 : m ≤ 64) : bnd m = m := by unfold bnd; omega
theorem wid_min {m : Int} (h1 : 1 ≤ m) (h2 : m ≤ 64) : ∀ t, chkN t = true → widN m t = min (wN t) (m + 1) ∧ 1 ≤ wN t := by
  intro t
  induction t using Nd.ind with
  | h kind attr ints words lo hi op kids ih =>
    intro hc
    have hl : chkL kids = true := by simp only [chkN, Bool.and_eq_true] at hc; exact hc.2
    have hall : ∀ x ∈ kids, widN m x = min (wN x) (m + 1) ∧ 1 ≤ wN x := fun x hx => ih x hx (chkL_all hl x hx)
    have hmap : widL m kids = (kids.map wN).map (fun x => min x (m + 1)) := by
      rw [widL_map, List.map_map]
      exact List.map_congr_left fun x hx => (hall x hx).1
    have hge : ∀ y ∈ kids.map wN, 1 ≤ y := fun y hy => by
      obtain ⟨x, hx, rfl⟩ := List.mem_map.1 hy
      exact (hall x hx).2
    simp only [widN, wN]
    by_cases h4 : op = 4
    · rw [if_pos h4, if_pos h4, wSum_l, hmap]
      unfold sumB
      rw [bnd_id h1 h2, sumGo_min m _ 0 (by omega) (by omega) hge]
      refine ⟨by omega, ?_⟩
      rcases chk_parts hc with ⟨h, _⟩ | ⟨h, _⟩ | ⟨_, hk, _⟩
      · omega
      · omega
      · match kids, hk with
        | x :: l, _ =>
          have hx := hge (wN x) (by simp)
          have := lsum_ge fun y (hy : y ∈ l.map wN) => hge y (by simp at hy ⊢; exact Or.inr hy)
          simp only [List.map_cons, lsum]; omega
    · rw [if_neg h4, if_neg h4]
      by_cases h3 : op = 3
      · rw [if_pos h3, if_pos h3, wProd_l, hmap]
        have hg := lprod_ge hge
        refine ⟨?_, hg⟩
        have hany : ((kids.map wN).map (fun x => min x (m + 1))).any (fun x => decide (x ≤ 0)) = false := by
          rw [List.any_eq_false]
          intro y hy
          obtain ⟨z, hz, rfl⟩ := List.mem_map.1 hy
          have := hge z hz
          simp; omega
        unfold prodB
        rw [hany, bnd_id h1 h2, prodGo_min m _ 1 (by omega) h1 hge]
        simp
      · rw [if_neg h3, if_neg h3]; omega
end Go.Proofs.Ytmpdfgebhpfhhaa
namespace Go.Proofs.Ytmpdfgebhpfhhaa
open Go.RowKit Go.Sort

/-- A literal. -/
structure Lt where
  kind : Int
  attr : ByteArray
  ints : List Int
  words : List ByteArray
  lo : Int
  hi : Int
  neg : Bool
def crossL (a b : List (List Lt)) : List (List Lt) := a.flatMap (fun x => b.map (fun y => x ++ y))
def negLit : List Nd → List (List Lt)
  | [] => []
  | .mk kind attr ints words lo hi _ _ :: _ => [[⟨kind, attr, ints, words, lo, hi, true⟩]]
mutual
/-- The conjunctions of a pushed tree, in their order. -/
def cjN : Nd → List (List Lt)
  | .mk kind attr ints words lo hi op ks => if op = 4 then cjSum ks else if op = 3 then cjProd ks else if op = 2 then negLit ks else [[⟨kind, attr, ints, words, lo, hi, false⟩]]
def cjSum : List Nd → List (List Lt)
  | [] => []
  | x :: xs => cjN x ++ cjSum xs
def cjProd : List Nd → List (List Lt)
  | [] => [[]]
  | x :: xs => crossL (cjN x) (cjProd xs)
end
theorem cross_len (a b : List (List Lt)) : (crossL a b).length = a.length * b.length := by
  induction a with
  | nil => simp [crossL]
  | cons x a ih =>
    have : crossL (x :: a) b = b.map (fun y => x ++ y) ++ crossL a b := by simp [crossL]
    rw [this, List.length_append, List.length_map, ih, List.length_cons, Nat.add_mul, Nat.one_mul, Nat.add_comm]
/-- What stands at a place of a choice. -/
theorem cross_get (a b : List (List Lt)) (i j : Nat) (x y : List Lt) (hi : a[i]? = some x) (hj : b[j]? = some y) : (crossL a b)[i * b.length + j]? = some (x ++ y) := by
  induction a generalizing i with
  | nil => simp at hi
  | cons z a ih =>
    have hc : crossL (z :: a) b = b.map (fun y => z ++ y) ++ crossL a b := by simp [crossL]
    have hjl := (List.getElem?_eq_some_iff.1 hj).1
    rw [hc]
    cases i with
    | zero =>
      simp only [List.getElem?_cons_zero, Option.some.injEq] at hi
      subst hi
      rw [Nat.zero_mul, Nat.zero_add, List.getElem?_append_left (by rw [List.length_map]; exact hjl), List.getElem?_map, hj]
      rfl
    | succ i =>
      rw [List.getElem?_append_right (by rw [List.length_map, Nat.add_mul]; omega), List.length_map, show (i + 1) * b.length + j - b.length = i * b.length + j by rw [Nat.add_mul]; omega]
      exact ih i (by simpa using hi)
def ltH (ev : List Pr) (l : Lt) : Bool := holdsB l.kind l.attr l.ints l.words l.lo l.hi ev != l.neg
/-- Does one of the conjunctions hold? -/
def anyC (ev : List Pr) (cs : List (List Lt)) : Bool := cs.any (fun c => c.all (ltH ev))
theorem anyC_app (ev : List Pr) (a b : List (List Lt)) : anyC ev (a ++ b) = (anyC ev a || anyC ev b) := by simp [anyC]
theorem anyC_map (ev : List Pr) (x : List Lt) (b : List (List Lt)) : anyC ev (b.map (fun y => x ++ y)) = (x.all (ltH ev) && anyC ev b) := by
  induction b with
  | nil => simp [anyC]
  | cons y b ih =>
    simp only [anyC, List.map_cons, List.any_cons] at ih ⊢
    rw [ih, List.all_append]
    cases x.all (ltH ev) <;> simp
theorem anyC_cross (ev : List Pr) (a b : List (List Lt)) : anyC ev (crossL a b) = (anyC ev a && anyC ev b) := by
  induction a with
  | nil => simp [crossL, anyC]
  | cons x a ih =>
    have hc : crossL (x :: a) b = b.map (fun y => x ++ y) ++ crossL a b := by simp [crossL]
    rw [hc, anyC_app, anyC_map, ih]
    have : anyC ev (x :: a) = (x.all (ltH ev) || anyC ev a) := by simp [anyC]
    rw [this]
    cases x.all (ltH ev) <;> cases anyC ev a <;> cases anyC ev b <;> rfl
theorem atL_all {l : List Nd} (h : atL l = true) : ∀ x ∈ l, atN x = true := by
  induction l with
  | nil => intro x hx; simp at hx
  | cons y l ih =>
    simp only [atL, Bool.and_eq_true] at h
    intro x hx
    rcases List.mem_cons.1 hx with rfl | hx
    · exact h.1
    · exact ih h.2 x hx
/-- As many as the width, and true just where the tree is. -/
theorem cj_all (ev : List Pr) : ∀ t, chkN t = true → atN t = true → ((cjN t).length : Int) = wN t ∧ anyC ev (cjN t) = truN ev t := by
  intro t
  induction t using Nd.ind with
  | h kind attr ints words lo hi op kids ih =>
    intro hc ha
    rcases chk_parts hc with ⟨rfl, rfl, hp⟩ | ⟨rfl, ⟨x, rfl, hx⟩, _⟩ | ⟨ho, h2, hl, _⟩
    · simp [cjN, wN, truN, anyC, ltH]
    · have h1 : opN x = 1 := by
        simpa [atN, headPred] using ha
      cases x with
      | mk k1 a1 i1 w1 l1 h1' o1 ks1 =>
        simp only [opN] at h1
        subst h1
        simp [cjN, negLit, wN, truN, anyT, anyC, ltH]
    · have n2 : ¬ op = 2 := by omega
      have hall : ∀ x ∈ kids, ((cjN x).length : Int) = wN x ∧ anyC ev (cjN x) = truN ev x := by
        simp only [atN, if_neg n2] at ha
        exact fun x hx => ih x hx (chkL_all hl x hx) (atL_all ha x hx)
      have hs : ((cjSum kids).length : Int) = wSum kids ∧ anyC ev (cjSum kids) = anyT ev kids ∧ ((cjProd kids).length : Int) = wProd kids ∧ anyC ev (cjProd kids) = allT ev kids := by
        clear ih hc ha h2 hl
        induction kids with
        | nil => simp [cjSum, cjProd, wSum, wProd, anyC, anyT, allT]
        | cons x l ih2 =>
          obtain ⟨i1, i2, i3, i4⟩ := ih2 fun y hy => hall y (by simp [hy])
          obtain ⟨j1, j2⟩ := hall x (by simp)
          refine ⟨?_, ?_, ?_, ?_⟩
          · simp only [cjSum, wSum, List.length_append, Int.natCast_add, i1, j1]
          · simp only [cjSum, anyT, anyC_app, i2, j2]
          · simp only [cjProd, wProd, cross_len, Int.natCast_mul, i3, j1]
          · simp only [cjProd, allT, anyC_cross, i4, j2]
      rcases ho with rfl | rfl
      · have n34 : ¬ (3 : Int) = 4 := by decide
        have n32 : ¬ (3 : Int) = 2 := by decide
        simp only [cjN, wN, truN, if_neg n34, if_neg n32, if_true]
        exact ⟨hs.2.2.1, hs.2.2.2⟩
      · have n42 : ¬ (4 : Int) = 2 := by decide
        have n43 : ¬ (4 : Int) = 3 := by decide
        simp only [cjN, wN, truN, if_neg n42, if_neg n43, if_true]
        exact ⟨hs.1, hs.2.1⟩
/-- The place of a conjunction of an Or. -/
theorem sum_get (x : Nd) (l : List Nd) (p : Nat) : (cjSum (x :: l))[p]? = if p < (cjN x).length then (cjN x)[p]? else (cjSum l)[p - (cjN x).length]? := by
  simp only [cjSum]
  by_cases h : p < (cjN x).length
  · rw [if_pos h, List.getElem?_append_left h]
  · rw [if_neg h, List.getElem?_append_right (by omega)]
/-- The place of a conjunction of an And. -/
theorem prod_get (x : Nd) (l : List Nd) (p : Nat) (hp : p < (cjN x).length * (cjProd l).length) : ∃ c d, (cjN x)[p / (cjProd l).length]? = some c ∧ (cjProd l)[p % (cjProd l).length]? = some d ∧ (cjProd (x :: l))[p]? = some (c ++ d) := by
  have hpos : 0 < (cjProd l).length := by
    rcases Nat.eq_zero_or_pos (cjProd l).length with h | h
    · rw [h, Nat.mul_zero] at hp; omega
    · exact h
  have h1 : p / (cjProd l).length < (cjN x).length := (Nat.div_lt_iff_lt_mul hpos).2 hp
  have h2 : p % (cjProd l).length < (cjProd l).length := Nat.mod_lt _ hpos
  refine ⟨_, _, List.getElem?_eq_getElem h1, List.getElem?_eq_getElem h2, ?_⟩
  have := cross_get (cjN x) (cjProd l) _ _ _ _ (List.getElem?_eq_getElem h1) (List.getElem?_eq_getElem h2)
  simp only [cjProd]
  rw [Nat.mul_comm, Nat.div_add_mod] at this
  exact this
end Go.Proofs.Ytmpdfgebhpfhhaa
namespace Go.Proofs.Ytmpdfgebhpfhhaa
open Go.RowKit Go.Sort

/-- A literal as it lies in memory. -/
structure Lv where
  kind : Int
  attr : ByteArray
  qi : Option Addr
  ni : Nat
  ci : Nat
  qw : Option Addr
  nw : Nat
  cw : Nat
  lo : Int
  hi : Int
  neg : Bool
instance : Inhabited Lv := ⟨⟨0, ⟨#[]⟩, none, 0, 0, none, 0, 0, 0, 0, false⟩⟩
def encL (u : Lv) : List Value := [.int .i64 u.kind, .string u.attr, .slice u.qi u.ni u.ci, .slice u.qw u.nw u.cw, .int .i64 u.lo, .int .i64 u.hi, .bool u.neg]
def LitIn (w : World) (u : Lv) (l : Lt) : Prop := u.kind = l.kind ∧ u.attr = l.attr ∧ u.ni = l.ints.length ∧ u.nw = l.words.length ∧ u.lo = l.lo ∧ u.hi = l.hi ∧ u.neg = l.neg ∧ SlOf encI 1 w u.qi u.ci l.ints ∧ SlOf encS 1 w u.qw u.cw l.words
theorem LitIn.keep {w w' : World} {u : Lv} {l : Lt} (h : LitIn w u l) (hb : Below w.heap.size w w') : LitIn w' u l := by
  obtain ⟨h1, h2, h3, h4, h5, h6, h7, h8, h9⟩ := h
  exact ⟨h1, h2, h3, h4, h5, h6, h7, h8.below hb, h9.below hb⟩
/-- A list of literals in memory. -/
def LitsOf (w : World) (q : Option Addr) (c : Nat) (ls : List Lt) : Prop := ∃ us, SlOf encL 7 w q c us ∧ us.length = ls.length ∧ ∀ (j : Nat) (u : Lv) (l : Lt), us[j]? = some u → ls[j]? = some l → LitIn w u l
theorem LitsOf.below {w w' : World} {q : Option Addr} {c : Nat} {ls : List Lt} (h : LitsOf w q c ls) (hb : Below w.heap.size w w') : LitsOf w' q c ls := by
  obtain ⟨us, h1, h2, h3⟩ := h
  exact ⟨us, h1.below hb, h2, fun j u l hj hl => (h3 j u l hj hl).keep hb⟩
theorem LitsOf.at {w : World} {q : Option Addr} {c : Nat} {ls : List Lt} {j : Nat} {l : Lt} (h : LitsOf w q c ls) (hj : ls[j]? = some l) :
    ∃ b off u, q = some ⟨b, off, none⟩ ∧ b < w.heap.size ∧ LitIn w u l ∧ w.cell? ⟨b, off + j * 7, none⟩ = some (.int .i64 u.kind) ∧ w.cell? ⟨b, off + j * 7 + 1, none⟩ = some (.string u.attr) ∧ w.cell? ⟨b, off + j * 7 + 2, none⟩ = some (.slice u.qi u.ni u.ci) ∧ w.cell? ⟨b, off + j * 7 + 3, none⟩ = some (.slice u.qw u.nw u.cw) ∧ w.cell? ⟨b, off + j * 7 + 4, none⟩ = some (.int .i64 u.lo) ∧ w.cell? ⟨b, off + j * 7 + 5, none⟩ = some (.int .i64 u.hi) ∧ w.cell? ⟨b, off + j * 7 + 6, none⟩ = some (.bool u.neg) := by
  obtain ⟨us, h1, h2, h3⟩ := h
  have hl : j < ls.length := (List.getElem?_eq_some_iff.1 hj).1
  obtain ⟨u, hu, _⟩ := get_at (l := us) (k := j) (by omega)
  obtain ⟨b, off, hq, hb, hc⟩ := h1.2.2.2.at hu
  exact ⟨b, off, u, hq, hb, h3 j u l hu hj, hc 0 (by omega), hc 1 (by omega), hc 2 (by omega), hc 3 (by omega), hc 4 (by omega), hc 5 (by omega), hc 6 (by omega)⟩
def litBound (ls : List Lt) : Prop := ∀ l ∈ ls, l.ints.length ≤ 1000000000 ∧ l.words.length ≤ 1000000000
theorem of7' {w : World} {M : Nat} {a0 a1 a2 a3 a4 a5 a6 : Value} {T : TypeId} (h : w.heap[M]? = some (.cells #[a0, a1, a2, a3, a4, a5, a6] T (0, 0))) : w.cell? ⟨M, 0, none⟩ = some a0 ∧ w.cell? ⟨M, 1, none⟩ = some a1 ∧ w.cell? ⟨M, 2, none⟩ = some a2 ∧ w.cell? ⟨M, 3, none⟩ = some a3 ∧ w.cell? ⟨M, 4, none⟩ = some a4 ∧ w.cell? ⟨M, 5, none⟩ = some a5 ∧ w.cell? ⟨M, 6, none⟩ = some a6 := by
  refine ⟨?_, ?_, ?_, ?_, ?_, ?_, ?_⟩ <;> (unfold World.cell?; simp [h])
theorem holds_lit (u : Lv) (l : Lt) (qe : Option Addr) (ce : Nat) (ev : List Pr) (w : World) (h : LitIn w u l) (h3 : SlOf encP 4 w qe ce ev) (l1 : l.ints.length ≤ 1000000000) (l2 : l.words.length ≤ 1000000000) (l3 : ev.length ≤ 100000000000000) :
    Calls Try.prog 33 #[.agg #[.int .i64 u.kind, .string u.attr, .slice u.qi u.ni u.ci, .slice u.qw u.nw u.cw, .int .i64 u.lo, .int .i64 u.hi], .slice qe ev.length ce] w fun e w' => e = .returned (.bool (holdsB l.kind l.attr l.ints l.words l.lo l.hi ev)) ∧ Below w.heap.size w w' := by
  obtain ⟨a1, a2, a3, a4, a5, a6, a7, a8, a9⟩ := h
  rw [a1, a2, a3, a4, a5, a6]
  exact holds_any l.kind l.attr u.qi u.ci l.ints u.qw u.cw l.words l.lo l.hi qe ce ev w a8 a9 h3 (by omega) (by omega) l3
set_option maxRecDepth 100000 in
set_option maxHeartbeats 8000000 in
theorem dnfHolds_any (qe : Option Addr) (ce : Nat) (ev : List Pr) (q : Option Addr) (c : Nat) (ls : List Lt) (w : World) (he : SlOf encP 4 w qe ce ev) (hl : LitsOf w q c ls) (hb : litBound ls) (l3 : ev.length ≤ 100000000000000) (ln : ls.length ≤ 1000000000) :
    Calls Try.prog 16 #[.slice qe ev.length ce, .slice q ls.length c] w fun e w' => e = .returned (.bool (ls.all (ltH ev))) ∧ Below w.heap.size w w' := by
  have mixed : Try.prog.follows .mixedOrders = true := by kernel_rfl
  have en23 : ∀ args w, (callFunc 33 args).run Try.prog w = .ok (.enter 33 args) w := enters_of Try.func33 (by kernel_rfl) rfl
  have a0 : (ls.length : Int) ≤ 1000000000 := by omega
  have HE := hide he
  have HL := hide hl
  have HBD := hide hb
  clear he hl hb
  go_enter Try.func16, Try.ntmps16
  go_wp2
  go_loopw [9] (fun i wr => ∃ k : Nat, k ≤ ls.length ∧ i = .int .i64 k ∧ (∀ (j : Nat) (l : Lt), j < k → ls[j]? = some l → ltH ev l = true) ∧ Below w.heap.size w wr) (fun i _ => ls.length - (intOf i).toNat)
  case atStart => exact ⟨0, by omega, rfl, fun j l h => absurd h (by omega), Below.refl _ _⟩
  case round =>
    obtain ⟨k, hkk, rfl, hall, hbel⟩ := hrel
    have HB := hide hbel
    have HALL := hide hall
    by_cases hlt : k < ls.length
    · obtain ⟨l, hl, hld⟩ := get_at hlt
      clear hld
      obtain ⟨b, off, u, hq, hbb, hin, g0, g1, g2, g3, g4, g5, g6⟩ := ((unhide HL).below hbel).at hl
      subst hq
      have hbd := unhide HBD l (List.mem_of_getElem? hl)
      have ki0 : (0 : Int) ≤ (k : Int) := by omega
      have ki1 : (k : Int) < (ls.length : Int) := by omega
      obtain ⟨G, hG⟩ : ∃ G, u.neg = G := ⟨_, rfl⟩
      rw [hG] at g6
      obtain ⟨Z, HZ⟩ : ∃ Z, wr.alloc (.cells #[.int .i64 u.kind, .string u.attr, .slice u.qi u.ni u.ci, .slice u.qw u.nw u.cw, .int .i64 u.lo, .int .i64 u.hi, .bool G] 47) = Z := ⟨_, rfl⟩
      have bZ : Below wr.heap.size wr Z := by rw [← HZ]; exact (Below.refl _ _).alloc (Nat.le_refl _) _
      have zk : Z.heap[wr.heap.size]? = some (.cells #[.int .i64 u.kind, .string u.attr, .slice u.qi u.ni u.ci, .slice u.qw u.nw u.cw, .int .i64 u.lo, .int .i64 u.hi, .bool G] 47 (0, 0)) := by rw [← HZ]; exact box_nw _ _
      obtain ⟨zc0, zc1, zc2, zc3, zc4, zc5, zc6⟩ := of7' zk
      have hneg : G = l.neg := by rw [← hG]; exact hin.2.2.2.2.2.2.1
      obtain ⟨H, hH⟩ : ∃ H, holdsB l.kind l.attr l.ints l.words l.lo l.hi ev = H := ⟨_, rfl⟩
      have q23 := fun (n : Nat) (os : Array Obj) => holds_lit u l qe ce ev (grow (redrawn Z n) os) (hin.keep (below_sub bZ (below_regrown Z n os))) ((unhide HE).below (below_sub hbel (below_sub bZ (below_regrown Z n os)))) hbd.1 hbd.2 l3
      rw [hH] at q23
      have HLT := hide (show ltH ev l = (H != G) by unfold ltH; rw [hH, hneg])
      have HLL := hide hl
      have z0 : ∀ n os, (grow (redrawn Z n) os).cell? ⟨wr.heap.size, 0, none⟩ = some (.int .i64 u.kind) := cell_regrown zc0
      have z1 : ∀ n os, (grow (redrawn Z n) os).cell? ⟨wr.heap.size, 1, none⟩ = some (.string u.attr) := cell_regrown zc1
      have z2 : ∀ n os, (grow (redrawn Z n) os).cell? ⟨wr.heap.size, 2, none⟩ = some (.slice u.qi u.ni u.ci) := cell_regrown zc2
      have z3 : ∀ n os, (grow (redrawn Z n) os).cell? ⟨wr.heap.size, 3, none⟩ = some (.slice u.qw u.nw u.cw) := cell_regrown zc3
      have z4 : ∀ n os, (grow (redrawn Z n) os).cell? ⟨wr.heap.size, 4, none⟩ = some (.int .i64 u.lo) := cell_regrown zc4
      have z5 : ∀ n os, (grow (redrawn Z n) os).cell? ⟨wr.heap.size, 5, none⟩ = some (.int .i64 u.hi) := cell_regrown zc5
      have z6 : ∀ n os, (grow (redrawn Z n) os).cell? ⟨wr.heap.size, 6, none⟩ = some (.bool G) := cell_regrown zc6
      have BZ := hide bZ
      clear hin hl hbel hall zk zc0 zc1 zc2 zc3 zc4 zc5 zc6 bZ hneg hH hbd hG
      go_wp2
      refine wp_region_quiet_below (by assumption) (by kernel_rfl) ?_
      repeat (go_big_quiet_step (first | (go_at_fn 33; refine Calls.regrown_of (q23 _ _))))
      refine wpQuiet_nil ?_
      intro _ hw'
      obtain ⟨⟨dq, osq⟩, hw''⟩ := hw'
      subst hw''
      clear q23 z0 z1 z2 z3 z4 z5 z6 g0 g1 g2 g3 g4 g5 g6 HZ
      have BF := hide (below_sub (unhide HB) (below_sub (unhide BZ) (below_regrown Z dq osq)))
      by_cases hc : H = G
      · subst hc
        have HF := hide (show ls.all (ltH ev) = false by
          rw [List.all_eq_false]
          exact ⟨l, List.mem_of_getElem? (unhide HLL), by rw [unhide HLT]; simp⟩)
        cases H
        all_goals
          go_wp2
          go_ret
          exact ⟨by rw [unhide HF]; rfl, unhide BF⟩
      · have HT := hide (show ltH ev l = true by rw [unhide HLT]; simp [hc])
        cases H <;> cases G
        all_goals first | (exact absurd rfl hc) | skip
        all_goals
          clear hc
          go_wp2
          go_roundw
          case rel =>
            refine ⟨k + 1, by omega, by go_num, fun j y hj hy => ?_, unhide BF⟩
            by_cases e : j = k
            · subst e; rw [unhide HLL] at hy; cases hy; exact unhide HT
            · exact unhide HALL j y (by omega) hy
          case measure => simp [intOf]; omega
    · have ki1 : ¬ (k : Int) < (ls.length : Int) := by omega
      clear hall hbel
      go_wp2
      go_ret
      refine ⟨?_, unhide HB⟩
      have : ls.all (ltH ev) = true := by
        rw [List.all_eq_true]
        intro l hl
        obtain ⟨j, hj⟩ := List.getElem?_of_mem hl
        exact unhide HALL j l (by have := (List.getElem?_eq_some_iff.1 hj).1; omega) hj
      rw [this]; rfl
/-- A list of lists of literals in memory. -/
def encQ (s : Option Addr × Nat × Nat) : List Value := [.slice s.1 s.2.1 s.2.2]
def CjsOf (w : World) (q : Option Addr) (c : Nat) (cs : List (List Lt)) : Prop := ∃ us : List (Option Addr × Nat × Nat), SlOf encQ 1 w q c us ∧ us.length = cs.length ∧ ∀ (j : Nat) (u : Option Addr × Nat × Nat) (ls : List Lt), us[j]? = some u → cs[j]? = some ls → u.2.1 = ls.length ∧ LitsOf w u.1 u.2.2 ls
theorem CjsOf.below {w w' : World} {q : Option Addr} {c : Nat} {cs : List (List Lt)} (h : CjsOf w q c cs) (hb : Below w.heap.size w w') : CjsOf w' q c cs := by
  obtain ⟨us, h1, h2, h3⟩ := h
  exact ⟨us, h1.below hb, h2, fun j u l hj hl => ⟨(h3 j u l hj hl).1, (h3 j u l hj hl).2.below hb⟩⟩
theorem CjsOf.at {w : World} {q : Option Addr} {c : Nat} {cs : List (List Lt)} {j : Nat} {ls : List Lt} (h : CjsOf w q c cs) (hj : cs[j]? = some ls) :
    ∃ b off q1 c1, q = some ⟨b, off, none⟩ ∧ b < w.heap.size ∧ LitsOf w q1 c1 ls ∧ w.cell? ⟨b, off + j, none⟩ = some (.slice q1 ls.length c1) := by
  obtain ⟨us, h1, h2, h3⟩ := h
  have hl : j < cs.length := (List.getElem?_eq_some_iff.1 hj).1
  obtain ⟨u, hu, _⟩ := get_at (l := us) (k := j) (by omega)
  obtain ⟨b, off, hq, hb, hc⟩ := h1.2.2.2.at hu
  obtain ⟨e1, e2⟩ := h3 j u ls hu hj
  have h0 := hc 0 (by omega)
  rw [Nat.mul_one, Nat.add_zero] at h0
  refine ⟨b, off, u.1, u.2.2, hq, hb, e2, ?_⟩
  rw [← e1]; exact h0
set_option maxRecDepth 100000 in
set_option maxHeartbeats 8000000 in
theorem dnfAny_any (qe : Option Addr) (ce : Nat) (ev : List Pr) (q : Option Addr) (c : Nat) (cs : List (List Lt)) (w : World) (he : SlOf encP 4 w qe ce ev) (hl : CjsOf w q c cs) (hb : ∀ ls ∈ cs, litBound ls ∧ ls.length ≤ 1000000000) (l3 : ev.length ≤ 100000000000000) (ln : cs.length ≤ 1000000000) :
    Calls Try.prog 15 #[.slice qe ev.length ce, .slice q cs.length c] w fun e w' => e = .returned (.bool (anyC ev cs)) ∧ Below w.heap.size w w' := by
  have a0 : (cs.length : Int) ≤ 1000000000 := by omega
  have HE := hide he
  have HL := hide hl
  have HBD := hide hb
  clear he hl hb
  go_enter Try.func15, Try.ntmps15
  go_wp2
  go_loopw [9] (fun i wr => ∃ k : Nat, k ≤ cs.length ∧ i = .int .i64 k ∧ (∀ (j : Nat) (l : List Lt), j < k → cs[j]? = some l → l.all (ltH ev) = false) ∧ Below w.heap.size w wr) (fun i _ => cs.length - (intOf i).toNat)
  case atStart => exact ⟨0, by omega, rfl, fun j l h => absurd h (by omega), Below.refl _ _⟩
  case round =>
    obtain ⟨k, hkk, rfl, hall, hbel⟩ := hrel
    have HB := hide hbel
    have HALL := hide hall
    by_cases hlt : k < cs.length
    · obtain ⟨l, hl, hld⟩ := get_at hlt
      clear hld
      obtain ⟨b, off, q1, c1, hq, hbb, hin, g0⟩ := ((unhide HL).below hbel).at hl
      subst hq
      have hbd := unhide HBD l (List.mem_of_getElem? hl)
      have ki0 : (0 : Int) ≤ (k : Int) := by omega
      have ki1 : (k : Int) < (cs.length : Int) := by omega
      have hC := dnfHolds_any qe ce ev q1 c1 l wr ((unhide HE).below hbel) hin hbd.1 l3 hbd.2
      have HLL := hide hl
      clear hin hl hbel hall hbd
      cases hc : l.all (ltH ev)
      · rw [hc] at hC
        go_wp2_with (go_at_call 16; refine hC.mono ?_; rintro e w2 ⟨rfl, b2⟩; have B2 := hide b2; clear b2)
        go_roundw
        case rel =>
          refine ⟨k + 1, by omega, by go_num, fun j y hj hy => ?_, below_sub (unhide HB) (unhide B2)⟩
          by_cases e : j = k
          · subst e; rw [unhide HLL] at hy; cases hy; exact hc
          · exact unhide HALL j y (by omega) hy
        case measure => simp [intOf]; omega
      · rw [hc] at hC
        go_wp2_with (go_at_call 16; refine hC.mono ?_; rintro e w2 ⟨rfl, b2⟩; have B2 := hide b2; clear b2)
        go_ret
        have : anyC ev cs = true := List.any_eq_true.2 ⟨l, List.mem_of_getElem? (unhide HLL), hc⟩
        exact ⟨by rw [this]; rfl, below_sub (unhide HB) (unhide B2)⟩
    · have ki1 : ¬ (k : Int) < (cs.length : Int) := by omega
      clear hall hbel
      go_wp2
      go_ret
      have : anyC ev cs = false := by
        unfold anyC
        rw [List.any_eq_false]
        intro l hl
        obtain ⟨j, hj⟩ := List.getElem?_of_mem hl
        have := unhide HALL j l (by have := (List.getElem?_eq_some_iff.1 hj).1; omega) hj
        simp [this]
      exact ⟨by rw [this]; rfl, unhide HB⟩
end Go.Proofs.Ytmpdfgebhpfhhaa

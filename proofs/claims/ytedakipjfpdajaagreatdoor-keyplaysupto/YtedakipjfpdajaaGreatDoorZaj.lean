/- The reference's Of, of every predicate. -/
import Derived.Test.YtedakipjfpdajaaGreatDoorRfO
import Derived.Test.YtedakipjfpdajaaGreatDoorZac
import Derived.Test.YtedakipjfpdajaaGreatDoorZaa
import Derived.Test.YtedakipjfpdajaaGreatDoorCompact
namespace Go.Proofs.YtedakipjfpdajaaGreatDoor
open Go.RowKit Go.Sort Go.Shelf

theorem pred_facts {kind : Int} {attr : ByteArray} {ints : List Int} {words : List ByteArray} {lo hi : Int} (h : predB kind attr ints words lo hi = true) : attr.size ≤ 32 ∧ ints.length ≤ 64 ∧ words.length ≤ 64 ∧ (∀ x ∈ words, x.size ≤ 64) ∧ (kind = 1 → words = []) ∧ (kind = 2 → ints = []) := by
  unfold predB at h
  rw [Bool.and_eq_true] at h
  obtain ⟨hn, h⟩ := h
  have ha : attr.size ≤ 32 := by unfold nameOk at hn; simp at hn; exact hn.1.1.2
  refine ⟨ha, ?_⟩
  by_cases h1 : kind = 1
  · subst h1
    simp [memB, emptyB] at h
    obtain ⟨⟨_, _, h3⟩, h4, _⟩ := h
    subst h4
    exact ⟨by omega, by simp, by simp, fun _ => rfl, fun h => by omega⟩
  by_cases h2 : kind = 2
  · subst h2
    simp [memB, emptyB, wordOk] at h
    obtain ⟨⟨h0, _, h3⟩, h4, _⟩ := h
    subst h4
    exact ⟨by simp, by omega, h0, fun h => by omega, fun _ => rfl⟩
  by_cases h3 : kind = 3
  · subst h3
    simp [emptyB] at h
    obtain ⟨_, h4, h5⟩ := h
    subst h4
    subst h5
    exact ⟨by simp, by simp, by simp, fun _ => rfl, fun _ => rfl⟩
  by_cases h4 : kind = 4
  · subst h4
    simp [memB, emptyB, wordOk] at h
    obtain ⟨⟨h0, _, h3⟩, h4, _⟩ := h
    subst h4
    exact ⟨by simp, by omega, h0, fun h => by omega, fun h => by omega⟩
  · simp [h1, h2, h3, h4] at h
theorem mx64 {n : Nat} (h : n ≤ 64) : n ≤ maxLen := Nat.le_trans h (by unfold maxLen; decide)
/-- trommelref12.Of. -/
theorem refOf_any (kind : Int) (attr : ByteArray) (qi : Option Addr) (ci : Nat) (ints : List Int) (qw : Option Addr) (cw : Nat) (words : List ByteArray) (lo hi : Int) (w : World) (h1 : SlOf encI 1 w qi ci ints) (h2 : SlOf encS 1 w qw cw words) (l1 : ints.length ≤ 100000000000000) (l2 : words.length ≤ 100000000000000) :
    Calls Tryz.prog 13 #[.agg #[.int .i64 kind, .string attr, .slice qi ints.length ci, .slice qw words.length cw, .int .i64 lo, .int .i64 hi]] w fun e w' => (∃ q c, e = .returned (.slice q (keysOf kind attr ints words lo hi).length c) ∧ SlOf encK 5 w' q c (keysOf kind attr ints words lo hi)) ∧ Below w.heap.size w w' := by
  unfold keysOf rawOf
  cases hp : predB kind attr ints words lo hi with
  | false =>
    rw [if_neg (by simp)]
    exact rof_no kind attr qi ints.length ci qw words.length cw lo hi w fun W hW => rnorm_no kind attr qi ci ints qw cw words lo hi W (h1.below hW) (h2.below hW) l1 l2 hp
  | true =>
    rw [if_pos rfl]
    obtain ⟨fa, f1, f2, fw, fe1, fe2⟩ := pred_facts hp
    have ha := mx64 (Nat.le_trans fa (by decide))
    have hw : ∀ x ∈ words, x.size ≤ maxLen := fun x hx => mx64 (fw x hx)
    have hset := fun (hk : kind ≠ 3) (W : World) (hW : Below w.heap.size w W) => rnorm_set kind attr qi ci ints qw cw words lo hi W (h1.below hW) (h2.below hW) l1 l2 hp hk hw (by omega) (by omega)
    rcases pred_kinds hp with ⟨rfl, hl⟩ | ⟨rfl, hl⟩ | rfl | ⟨rfl, hl⟩
    · rw [if_pos rfl]
      have := rof_set 1 attr qi ints.length ci qw words.length cw lo hi w 1 attr lo hi ints words (by decide) (by decide) f1 f2 ha hw (hset (by decide))
      rw [show ints.map (kInt attr) ++ words.map (kWord attr) = ints.map (kInt attr) by rw [fe1 rfl]; simp] at this
      exact this
    · rw [if_neg (by decide), if_pos rfl]
      have := rof_set 2 attr qi ints.length ci qw words.length cw lo hi w 2 attr lo hi ints words (by decide) (by decide) f1 f2 ha hw (hset (by decide))
      rw [show ints.map (kInt attr) ++ words.map (kWord attr) = words.map (kWord attr) by rw [fe2 rfl]; simp] at this
      exact this
    · rw [if_neg (by decide), if_neg (by decide), if_pos rfl]
      by_cases hc : hi < lo
      · rw [if_pos hc]
        exact rof_no 3 attr qi ints.length ci qw words.length cw lo hi w fun W hW => rnorm_none attr qi ci ints qw cw words lo hi W (h1.below hW) (h2.below hW) l1 l2 hp hc
      · rw [if_neg hc]
        by_cases he : lo = hi
        · rw [if_pos he]
          subst he
          exact rof_set 3 attr qi ints.length ci qw words.length cw lo lo w 1 attr 0 0 [lo] [] (by decide) (by decide) (by simp) (by simp) ha (by simp) fun W hW => (rnorm_one attr qi ci ints qw cw words lo W (h1.below hW) (h2.below hW) l1 l2 hp).mono fun e w' ⟨⟨q, c, he, hs⟩, hb⟩ => ⟨⟨[lo], [], q, c, none, 0, he, hs, SlOf.none _, sm_short _, sm_short _⟩, hb⟩
        · rw [if_neg he]
          exact rof_span 3 attr qi ints.length ci qw words.length cw lo hi w attr lo hi ints words f1 f2 ha fun W hW => rnorm_range attr qi ci ints qw cw words lo hi W (h1.below hW) (h2.below hW) l1 l2 hp (by omega) hw (by omega) (by omega)
    · rw [if_neg (by decide), if_neg (by decide), if_neg (by decide)]
      obtain ⟨s, rfl⟩ : ∃ s, words = [s] := List.length_eq_one_iff.1 hl
      exact rof_pre 4 attr qi ints.length ci qw 1 cw lo hi w attr lo hi ints s f1 ha (hw s (by simp)) (hset (by decide))
end Go.Proofs.YtedakipjfpdajaaGreatDoor
namespace Go.Proofs.YtedakipjfpdajaaGreatDoor
open Go.RowKit Go.Sort Go.Shelf

theorem flat_lenR (l : List Pr) : (flatK encR 4 l.toArray).toList.length = l.length * 4 := by simp [flatK]
theorem putR {B g cap : Nat} {w : World} {d : List Pr} (h : OwnK encR 42 4 B w (some ⟨g, 0, none⟩) cap d) {k : Nat} (hk : k < d.length) (x : Pr) :
    OwnK encR 42 4 B ((((w.setCell ⟨g, k * 4, none⟩ (.string x.name)).setCell ⟨g, k * 4 + 1, none⟩ (.int .i64 x.kind)).setCell ⟨g, k * 4 + 2, none⟩ (.int .i64 x.num)).setCell ⟨g, k * 4 + 3, none⟩ (.string x.word)) (some ⟨g, 0, none⟩) cap (d.set k x) := by
  obtain ⟨e1, e2⟩ := split_at hk x
  unfold OwnK at *
  have h2 := ((((h.stored (k * 4) (.string x.name)).1.stored (k * 4 + 1) (.int .i64 x.kind)).1.stored (k * 4 + 2) (.int .i64 x.num)).1.stored (k * 4 + 3) (.string x.word)).1
  rw [List.length_set]
  have hl : (flatK encR 4 (d.take k).toArray).toList.length = k * 4 := by rw [flat_lenR, List.length_take]; congr 1; omega
  have hf : (flatK encR 4 (d.set k x).toArray).toList = (((((flatK encR 4 d.toArray).toList.set (k * 4) (.string x.name)).set (k * 4 + 1) (.int .i64 x.kind)).set (k * 4 + 2) (.int .i64 x.num)).set (k * 4 + 3) (.string x.word)) := by
    rw [e2]
    conv => rhs; rw [e1]
    simp only [flat_app encR 4 (by decide), flat_oneR, List.append_assoc]
    simp [hl]
  rw [hf]
  exact h2
theorem atR {B g cap : Nat} {w : World} {d : List Pr} (h : OwnK encR 42 4 B w (some ⟨g, 0, none⟩) cap d) {k : Nat} {x : Pr} (hk : d[k]? = some x) : w.cell? ⟨g, k * 4, none⟩ = some (.string x.name) ∧ w.cell? ⟨g, k * 4 + 1, none⟩ = some (.int .i64 x.kind) ∧ w.cell? ⟨g, k * 4 + 2, none⟩ = some (.int .i64 x.num) ∧ w.cell? ⟨g, k * 4 + 3, none⟩ = some (.string x.word) := by
  obtain ⟨b, off, hq, _, c0, c1, c2, c3⟩ := pairAt h.ls hk
  obtain ⟨rfl, rfl⟩ : g = b ∧ 0 = off := by injection hq with hq; injection hq with h1 h2 _; exact ⟨h1, h2⟩
  rw [Nat.zero_add] at c0 c1 c2 c3
  exact ⟨c0, c1, c2, c3⟩
theorem freeR {B g cap : Nat} {w : World} {d : List Pr} (h : OwnK encR 42 4 B w (some ⟨g, 0, none⟩) cap d) (j : Nat) : w.frozen? ⟨g, j, none⟩ = false := World.ownsRow.frozenAt h j
theorem geR {B g cap : Nat} {w : World} {d : List Pr} (h : OwnK encR 42 4 B w (some ⟨g, 0, none⟩) cap d) : B ≤ g ∧ g < w.heap.size ∧ d.length ≤ cap ∧ cap ≤ maxLen := by
  rcases h.2 with ⟨h1, _⟩ | ⟨g', cap', cur, hv, hB, hblk, hc, hm, _⟩
  · injection h1 with h1; cases h1
  · injection hv with h1 h2 h3
    injection h1 with h1; injection h1 with h1
    subst h1 h3
    exact ⟨hB, (Array.getElem?_eq_some_iff.1 hblk).1, hc, hm⟩
/-- The comparison of two pairs by their names. -/
def cmpN (x y : Pr) : Int := cmpS x.name.data.toList y.name.data.toList
theorem isCmp_cases (x y : Pr) : cmpN x y < 0 ∨ 0 ≤ cmpN x y := by omega
theorem cmpN_neg (x y : Pr) : cmpN y x = - cmpN x y := isCmp_str.neg _ _
theorem cmpN_trans {x y z : Pr} (h1 : cmpN x y ≤ 0) (h2 : cmpN y z ≤ 0) : cmpN x z ≤ 0 := isCmp_str.trans _ _ _ h1 h2
theorem cmpN_zero {x y : Pr} : cmpN x y = 0 ↔ x.name = y.name := by
  unfold cmpN
  rw [isCmp_str.eq]
  exact ⟨fun h => bytes_ext h, fun h => by rw [h]⟩
theorem cmpN_lt {x y z : Pr} (h1 : cmpN x y < 0) (h2 : cmpN y z ≤ 0) : cmpN x z < 0 := by
  have h := cmpN_trans (Int.le_of_lt h1) h2
  refine Classical.byContradiction fun hn => ?_
  have e : x.name = z.name := cmpN_zero.1 (by omega)
  have h3 : cmpN y x ≤ 0 := by unfold cmpN at *; rw [e]; exact h2
  rw [cmpN_neg x y] at h3
  omega
set_option maxRecDepth 100000 in
theorem byName (x y : Pr) (w : World) : Calls Tryz.prog 66 #[.agg #[.string x.name, .int .i64 x.kind, .int .i64 x.num, .string x.word], .agg #[.string y.name, .int .i64 y.kind, .int .i64 y.num, .string y.word]] w fun e w' => e = .returned (.int .i64 (cmpN x y)) ∧ Below w.heap.size w w' := by
  go_enter Tryz.func66, Tryz.ntmps66
  go_wp2_with (go_at_call 54; refine (strCmp _ _ _).mono ?_; rintro e w1 ⟨rfl, hw⟩; obtain rfl := hw.symm)
  go_ret
  exact ⟨rfl, ((Below.refl _ _).alloc (Nat.le_refl _) _).alloc (by simp) _⟩
/-- The pairs of each name stand in the order in which they stood. -/
def Ste (d d' : List Pr) : Prop := d'.length = d.length ∧ ∀ nm : ByteArray, d'.filter (fun x => x.name.data.toList == nm.data.toList) = d.filter (fun x => x.name.data.toList == nm.data.toList)
theorem Ste.refl (d : List Pr) : Ste d d := ⟨rfl, fun _ => rfl⟩
theorem Ste.trans {a b c : List Pr} (h : Ste a b) (h2 : Ste b c) : Ste a c := ⟨h2.1.trans h.1, fun nm => (h2.2 nm).trans (h.2 nm)⟩
/-- Two neighbours' blocks change places: no name is in both. -/
theorem ste_blocks (P X Y S : List Pr) (h : ∀ x ∈ X, ∀ y ∈ Y, x.name ≠ y.name) : Ste (P ++ X ++ Y ++ S) (P ++ Y ++ X ++ S) := by
  refine ⟨by simp; omega, fun nm => ?_⟩
  simp only [List.filter_append]
  by_cases hx : ∃ x ∈ X, x.name = nm
  · obtain ⟨x, hx, rfl⟩ := hx
    have hy : Y.filter (fun y => y.name.data.toList == x.name.data.toList) = [] := by
      rw [List.filter_eq_nil_iff]
      intro y hy e
      exact h x hx y hy (bytes_ext (by simpa using e)).symm
    rw [hy]; simp
  · have hX : X.filter (fun y => y.name.data.toList == nm.data.toList) = [] := by
      rw [List.filter_eq_nil_iff]
      intro y hy e
      exact hx ⟨y, hy, bytes_ext (by simpa using e)⟩
    rw [hX]; simp
theorem two_at {d : List Pr} {j : Nat} {x y : Pr} (hx : d[j]? = some x) (hy : d[j + 1]? = some y) : d = d.take j ++ [x] ++ [y] ++ d.drop (j + 2) := by
  have h1 : d.drop j = x :: d.drop (j + 1) := by
    obtain ⟨z, hz, hd⟩ := get_at (l := d) (k := j) (List.getElem?_eq_some_iff.1 hx).1
    rw [hz] at hx; cases hx; exact hd
  have h2 : d.drop (j + 1) = y :: d.drop (j + 2) := by
    obtain ⟨z, hz, hd⟩ := get_at (l := d) (k := j + 1) (List.getElem?_eq_some_iff.1 hy).1
    rw [hz] at hy; cases hy; exact hd
  conv => lhs; rw [← List.take_append_drop j d, h1, h2]
  simp
/-- Two neighbours change places. -/
def swp (d : List Pr) (j : Nat) (x y : Pr) : List Pr := (d.set (j + 1) x).set j y
theorem swp_eq {d : List Pr} {j : Nat} {x y : Pr} (hx : d[j]? = some x) (hy : d[j + 1]? = some y) : swp d j x y = d.take j ++ [y] ++ [x] ++ d.drop (j + 2) := by
  have hl := (List.getElem?_eq_some_iff.1 hy).1
  have hj : j ≤ d.length := by omega
  have ht : (d.take j).length = j := by rw [List.length_take]; omega
  unfold swp
  conv => lhs; rw [two_at hx hy]
  rw [List.append_assoc, List.append_assoc, List.set_append_right _ _ (by omega), List.set_append_right _ _ (by omega), ht]
  simp
theorem ste_swp {d : List Pr} {j : Nat} {x y : Pr} (hx : d[j]? = some x) (hy : d[j + 1]? = some y) (h : x.name ≠ y.name) : Ste d (swp d j x y) := by
  have h2 := ste_blocks (d.take j) [x] [y] (d.drop (j + 2)) (fun a ha b hb => by
    obtain rfl : a = x := by simpa using ha
    obtain rfl : b = y := by simpa using hb
    exact h)
  rw [← two_at hx hy, ← swp_eq hx hy] at h2
  exact h2
theorem swp_get {d : List Pr} {j : Nat} {x y : Pr} (hx : d[j]? = some x) (hy : d[j + 1]? = some y) (p : Nat) : (swp d j x y)[p]? = if p = j then some y else if p = j + 1 then some x else d[p]? := by
  have hl := (List.getElem?_eq_some_iff.1 hy).1
  unfold swp
  by_cases e : p = j
  · subst e
    rw [if_pos rfl, List.getElem?_set_self (by rw [List.length_set]; omega)]
  · rw [if_neg e, List.getElem?_set_ne (fun h => e h.symm)]
    by_cases e2 : p = j + 1
    · subst e2
      rw [if_pos rfl, List.getElem?_set_self hl]
    · rw [if_neg e2, List.getElem?_set_ne (fun h => e2 h.symm)]
/-- Sorted by names between two places. -/
def Srt (d : List Pr) (a b : Nat) : Prop := ∀ p q x y, a ≤ p → p < q → q < b → d[p]? = some x → d[q]? = some y → cmpN x y ≤ 0
/-- Outside of two places nothing has turned. -/
def Out (d d' : List Pr) (a b : Nat) : Prop := ∀ p, p < a ∨ b ≤ p → d'[p]? = d[p]?
theorem Out.refl (d : List Pr) (a b : Nat) : Out d d a b := fun _ _ => rfl
theorem Out.trans {d d' d'' : List Pr} {a b : Nat} (h : Out d d' a b) (h2 : Out d' d'' a b) : Out d d'' a b := fun p hp => (h2 p hp).trans (h p hp)
/-- What is sorted up to i but for the one at j, which belongs ahead of all from there on. -/
def Ins (d : List Pr) (a i j : Nat) : Prop := (∀ p q x y, a ≤ p → p < q → q ≤ i → p ≠ j → q ≠ j → d[p]? = some x → d[q]? = some y → cmpN x y ≤ 0) ∧ ∀ q x y, j < q → q ≤ i → d[j]? = some x → d[q]? = some y → cmpN x y ≤ 0
theorem Ins.start {d : List Pr} {a i : Nat} (h : Srt d a i) : Ins d a i i := ⟨fun p q x y h1 h2 h3 _ h5 hx hy => h p q x y h1 h2 (by omega) hx hy, fun q _ _ h1 h2 => by omega⟩
theorem Ins.done {d : List Pr} {a i j : Nat} (h : Ins d a i j) (hj : j = a ∨ ∃ x y, d[j - 1]? = some x ∧ d[j]? = some y ∧ cmpN x y ≤ 0 ∧ a < j) (ha : a ≤ j) : Srt d a (i + 1) := by
  intro p q x y h1 h2 h3 hx hy
  by_cases hp : p = j
  · subst hp
    exact h.2 q x y h2 (by omega) hx hy
  · by_cases hq : q = j
    · subst hq
      rcases hj with hj | ⟨u, v, hu, hv, huv, _⟩
      · omega
      · rw [hv] at hy; cases hy
        by_cases e : p = q - 1
        · subst e; rw [hu] at hx; cases hx; exact huv
        · exact cmpN_trans (h.1 p (q - 1) x u h1 (by omega) (by omega) hp (by omega) hx hu) huv
    · exact h.1 p q x y h1 h2 (by omega) hp hq hx hy
theorem Ins.step {d : List Pr} {a i j : Nat} {x y : Pr} (h : Ins d a i (j + 1)) (hx : d[j]? = some x) (hy : d[j + 1]? = some y) (hc : cmpN y x < 0) (ha : a ≤ j) : Ins (swp d j x y) a i j := by
  constructor
  · intro p q u v h1 h2 h3 h4 h5 hu hv
    rw [swp_get hx hy] at hu hv
    rw [if_neg h4] at hu
    rw [if_neg h5] at hv
    by_cases ep : p = j + 1
    · rw [if_pos ep] at hu
      cases hu
      rw [if_neg (by omega)] at hv
      exact h.1 j q x v ha (by omega) h3 (by omega) (by omega) hx hv
    · rw [if_neg ep] at hu
      by_cases eq : q = j + 1
      · rw [if_pos eq] at hv
        cases hv
        exact h.1 p j u x h1 (by omega) (by omega) (by omega) (by omega) hu hx
      · rw [if_neg eq] at hv
        exact h.1 p q u v h1 h2 h3 ep eq hu hv
  · intro q u v h1 h2 hu hv
    rw [swp_get hx hy, if_pos rfl] at hu
    cases hu
    rw [swp_get hx hy, if_neg (by omega)] at hv
    by_cases eq : q = j + 1
    · rw [if_pos eq] at hv
      cases hv
      omega
    · rw [if_neg eq] at hv
      exact h.2 q y v (by omega) h2 hy hv
theorem out_swp {d : List Pr} {j a b : Nat} {x y : Pr} (hx : d[j]? = some x) (hy : d[j + 1]? = some y) (ha : a ≤ j) (hb : j + 1 < b) : Out d (swp d j x y) a b := by
  intro p hp
  rw [swp_get hx hy, if_neg (by omega), if_neg (by omega)]
end Go.Proofs.YtedakipjfpdajaaGreatDoor

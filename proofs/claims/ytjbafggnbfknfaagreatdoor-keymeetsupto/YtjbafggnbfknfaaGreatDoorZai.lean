/- The first pair of each name, in the order of the names: as a plain list; key.firsts answers it. -/
import Derived.Test.YtjbafggnbfknfaaGreatDoorStX
import Derived.Test.YtjbafggnbfknfaaGreatDoorEvH
import Derived.Test.YtjbafggnbfknfaaGreatDoorZac
namespace Go.Proofs.YtjbafggnbfknfaaGreatDoor
open Go.RowKit Go.Sort Go.Shelf

def nmIs (nm : ByteArray) (x : Pr) : Bool := x.name.data.toList == nm.data.toList
theorem nm_iff {nm : ByteArray} {x : Pr} : nmIs nm x = true ↔ x.name = nm := by
  unfold nmIs
  exact ⟨fun h => bytes_ext (by simpa using h), fun h => by simp [h]⟩
theorem nm_no {nm : ByteArray} {x : Pr} (h : x.name ≠ nm) : nmIs nm x = false := by
  rw [Bool.eq_false_iff]
  exact fun e => h (nm_iff.1 e)
theorem getP_find (s : ByteArray) (l : List Pr) : getP s l = l.find? (nmIs s) := by
  induction l with
  | nil => rfl
  | cons x l ih =>
    rw [List.find?_cons]
    show (if x.name.toList == s.toList then some x else getP s l) = _
    rw [ByteArray.toList_eq, ByteArray.toList_eq, ih]
    show (if nmIs s x = true then some x else _) = _
    cases nmIs s x <;> rfl
theorem stb_find {l D : List Pr} (h : Stb l D) (nm : ByteArray) : D.find? (nmIs nm) = l.find? (nmIs nm) := by
  rw [← List.head?_filter, ← List.head?_filter]
  exact congrArg List.head? (h.2 nm)
theorem sd_exists (l : List Pr) : ∃ D, Sd D ∧ Stb l D := by
  obtain ⟨j1, j2, j3⟩ := outer_spec (a := 0) (b := l.length) (l.length - 1) 1 l.toArray (by omega) (by omega) (by simp) (srt_one _ _)
  obtain ⟨M', _, h1, h2⟩ := seg_of (P := []) (M := l) (S := []) (a := 0) (b := l.length) rfl (by simp) (by simpa using j1) (by simpa using j2) j3
  exact ⟨M', h1, h2⟩
theorem sd_unique : ∀ (D D' : List Pr), Sd D → Sd D' → (∀ nm, D.filter (nmIs nm) = D'.filter (nmIs nm)) → D = D'
  | [], D', _, _, h => by
    cases D' with
    | nil => rfl
    | cons y T =>
      have := h y.name
      rw [List.filter_cons, if_pos (nm_iff.2 rfl)] at this
      cases this
  | x :: T, D', hs, hs', h => by
    cases D' with
    | nil =>
      have := h x.name
      rw [List.filter_cons, if_pos (nm_iff.2 rfl)] at this
      cases this
    | cons y T' =>
      have m1 : ∀ u, u ∈ x :: T → u ∈ y :: T' := fun u hu => by
        have : u ∈ (x :: T).filter (nmIs u.name) := List.mem_filter.2 ⟨hu, nm_iff.2 rfl⟩
        rw [h] at this
        exact (List.mem_filter.1 this).1
      have m2 : ∀ u, u ∈ y :: T' → u ∈ x :: T := fun u hu => by
        have : u ∈ (y :: T').filter (nmIs u.name) := List.mem_filter.2 ⟨hu, nm_iff.2 rfl⟩
        rw [← h] at this
        exact (List.mem_filter.1 this).1
      have c1 : cmpN y x ≤ 0 := by
        rcases List.mem_cons.1 (m1 x (by simp)) with e | e
        · rw [e]; exact Int.le_of_eq (cmpN_zero.2 rfl)
        · exact (List.pairwise_cons.1 hs').1 x e
      have c2 : cmpN x y ≤ 0 := by
        rcases List.mem_cons.1 (m2 y (by simp)) with e | e
        · rw [e]; exact Int.le_of_eq (cmpN_zero.2 rfl)
        · exact (List.pairwise_cons.1 hs).1 y e
      have hn : x.name = y.name := cmpN_zero.1 (by have := cmpN_neg x y; omega)
      have he := h x.name
      rw [List.filter_cons, if_pos (nm_iff.2 rfl), List.filter_cons, if_pos (nm_iff.2 hn.symm)] at he
      obtain ⟨rfl, _⟩ := List.cons.inj he
      rw [sd_unique T T' (List.pairwise_cons.1 hs).2 (List.pairwise_cons.1 hs').2 fun nm => ?_]
      have := h nm
      rw [List.filter_cons, List.filter_cons] at this
      by_cases e : nmIs nm x = true
      · rw [if_pos e, if_pos e] at this; exact (List.cons.inj this).2
      · rw [if_neg e, if_neg e] at this; exact this
theorem cptR_mem : ∀ (n : Nat) (D : List Pr), D.length = n → Sd D → ∀ x, x ∈ cptR D ↔ D.find? (nmIs x.name) = some x
  | 0, D, h, _, x => by
    obtain rfl := List.length_eq_zero_iff.1 h
    simp [cptR]
  | n + 1, D, h, hs, x => by
    rcases List.eq_nil_or_concat D with rfl | ⟨L, y, hD⟩
    · simp at h
    · rw [List.concat_eq_append] at hD
      subst hD
      obtain ⟨h1, _, h3⟩ := sd_app.1 hs
      have ih := cptR_mem n L (by simpa using h) h1
      rw [cptR_snoc, List.find?_append]
      unfold stepR
      split
      · next hl =>
        have hz : ∃ z ∈ L, z.name = y.name := by
          cases hg : (cptR L).getLast? with
          | none => rw [hg] at hl; cases hl
          | some z =>
            rw [hg] at hl
            have hz1 : z ∈ cptR L := List.mem_of_getLast? hg
            exact ⟨z, List.mem_of_find?_eq_some ((ih z).1 hz1), Option.some.inj hl⟩
        rw [ih x]
        by_cases e : x.name = y.name
        · cases hf : L.find? (nmIs x.name) with
          | none =>
            obtain ⟨z, hz1, hz2⟩ := hz
            exact absurd (nm_iff.2 (hz2.trans e.symm)) (List.find?_eq_none.1 hf z hz1)
          | some u => simp
        · have : [y].find? (nmIs x.name) = none := by rw [List.find?_cons, nm_no (Ne.symm e)]; rfl
          rw [this, Option.or_none]
      · next hl =>
        have hn : ∀ z ∈ L, z.name ≠ y.name := by
          intro z hz e
          rcases List.eq_nil_or_concat L with rfl | ⟨L', u, hD⟩
          · cases hz
          · rw [List.concat_eq_append] at hD
            subst hD
            rw [cptR_snoc, stepR_last] at hl
            have hu : u.name ≠ y.name := fun e => hl (by rw [e])
            have c1 : cmpN z u ≤ 0 := by
              rcases List.mem_append.1 hz with hz | hz
              · exact (sd_app.1 h1).2.2 z hz u (by simp)
              · obtain rfl : z = u := by simpa using hz
                exact Int.le_of_eq (cmpN_zero.2 rfl)
            have c2 := h3 u (by simp) y (by simp)
            have c3 : cmpN y u ≤ 0 := by unfold cmpN at *; rw [← e]; exact c1
            exact hu (cmpN_zero.1 (by have := cmpN_neg u y; omega))
        rw [List.mem_append, ih x]
        by_cases e : x.name = y.name
        · have hf : L.find? (nmIs x.name) = none := List.find?_eq_none.2 fun z hz h => hn z hz ((nm_iff.1 h).trans e)
          have hg : [y].find? (nmIs x.name) = some y := by rw [List.find?_cons, nm_iff.2 e.symm]
          rw [hf, hg]
          simp [eq_comm]
        · have hg : [y].find? (nmIs x.name) = none := by rw [List.find?_cons, nm_no (Ne.symm e)]; rfl
          have hxy : x ≠ y := fun h => e (by rw [h])
          rw [hg, Option.or_none]
          simp [hxy]
theorem cptR_len (l : List Pr) : (cptR l).length ≤ l.length := by
  have : ∀ (l acc : List Pr), (l.foldl stepR acc).length ≤ acc.length + l.length := by
    intro l
    induction l with
    | nil => intro acc; simp
    | cons x l ih =>
      intro acc
      rw [List.foldl_cons]
      refine Nat.le_trans (ih _) ?_
      unfold stepR
      split <;> simp <;> omega
  simpa [cptR] using this l []
/-- The first pair of each name, in the order of the names. -/
noncomputable def fstR (l : List Pr) : List Pr := cptR (sd_exists l).choose
theorem fstR_mem (l : List Pr) (x : Pr) : x ∈ fstR l ↔ getP x.name l = some x := by
  unfold fstR
  obtain ⟨h1, h2⟩ := (sd_exists l).choose_spec
  rw [cptR_mem _ _ rfl h1, stb_find h2, getP_find]
theorem fstR_len (l : List Pr) : (fstR l).length ≤ l.length := by
  unfold fstR
  have h := (sd_exists l).choose_spec.2.1
  have := cptR_len (sd_exists l).choose
  omega
theorem fstR_of {l D : List Pr} (h1 : Sd D) (h2 : Stb l D) : cptR D = fstR l := by
  unfold fstR
  obtain ⟨g1, g2⟩ := (sd_exists l).choose_spec
  rw [sd_unique D (sd_exists l).choose h1 g1 fun nm => (h2.2 nm).trans (g2.2 nm).symm]
/-- key.firsts. -/
theorem firsts_any (p : Option Addr) (c : Nat) (l : List Pr) (w : World) (hl : l.length * 48 ≤ 140737488355328) (hc : SlOf encR 4 w p c l) :
    Calls Tryz.prog 30 #[.slice p l.length c] w fun e w' => (∃ q cap, e = .returned (.slice q (fstR l).length cap) ∧ OwnK encR 42 4 w.heap.size w' q cap (fstR l)) ∧ Below w.heap.size w w' := by
  refine (firsts_of p c l w hl hc).mono ?_
  rintro e w' ⟨⟨q, cap, D, rfl, s1, s2, ho⟩, hb⟩
  rw [fstR_of s1 s2] at *
  exact ⟨⟨q, cap, rfl, ho⟩, hb⟩
end Go.Proofs.YtjbafggnbfknfaaGreatDoor
namespace Go.Proofs.YtjbafggnbfknfaaGreatDoor

theorem div_iff {p q d : Nat} (hd : 0 < d) (h : d ∣ p) : q / d = p / d ↔ p ≤ q ∧ q < p + d := by
  obtain ⟨k, rfl⟩ := h
  rw [Nat.mul_div_cancel_left k hd]
  rw [Nat.div_eq_iff hd]
  rw [Nat.mul_comm d k]
  omega
theorem cover_stab : ∀ (n p r q : Nat), r ≤ n → r < 2 ^ 64 →
    ((∃ x ∈ cover p r, q / 2 ^ x.1 = x.2) ↔ p ≤ q ∧ q < p + r) ∧ (∀ x ∈ cover p r, ∀ y ∈ cover p r, q / 2 ^ x.1 = x.2 → q / 2 ^ y.1 = y.2 → x = y) ∧ ∀ x ∈ cover p r, 2 ^ x.1 ≤ r
  | 0, p, r, q, h, _ => by
    obtain rfl : r = 0 := by omega
    rw [cover_zero]
    refine ⟨⟨fun ⟨x, hx, _⟩ => by simp at hx, fun h => by omega⟩, fun x hx => by simp at hx, fun x hx => by simp at hx⟩
  | n + 1, p, r, q, h, hr => by
    by_cases h0 : r = 0
    · subst h0
      rw [cover_zero]
      refine ⟨⟨fun ⟨x, hx, _⟩ => by simp at hx, fun h => by omega⟩, fun x hx => by simp at hx, fun x hx => by simp at hx⟩
    · have hp : 0 < r := by omega
      have hd := lv_dvd p r
      have hle := lv_le p r hp hr
      have hpos : 0 < 2 ^ lv p r := Nat.pow_pos (by decide)
      rw [cover_step p r hp]
      generalize lv p r = l at *
      obtain ⟨i1, i2, i3⟩ := cover_stab n (p + 2 ^ l) (r - 2 ^ l) q (by omega) (by omega)
      have hh := div_iff (q := q) hpos hd
      refine ⟨⟨?_, ?_⟩, ?_, ?_⟩
      · rintro ⟨x, hx, hq⟩
        rcases List.mem_cons.1 hx with rfl | hx
        · have := hh.1 hq
          omega
        · have := i1.1 ⟨x, hx, hq⟩
          omega
      · rintro ⟨a, b⟩
        by_cases e : q < p + 2 ^ l
        · exact ⟨(l, p / 2 ^ l), by simp, hh.2 ⟨a, e⟩⟩
        · obtain ⟨x, hx, hq⟩ := i1.2 ⟨by omega, by omega⟩
          exact ⟨x, by simp [hx], hq⟩
      · intro x hx y hy hqx hqy
        rcases List.mem_cons.1 hx with rfl | hx <;> rcases List.mem_cons.1 hy with rfl | hy
        · rfl
        · have h1 := hh.1 hqx
          have h2 := i1.1 ⟨y, hy, hqy⟩
          omega
        · have h1 := hh.1 hqy
          have h2 := i1.1 ⟨x, hx, hqx⟩
          omega
        · exact i2 x hx y hy hqx hqy
      · intro x hx
        rcases List.mem_cons.1 hx with rfl | hx
        · exact hle
        · exact Nat.le_trans (i3 x hx) (Nat.sub_le _ _)
end Go.Proofs.YtjbafggnbfknfaaGreatDoor

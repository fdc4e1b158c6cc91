/- A new queue in its place; Heads of queues that are told by their places. -/
import Derived.Test.YtfenkiplofnolaaPl4
namespace Go.Proofs.Ytfenkiplofnolaa
open Go.RowKit Go.Sort Go.Shelf

theorem cellK_ne {n : Nat} {g : Nat → Nat} {k j L : Nat} (hj : j ≠ k) (hk : k ≤ n) : cellK (max n (k + 1)) (upd g k L) j = cellK n g j := by
  unfold cellK
  rw [upd_ne _ _ hj]
  by_cases h : j < n
  · rw [if_pos h, if_pos (by omega)]
  · rw [if_neg h, if_neg (by omega)]
theorem cellK_same {n : Nat} {g : Nat → Nat} {k L : Nat} : cellK (max n (k + 1)) (upd g k L) k = .pointer (some ⟨L, 0, none⟩) := by
  unfold cellK
  rw [if_pos (by omega), upd_same]
theorem arr_put {n : Nat} {g : Nat → Nat} {k L : Nat} (hk : k ≤ n) (h4 : k < 4) : (arr n g).setIfInBounds k (.pointer (some ⟨L, 0, none⟩)) = arr (max n (k + 1)) (upd g k L) := by
  unfold arr
  obtain rfl | rfl | rfl | rfl : k = 0 ∨ k = 1 ∨ k = 2 ∨ k = 3 := by omega
  · rw [cellK_same, cellK_ne (j := 1) (by decide) hk, cellK_ne (j := 2) (by decide) hk, cellK_ne (j := 3) (by decide) hk]; rfl
  · rw [cellK_same, cellK_ne (j := 0) (by decide) hk, cellK_ne (j := 2) (by decide) hk, cellK_ne (j := 3) (by decide) hk]; rfl
  · rw [cellK_same, cellK_ne (j := 0) (by decide) hk, cellK_ne (j := 1) (by decide) hk, cellK_ne (j := 3) (by decide) hk]; rfl
  · rw [cellK_same, cellK_ne (j := 0) (by decide) hk, cellK_ne (j := 1) (by decide) hk, cellK_ne (j := 2) (by decide) hk]; rfl
theorem arr_cell {n : Nat} {g : Nat → Nat} {w : World} {A : Nat} {t : TypeId} (h : w.heap[A]? = some (.cells (arr n g) t (0, 0))) {k : Nat} (hk : k < n) (h4 : k < 4) : w.cell? ⟨A, k, none⟩ = some (.pointer (some ⟨g k, 0, none⟩)) ∧ w.frozen? ⟨A, k, none⟩ = false := by
  refine ⟨?_, frozen_free h⟩
  have h1 : w.cell? ⟨A, k, none⟩ = (arr n g)[k]? := by unfold World.cell?; simp [h]
  rw [h1]
  obtain rfl | rfl | rfl | rfl : k = 0 ∨ k = 1 ∨ k = 2 ∨ k = 3 := by omega
  all_goals
    unfold arr cellK
    simp [hk]
theorem arr_any {n : Nat} {g : Nat → Nat} {w : World} {A : Nat} {t : TypeId} (h : w.heap[A]? = some (.cells (arr n g) t (0, 0))) {k : Nat} (h4 : k < 4) : (∃ v, w.cell? ⟨A, k, none⟩ = some v) ∧ w.frozen? ⟨A, k, none⟩ = false := by
  refine ⟨?_, frozen_free h⟩
  have h1 : w.cell? ⟨A, k, none⟩ = (arr n g)[k]? := by unfold World.cell?; simp [h]
  rw [h1]
  obtain rfl | rfl | rfl | rfl : k = 0 ∨ k = 1 ∨ k = 2 ∨ k = 3 := by omega
  all_goals exact ⟨_, rfl⟩
section
variable {n : Nat} {w w1 w2 w' : World} {B A R : Nat} {gi gr : Nat → Nat} {q p : Nat → Option Addr} {c d m m' : Nat → Nat} {l l' : Nat → List Int}
theorem PS.neu (h : PS n w B A R gi gr q p c d m m' l l') (hB : B ≤ w.heap.size) {k mm : Nat} (hk : k ≤ n) (h4 : k < 4) (i1 : QIn encI 3 1 51 w1 w.heap.size none 0 mm []) (b1 : Below w.heap.size w w1) (i2 : RIn w2 w1.heap.size none 0 mm []) (b2 : Below w1.heap.size w1 w2) (hW : (∀ i, i ≠ A → i ≠ R → w'.heap[i]? = w2.heap[i]?) ∧ w'.heap[A]? = some (.cells ((arr n gi).setIfInBounds k (.pointer (some ⟨w.heap.size, 0, none⟩))) 25 (0, 0)) ∧ w'.heap[R]? = some (.cells ((arr n gr).setIfInBounds k (.pointer (some ⟨w1.heap.size, 0, none⟩))) 27 (0, 0)) ∧ Below B w2 w') :
    PS (max n (k + 1)) w' B A R (upd gi k w.heap.size) (upd gr k w1.heap.size) (upd q k none) (upd p k none) (upd c k 0) (upd d k 0) (upd m k mm) (upd m' k mm) (upd l k []) (upd l' k []) ∧ Stp B w w' (PF n A R gi gr q p) (PF (max n (k + 1)) A R (upd gi k w.heap.size) (upd gr k w1.heap.size) (upd q k none) (upd p k none)) := by
  obtain ⟨hW1, hWA, hWR, hWB⟩ := hW
  have hs1 := b1.size
  have hs2 := b2.size
  have hs3 := hWB.size
  have hAl := (Array.getElem?_eq_some_iff.1 h.arrA).1
  have hRl := (Array.getElem?_eq_some_iff.1 h.arrR).1
  have hl1 := i1.lt
  have hl2 := i2.lt
  have hix : ∀ k', k' < max n (k + 1) → k' = k ∨ (k' ≠ k ∧ k' < n) := fun k' hk' => by
    by_cases e : k' = k
    · exact Or.inl e
    · exact Or.inr ⟨e, by omega⟩
  have hold : ∀ i, i < w.heap.size → i ≠ A → i ≠ R → w'.heap[i]? = w.heap[i]? := fun i hi ha hr => by rw [hW1 i ha hr, b2.block i (by omega), b1.block i hi]
  have hQo : ∀ k', k' < n → QIn encI 3 1 51 w' (gi k') (q k') (c k') (m k') (l k') := fun k' hk' => (h.Q k' hk').kept fun i hi => hold i ((h.Q k' hk').ftlt hi) (ft_ne (h.Q k' hk') h.arrA (by decide) hi) (ft_ne (h.Q k' hk') h.arrR (by decide) hi)
  have hgA : ∀ k', k' < n → gr k' ≠ A ∧ gr k' ≠ R := fun k' hk' => by
    have hg := (h.Rr k' hk').1
    refine ⟨fun e => ?_, fun e => ?_⟩
    · have h1 := h.arrA; rw [← e, hg] at h1; injection h1 with h1; injection h1 with _ h2; exact absurd h2 (by decide)
    · have h1 := h.arrR; rw [← e, hg] at h1; injection h1 with h1; injection h1 with _ h2; exact absurd h2 (by decide)
  have hRo : ∀ k', k' < n → RIn w' (gr k') (p k') (d k') (m' k') (l' k') := fun k' hk' => (h.Rr k' hk').keep (by omega) (hold _ (h.Rr k' hk').lt (hgA k' hk').1 (hgA k' hk').2) fun i hi => hold i ((h.Rr k' hk').2.2.2.2.2 i hi) (h.apA k' hk' i hi).1 (h.apA k' hk' i hi).2
  have hftn : ∀ i, Ft w.heap.size none i → i = w.heap.size := fun i hi => by
    rcases hi with hi | hi
    · exact hi
    · simp at hi
  have hQn : QIn encI 3 1 51 w' w.heap.size none 0 mm [] := (i1.below b2).kept fun i hi => hW1 i (by have := hftn i hi; omega) (by have := hftn i hi; omega)
  have hRn : RIn w' w1.heap.size none 0 mm [] := i2.keep hs3 (hW1 _ (by omega) (by omega)) (fun i hi => by simp at hi)
  refine ⟨⟨by rw [hWA, arr_put hk h4], by rw [hWR, arr_put hk h4], fun k' hk' => ?_, fun k' hk' => ?_, fun k1 k2 h1 h2 hne i hi => ?_, fun k1 k2 h1 h2 hne => ?_, fun k1 k2 h1 h2 i hi hf => ?_, fun k1 k2 h1 h2 i hi => ?_, fun k1 h1 i hi => ?_, h.hA, h.hR, fun k' hk' => ?_, fun k' hk' => ?_⟩, ⟨⟨?_, ?_, ?_, by omega, fun i hi hs => ?_⟩, fun i hi => ?_, ?_⟩⟩
  · rcases hix k' hk' with rfl | ⟨e, hk'⟩
    · simp only [upd_same]; exact hQn
    · simp only [upd_ne _ _ e]; exact hQo k' hk'
  · rcases hix k' hk' with rfl | ⟨e, hk'⟩
    · simp only [upd_same]; exact hRn
    · simp only [upd_ne _ _ e]; exact hRo k' hk'
  · rcases hix k1 h1 with e1 | ⟨e1, n1⟩
    · subst e1
      rw [upd_same, upd_same] at hi
      rcases hix k2 h2 with e2 | ⟨e2, n2⟩
      · exact absurd e2.symm hne
      · rw [upd_ne _ _ e2, upd_ne _ _ e2]
        intro hf
        have := hftn i hi
        have := (h.Q k2 n2).ftlt hf
        omega
    · rw [upd_ne _ _ e1, upd_ne _ _ e1] at hi
      rcases hix k2 h2 with e2 | ⟨e2, n2⟩
      · subst e2
        rw [upd_same, upd_same]
        intro hf
        have := hftn i hf
        have := (h.Q k1 n1).ftlt hi
        omega
      · rw [upd_ne _ _ e2, upd_ne _ _ e2]
        exact h.apQ k1 k2 n1 n2 hne i hi
  · rcases hix k1 h1 with e1 | ⟨e1, n1⟩ <;> rcases hix k2 h2 with e2 | ⟨e2, n2⟩
    · exact absurd (e1.trans e2.symm) hne
    · subst e1
      rw [upd_same, upd_ne _ _ e2]
      have := (h.Rr k2 n2).lt
      omega
    · subst e2
      rw [upd_same, upd_ne _ _ e1]
      have := (h.Rr k1 n1).lt
      omega
    · rw [upd_ne _ _ e1, upd_ne _ _ e2]
      exact h.apG k1 k2 n1 n2 hne
  · rcases hix k1 h1 with e1 | ⟨e1, n1⟩
    · subst e1
      rw [upd_same] at hi
      simp at hi
    · rw [upd_ne _ _ e1] at hi
      have hil := (h.Rr k1 n1).2.2.2.2.2 i hi
      rcases hix k2 h2 with e2 | ⟨e2, n2⟩
      · subst e2
        rw [upd_same, upd_same] at hf
        have := hftn i hf
        omega
      · rw [upd_ne _ _ e2, upd_ne _ _ e2] at hf
        exact h.apR k1 k2 n1 n2 i hi hf
  · rcases hix k1 h1 with e1 | ⟨e1, n1⟩
    · subst e1
      rw [upd_same] at hi
      simp at hi
    · rw [upd_ne _ _ e1] at hi
      have hil := (h.Rr k1 n1).2.2.2.2.2 i hi
      rcases hix k2 h2 with e2 | ⟨e2, n2⟩
      · subst e2
        rw [upd_same]
        omega
      · rw [upd_ne _ _ e2]
        exact h.apP k1 k2 n1 n2 i hi
  · rcases hix k1 h1 with e1 | ⟨e1, n1⟩
    · subst e1
      rw [upd_same] at hi
      simp at hi
    · rw [upd_ne _ _ e1] at hi
      exact h.apA k1 n1 i hi
  · rcases hix k' hk' with e | ⟨e, hk'⟩
    · subst e
      rw [upd_same, upd_same]
      exact Hi.none hB
    · rw [upd_ne _ _ e, upd_ne _ _ e]
      exact h.hQ k' hk'
  · rcases hix k' hk' with e | ⟨e, hk'⟩
    · subst e
      rw [upd_same]
      omega
    · rw [upd_ne _ _ e]
      exact h.hG k' hk'
  · exact hWB.os.trans (b2.os.trans b1.os)
  · exact hWB.tape.trans (b2.tape.trans b1.tape)
  · exact hWB.output.trans (b2.output.trans b1.output)
  · exact hold i hs (fun e => hi (Or.inl e)) (fun e => hi (Or.inr (Or.inl e)))
  · rcases hi with hi | hi | ⟨k', hk', hi⟩
    · exact Or.inl (Or.inl hi)
    · exact Or.inl (Or.inr (Or.inl hi))
    · rcases hix k' hk' with e | ⟨e, hk'⟩
      · subst e
        rw [upd_same, upd_same, upd_same, upd_same] at hi
        rcases hi with hi | hi | hi
        · exact Or.inr (by have := hftn i hi; omega)
        · exact Or.inr (by omega)
        · simp at hi
      · rw [upd_ne _ _ e, upd_ne _ _ e, upd_ne _ _ e, upd_ne _ _ e] at hi
        exact Or.inl (Or.inr (Or.inr ⟨k', hk', hi⟩))
  · exact ((b1.mono hB).trans (b2.mono (by omega))).trans hWB
end
/-- The place of a queue. -/
noncomputable def inv (n : Nat) (g : Nat → Nat) (i : Nat) : Nat := @dite _ (∃ k, k < n ∧ g k = i) (Classical.propDecidable _) (fun h => h.choose) (fun _ => 0)
theorem inv_of {n : Nat} {g : Nat → Nat} (hj : ∀ k k', k < n → k' < n → k ≠ k' → g k ≠ g k') {k : Nat} (hk : k < n) : inv n g (g k) = k := by
  have hex : ∃ k', k' < n ∧ g k' = g k := ⟨k, hk, rfl⟩
  unfold inv
  rw [dif_pos hex]
  have h1 := hex.choose_spec
  exact Classical.byContradiction fun hne => hj _ _ h1.1 hk hne h1.2
theorem count_map {n : Nat} {g : Nat → Nat} (hj : ∀ k k', k < n → k' < n → k ≠ k' → g k ≠ g k') : ∀ (ks : List Nat), (∀ k ∈ ks, k < n) → ∀ k, k < n → (ks.map g).count (g k) = ks.count k
  | [], _, _, _ => by simp
  | a :: r, h, k, hk => by
    have ih := count_map hj r (fun x hx => h x (by simp [hx])) k hk
    have ha := h a (by simp)
    by_cases e : a = k
    · subst e
      rw [List.map_cons, List.count_cons_self, List.count_cons_self, ih]
    · rw [List.map_cons, List.count_cons_of_ne (hj a k ha hk e), List.count_cons_of_ne e, ih]
theorem hv_map {n : Nat} {g : Nat → Nat} (hj : ∀ k k', k < n → k' < n → k ≠ k' → g k ≠ g k') {ks : List Nat} (h : ∀ k ∈ ks, k < n) {lf l : Nat → List Int} (hl : ∀ k, k < n → lf (g k) = l k) : heads (ks.map g) lf = heads ks l := by
  unfold heads
  rw [List.length_map]
  apply List.map_congr_left
  intro i hi
  have hi' : i < ks.length := by simpa using hi
  obtain ⟨k, hk, _⟩ := get_at hi'
  have hkn := h k (List.mem_of_getElem? hk)
  rw [heads_at (gs := ks.map g) (k := i) (x := g k) (by rw [List.getElem?_map, hk]; rfl), heads_at hk, hl k hkn, ← List.map_take, count_map hj _ (fun x hx => h x (List.mem_of_mem_take hx)) k hkn]
section
variable {n : Nat} {w w1 w2 w' : World} {B A R : Nat} {gi gr : Nat → Nat} {q p : Nat → Option Addr} {c d m m' : Nat → Nat} {l l' : Nat → List Int}
theorem PS.injQ (h : PS n w B A R gi gr q p c d m m' l l') : ∀ k k', k < n → k' < n → k ≠ k' → gi k ≠ gi k' := fun k k' hk hk' hne e => h.apQ k k' hk hk' hne (gi k) (Or.inl rfl) (Or.inl e)
theorem PS.fam (h : PS n w B A R gi gr q p c d m m' l l') : Fam w (fun g => ∃ k, k < n ∧ gi k = g) (fun g => q (inv n gi g)) (fun g => c (inv n gi g)) (fun g => m (inv n gi g)) (fun g => l (inv n gi g)) := by
  refine ⟨fun g hg => ?_, fun g g' hg hg' hne i hi => ?_⟩
  · obtain ⟨k, hk, rfl⟩ := hg
    simp only [inv_of h.injQ hk]
    exact h.Q k hk
  · obtain ⟨k, hk, rfl⟩ := hg
    obtain ⟨k', hk', rfl⟩ := hg'
    simp only [inv_of h.injQ hk] at hi
    simp only [inv_of h.injQ hk']
    exact h.apQ k k' hk hk' (fun e => hne (by rw [e])) i hi
theorem PS.rfam (h : PS n w B A R gi gr q p c d m m' l l') : RFam w (fun g => ∃ k, k < n ∧ gr k = g) (fun g => p (inv n gr g)) (fun g => d (inv n gr g)) (fun g => m' (inv n gr g)) (fun g => l' (inv n gr g)) := by
  refine ⟨fun g hg => ?_, fun g g' hg hg' i hi => ?_⟩
  · obtain ⟨k, hk, rfl⟩ := hg
    simp only [inv_of h.apG hk]
    exact h.Rr k hk
  · obtain ⟨k, hk, rfl⟩ := hg
    obtain ⟨k', hk', rfl⟩ := hg'
    simp only [inv_of h.apG hk] at hi
    exact h.apP k k' hk hk' i hi
theorem PS.out_of (h : PS n w B A R gi gr q p c d m m' l l') {i : Nat} (hi : ∀ k, k < n → ¬ Ft (gi k) (q k) i) : Out (fun g => ∃ k, k < n ∧ gi k = g) (fun g => q (inv n gi g)) i := fun g hg hf => by
  obtain ⟨k, hk, rfl⟩ := hg
  simp only [inv_of h.injQ hk] at hf
  exact hi k hk hf
theorem PS.headsQ (h : PS n w B A R gi gr q p c d m m' l l') (hB : B ≤ w.heap.size) {l1 : Nat → List Int} {lf1 : Nat → List Int} (hf : Fam w' (fun g => ∃ k, k < n ∧ gi k = g) (fun g => q (inv n gi g)) (fun g => c (inv n gi g)) (fun g => m (inv n gi g)) lf1) (hl : ∀ k, k < n → lf1 (gi k) = l1 k) (hk : Kpt (Out (fun g => ∃ k, k < n ∧ gi k = g) (fun g => q (inv n gi g))) w w') :
    PS n w' B A R gi gr q p c d m m' l1 l' ∧ Stp B w w' (PF n A R gi gr q p) (PF n A R gi gr q p) := by
  have hkb : ∀ i, (∀ k, k < n → ¬ Ft (gi k) (q k) i) → i < w.heap.size → w'.heap[i]? = w.heap[i]? := fun i hi hs => hk.block i (h.out_of hi) hs
  refine ⟨{ h with arrA := ?_, arrR := ?_, Q := fun k hk' => ?_, Rr := fun k hk' => ?_ }, ⟨hk.mono fun i hi => h.out_of fun k hk' hf => hi (Or.inr (Or.inr ⟨k, hk', Or.inl hf⟩)), fun i hi => Or.inl hi, hk.below fun i hi => ⟨h.out_of fun k hk' hf => by have := h.hQ k hk' i hf; omega, by omega⟩⟩⟩
  · exact (hkb A (fun k hk' hf => ft_ne (h.Q k hk') h.arrA (by decide) hf rfl) (Array.getElem?_eq_some_iff.1 h.arrA).1).trans h.arrA
  · exact (hkb R (fun k hk' hf => ft_ne (h.Q k hk') h.arrR (by decide) hf rfl) (Array.getElem?_eq_some_iff.1 h.arrR).1).trans h.arrR
  · have := hf.q (gi k) ⟨k, hk', rfl⟩
    simp only [inv_of h.injQ hk'] at this
    rw [hl k hk'] at this
    exact this
  · exact (h.Rr k hk').keep hk.size (hkb _ (fun k' hk2 hf => ft_ne (h.Q k' hk2) (h.Rr k hk').1 (by decide) hf rfl) (h.Rr k hk').lt) fun i hi => hkb i (fun k' hk2 => h.apR k k' hk' hk2 i hi) ((h.Rr k hk').2.2.2.2.2 i hi)
theorem PS.headsR (h : PS n w B A R gi gr q p c d m m' l l') (hB : B ≤ w.heap.size) {l1 : Nat → List Int} {lf1 : Nat → List Int} {pf : Nat → Option Addr} {df : Nat → Nat} (hf : RFam w' (fun g => ∃ k, k < n ∧ gr k = g) pf df (fun g => m' (inv n gr g)) lf1) (hpf : ∀ g, (pf g).map (·.block) = (p (inv n gr g)).map (·.block)) (hl : ∀ k, k < n → lf1 (gr k) = l1 k) (hk : Kpt (fun i => ¬ ∃ k, k < n ∧ gr k = i) w w') :
    PS n w' B A R gi gr q (fun k => pf (gr k)) c (fun k => df (gr k)) m m' l l1 ∧ Stp B w w' (PF n A R gi gr q p) (PF n A R gi gr q (fun k => pf (gr k))) := by
  have hpk : ∀ k, k < n → (pf (gr k)).map (·.block) = (p k).map (·.block) := fun k hk' => by rw [hpf, inv_of h.apG hk']
  have hkb : ∀ i, (∀ k, k < n → i ≠ gr k) → i < w.heap.size → w'.heap[i]? = w.heap[i]? := fun i hi hs => hk.block i (fun ⟨k, hk', e⟩ => hi k hk' e.symm) hs
  have hgA : ∀ k', k' < n → gr k' ≠ A ∧ gr k' ≠ R := fun k' hk' => by
    have hg := (h.Rr k' hk').1
    refine ⟨fun e => ?_, fun e => ?_⟩
    · have h1 := h.arrA; rw [← e, hg] at h1; injection h1 with h1; injection h1 with _ h2; exact absurd h2 (by decide)
    · have h1 := h.arrR; rw [← e, hg] at h1; injection h1 with h1; injection h1 with _ h2; exact absurd h2 (by decide)
  refine ⟨{ h with arrA := ?_, arrR := ?_, Q := fun k hk' => ?_, Rr := fun k hk' => ?_, apR := fun k k' h1 h2 i hi => h.apR k k' h1 h2 i (by rw [← hpk k h1]; exact hi), apP := fun k k' h1 h2 i hi => h.apP k k' h1 h2 i (by rw [← hpk k h1]; exact hi), apA := fun k h1 i hi => h.apA k h1 i (by rw [← hpk k h1]; exact hi) }, ⟨hk.mono fun i hi ⟨k, hk', e⟩ => hi (Or.inr (Or.inr ⟨k, hk', Or.inr (Or.inl e.symm)⟩)), fun i hi => ?_, hk.below fun i hi => ⟨fun ⟨k, hk', e⟩ => by have := h.hG k hk'; omega, by omega⟩⟩⟩
  · exact (hkb A (fun k hk' e => (hgA k hk').1 e.symm) (Array.getElem?_eq_some_iff.1 h.arrA).1).trans h.arrA
  · exact (hkb R (fun k hk' e => (hgA k hk').2 e.symm) (Array.getElem?_eq_some_iff.1 h.arrR).1).trans h.arrR
  · exact (h.Q k hk').kept fun i hi => hkb i (fun k' hk2 => ft_ne (h.Q k hk') (h.Rr k' hk2).1 (by decide) hi) ((h.Q k hk').ftlt hi)
  · have := hf.r (gr k) ⟨k, hk', rfl⟩
    simp only [inv_of h.apG hk'] at this
    rw [hl k hk'] at this
    exact this
  · refine Or.inl ?_
    rcases hi with hi | hi | ⟨k, hk', hi | hi | hi⟩
    · exact Or.inl hi
    · exact Or.inr (Or.inl hi)
    · exact Or.inr (Or.inr ⟨k, hk', Or.inl hi⟩)
    · exact Or.inr (Or.inr ⟨k, hk', Or.inr (Or.inl hi)⟩)
    · exact Or.inr (Or.inr ⟨k, hk', Or.inr (Or.inr (by rw [← hpk k hk']; exact hi))⟩)
end
end Go.Proofs.Ytfenkiplofnolaa

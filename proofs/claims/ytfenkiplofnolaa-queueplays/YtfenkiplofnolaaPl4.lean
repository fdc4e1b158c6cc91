/- Four queues and the document's four, side by side. -/
import Derived.Test.YtfenkiplofnolaaPl3
namespace Go.Proofs.Ytfenkiplofnolaa
open Go.RowKit Go.Sort Go.Shelf

def cellK (n : Nat) (g : Nat → Nat) (j : Nat) : Value := if j < n then .pointer (some ⟨g j, 0, none⟩) else .pointer none
def arr (n : Nat) (g : Nat → Nat) : Array Value := #[cellK n g 0, cellK n g 1, cellK n g 2, cellK n g 3]
structure PS (n : Nat) (w : World) (B A R : Nat) (gi gr : Nat → Nat) (q p : Nat → Option Addr) (c d m m' : Nat → Nat) (l l' : Nat → List Int) : Prop where
  arrA : w.heap[A]? = some (.cells (arr n gi) 25 (0, 0))
  arrR : w.heap[R]? = some (.cells (arr n gr) 27 (0, 0))
  Q : ∀ k, k < n → QIn encI 3 1 51 w (gi k) (q k) (c k) (m k) (l k)
  Rr : ∀ k, k < n → RIn w (gr k) (p k) (d k) (m' k) (l' k)
  apQ : ∀ k k', k < n → k' < n → k ≠ k' → ∀ i, Ft (gi k) (q k) i → ¬ Ft (gi k') (q k') i
  apG : ∀ k k', k < n → k' < n → k ≠ k' → gr k ≠ gr k'
  apR : ∀ k k', k < n → k' < n → ∀ i, (p k).map (·.block) = some i → ¬ Ft (gi k') (q k') i
  apP : ∀ k k', k < n → k' < n → ∀ i, (p k).map (·.block) = some i → i ≠ gr k'
  apA : ∀ k, k < n → ∀ i, (p k).map (·.block) = some i → i ≠ A ∧ i ≠ R
  hA : B ≤ A
  hR : B ≤ R
  hQ : ∀ k, k < n → Hi B (gi k) (q k)
  hG : ∀ k, k < n → B ≤ gr k
/-- The blocks of all. -/
def PF (n A R : Nat) (gi gr : Nat → Nat) (q p : Nat → Option Addr) (i : Nat) : Prop := i = A ∨ i = R ∨ ∃ k, k < n ∧ (Ft (gi k) (q k) i ∨ i = gr k ∨ (p k).map (·.block) = some i)
/-- What a step turns, and what it takes. -/
structure Stp (B : Nat) (w w' : World) (F F' : Nat → Prop) : Prop where
  k : Kpt (fun i => ¬ F i) w w'
  f : ∀ i, F' i → F i ∨ w.heap.size ≤ i
  b : Below B w w'
theorem Stp.trans {B : Nat} {w w1 w2 : World} {F F1 F2 : Nat → Prop} (h : Stp B w w1 F F1) (h2 : Stp B w1 w2 F1 F2) : Stp B w w2 F F2 := by
  refine ⟨⟨h2.k.os.trans h.k.os, h2.k.tape.trans h.k.tape, h2.k.output.trans h.k.output, Nat.le_trans h.k.size h2.k.size, fun i hi hs => ?_⟩, fun i hi => ?_, h.b.trans h2.b⟩
  · refine (h2.k.block i (fun hf => ?_) (Nat.lt_of_lt_of_le hs h.k.size)).trans (h.k.block i hi hs)
    rcases h.f i hf with h3 | h3
    · exact hi h3
    · omega
  · rcases h2.f i hi with h3 | h3
    · exact h.f i h3
    · exact Or.inr (Nat.le_trans h.k.size h3)
theorem Stp.of {B : Nat} {w w' : World} {F : Nat → Prop} (h : Below w.heap.size w w') (hB : B ≤ w.heap.size) : Stp B w w' F F := ⟨Kpt.of h, fun _ h => Or.inl h, h.mono hB⟩
theorem ft_ne {w : World} {g : Nat} {q : Option Addr} {c m : Nat} {l : List Int} (h : QIn encI 3 1 51 w g q c m l) {A : Nat} {cs : Array Value} {t : TypeId} (hA : w.heap[A]? = some (.cells cs t (0, 0))) (ht : t ≠ 3 ∧ t ≠ 51) {i : Nat} (hi : Ft g q i) : i ≠ A := fun e => by
  obtain ⟨cs', t', h3, h4⟩ := ft_typ h hi
  rw [e, hA] at h3
  injection h3 with h3
  injection h3 with h5 h6
  rw [← h6] at h4
  rcases h4 with h | h
  · exact ht.1 h
  · exact ht.2 h
section
variable {n : Nat} {w w' : World} {B A R : Nat} {gi gr : Nat → Nat} {q p : Nat → Option Addr} {c d m m' : Nat → Nat} {l l' : Nat → List Int}
theorem PS.pf_lt (h : PS n w B A R gi gr q p c d m m' l l') {i : Nat} (hi : PF n A R gi gr q p i) : i < w.heap.size := by
  rcases hi with rfl | rfl | ⟨k, hk, hi | rfl | hi⟩
  · exact (Array.getElem?_eq_some_iff.1 h.arrA).1
  · exact (Array.getElem?_eq_some_iff.1 h.arrR).1
  · exact (h.Q k hk).ftlt hi
  · exact (h.Rr k hk).lt
  · exact (h.Rr k hk).2.2.2.2.2 i hi
theorem PS.kept (h : PS n w B A R gi gr q p c d m m' l l') (hs : w.heap.size ≤ w'.heap.size) (hb : ∀ i, PF n A R gi gr q p i → w'.heap[i]? = w.heap[i]?) : PS n w' B A R gi gr q p c d m m' l l' :=
  { h with
    arrA := (hb A (Or.inl rfl)).trans h.arrA
    arrR := (hb R (Or.inr (Or.inl rfl))).trans h.arrR
    Q := fun k hk => (h.Q k hk).kept fun i hi => hb i (Or.inr (Or.inr ⟨k, hk, Or.inl hi⟩))
    Rr := fun k hk => (h.Rr k hk).keep hs (hb _ (Or.inr (Or.inr ⟨k, hk, Or.inr (Or.inl rfl)⟩))) fun i hi => hb i (Or.inr (Or.inr ⟨k, hk, Or.inr (Or.inr hi)⟩)) }
theorem PS.below (h : PS n w B A R gi gr q p c d m m' l l') (hb : Below w.heap.size w w') : PS n w' B A R gi gr q p c d m m' l l' := h.kept hb.size fun i hi => hb.block i (h.pf_lt hi)
theorem PS.opQ (h : PS n w B A R gi gr q p c d m m' l l') (hB : B ≤ w.heap.size) {k : Nat} (hk : k < n) {q' : Option Addr} {c' : Nat} {l1 : List Int} (hq : QIn encI 3 1 51 w' (gi k) q' c' (m k) l1) (hm : Mv w w' (gi k) (q k) q') :
    PS n w' B A R gi gr (upd q k q') p (upd c k c') d m m' (upd l k l1) l' ∧ Stp B w w' (PF n A R gi gr q p) (PF n A R gi gr (upd q k q') p) := by
  have hnA : ∀ i, Ft (gi k) (q k) i → i ≠ A := fun i hi => ft_ne (h.Q k hk) h.arrA (by decide) hi
  have hnR : ∀ i, Ft (gi k) (q k) i → i ≠ R := fun i hi => ft_ne (h.Q k hk) h.arrR (by decide) hi
  have hnG : ∀ k', k' < n → ∀ i, Ft (gi k) (q k) i → i ≠ gr k' := fun k' hk' i hi => ft_ne (h.Q k hk) (h.Rr k' hk').1 (by decide) hi
  have hft : ∀ i, Ft (gi k) q' i → Ft (gi k) (q k) i ∨ w.heap.size ≤ i := hm.2
  have hkb : ∀ i, ¬ Ft (gi k) (q k) i → i < w.heap.size → w'.heap[i]? = w.heap[i]? := fun i hi hs => hm.1.block i hi hs
  refine ⟨⟨?_, ?_, fun k' hk' => ?_, fun k' hk' => ?_, fun k1 k2 h1 h2 hne i hi => ?_, h.apG, fun k1 k2 h1 h2 i hi hf => ?_, h.apP, h.apA, h.hA, h.hR, fun k' hk' => ?_, h.hG⟩, ⟨hm.1.mono fun i hi hf => hi (Or.inr (Or.inr ⟨k, hk, Or.inl hf⟩)), fun i hi => ?_, hm.below (h.hQ k hk) hB⟩⟩
  · exact (hkb A (fun hf => hnA _ hf rfl) (Array.getElem?_eq_some_iff.1 h.arrA).1).trans h.arrA
  · exact (hkb R (fun hf => hnR _ hf rfl) (Array.getElem?_eq_some_iff.1 h.arrR).1).trans h.arrR
  · by_cases e : k' = k
    · subst e
      rw [upd_same, upd_same, upd_same]
      exact hq
    · rw [upd_ne _ _ e, upd_ne _ _ e, upd_ne _ _ e]
      exact (h.Q k' hk').other hm (h.apQ k' k hk' hk e)
  · exact (h.Rr k' hk').keep hm.1.size (hkb _ (fun hf => hnG k' hk' _ hf rfl) (h.Rr k' hk').lt) fun i hi => hkb i (h.apR k' k hk' hk i hi) ((h.Rr k' hk').2.2.2.2.2 i hi)
  · by_cases e1 : k1 = k
    · subst e1
      rw [upd_same] at hi
      rw [upd_ne _ _ (Ne.symm hne)]
      intro hf
      rcases hft i hi with h3 | h3
      · exact h.apQ k1 k2 h1 h2 hne i h3 hf
      · have := (h.Q k2 h2).ftlt hf; omega
    · rw [upd_ne _ _ e1] at hi
      by_cases e2 : k2 = k
      · subst e2
        rw [upd_same]
        intro hf
        rcases hft i hf with h3 | h3
        · exact h.apQ k1 k2 h1 h2 hne i hi h3
        · have := (h.Q k1 h1).ftlt hi; omega
      · rw [upd_ne _ _ e2]
        exact h.apQ k1 k2 h1 h2 hne i hi
  · by_cases e2 : k2 = k
    · subst e2
      rw [upd_same] at hf
      rcases hft i hf with h3 | h3
      · exact h.apR k1 k2 h1 h2 i hi h3
      · have := (h.Rr k1 h1).2.2.2.2.2 i hi; omega
    · rw [upd_ne _ _ e2] at hf
      exact h.apR k1 k2 h1 h2 i hi hf
  · by_cases e : k' = k
    · subst e
      rw [upd_same]
      exact (h.hQ k' hk').mv hm hB
    · rw [upd_ne _ _ e]
      exact h.hQ k' hk'
  · rcases hi with hi | hi | ⟨k', hk', hi | hi | hi⟩
    · exact Or.inl (Or.inl hi)
    · exact Or.inl (Or.inr (Or.inl hi))
    · by_cases e : k' = k
      · subst e
        rw [upd_same] at hi
        rcases hft i hi with h3 | h3
        · exact Or.inl (Or.inr (Or.inr ⟨k', hk', Or.inl h3⟩))
        · exact Or.inr h3
      · rw [upd_ne _ _ e] at hi
        exact Or.inl (Or.inr (Or.inr ⟨k', hk', Or.inl hi⟩))
    · exact Or.inl (Or.inr (Or.inr ⟨k', hk', Or.inr (Or.inl hi)⟩))
    · exact Or.inl (Or.inr (Or.inr ⟨k', hk', Or.inr (Or.inr hi)⟩))
theorem PS.opR (h : PS n w B A R gi gr q p c d m m' l l') (hB : B ≤ w.heap.size) {k : Nat} (hk : k < n) {p' : Option Addr} {d' : Nat} {l1 : List Int} (hr : RIn w' (gr k) p' d' (m' k) l1) (hg : w.grownBy w' (some (gr k))) (hp : ∀ i, p'.map (·.block) = some i → (p k).map (·.block) = some i ∨ w.heap.size ≤ i) :
    PS n w' B A R gi gr q (upd p k p') c (upd d k d') m m' l (upd l' k l1) ∧ Stp B w w' (PF n A R gi gr q p) (PF n A R gi gr q (upd p k p')) := by
  have hG := (h.Rr k hk).1
  have hkb : ∀ i, i ≠ gr k → i < w.heap.size → w'.heap[i]? = w.heap[i]? := fun i hi hs => hg.block i hs (fun e => hi (by injection e))
  have hAl := (Array.getElem?_eq_some_iff.1 h.arrA).1
  have hRl := (Array.getElem?_eq_some_iff.1 h.arrR).1
  have hAg : A ≠ gr k := fun e => by have h1 := h.arrA; rw [e, hG] at h1; injection h1 with h1; injection h1 with _ h2; exact absurd h2 (by decide)
  have hRg : R ≠ gr k := fun e => by have h1 := h.arrR; rw [e, hG] at h1; injection h1 with h1; injection h1 with _ h2; exact absurd h2 (by decide)
  have hgl := (h.Rr k hk).lt
  refine ⟨⟨(hkb A hAg hAl).trans h.arrA, (hkb R hRg hRl).trans h.arrR, fun k' hk' => ?_, fun k' hk' => ?_, h.apQ, h.apG, fun k1 k2 h1 h2 i hi hf => ?_, fun k1 k2 h1 h2 i hi => ?_, fun k1 h1 i hi => ?_, h.hA, h.hR, h.hQ, h.hG⟩, ⟨⟨hg.os, hg.tape, hg.output, hg.size, fun i hi hs => hkb i (fun e => hi (Or.inr (Or.inr ⟨k, hk, Or.inr (Or.inl e)⟩))) hs⟩, fun i hi => ?_, grown_blw hg (h.hG k hk) hB⟩⟩
  · exact (h.Q k' hk').kept fun i hi => hkb i (ft_ne (h.Q k' hk') hG (by decide) hi) ((h.Q k' hk').ftlt hi)
  · by_cases e : k' = k
    · subst e
      rw [upd_same, upd_same, upd_same]
      exact hr
    · rw [upd_ne _ _ e, upd_ne _ _ e, upd_ne _ _ e]
      exact (h.Rr k' hk').keep hg.size (hkb _ (h.apG k' k hk' hk e) (h.Rr k' hk').lt) fun i hi => hkb i (h.apP k' k hk' hk i hi) ((h.Rr k' hk').2.2.2.2.2 i hi)
  · by_cases e1 : k1 = k
    · subst e1
      rw [upd_same] at hi
      rcases hp i hi with h3 | h3
      · exact h.apR k1 k2 h1 h2 i h3 hf
      · have := (h.Q k2 h2).ftlt hf; omega
    · rw [upd_ne _ _ e1] at hi
      exact h.apR k1 k2 h1 h2 i hi hf
  · by_cases e1 : k1 = k
    · subst e1
      rw [upd_same] at hi
      rcases hp i hi with h3 | h3
      · exact h.apP k1 k2 h1 h2 i h3
      · have := (h.Rr k2 h2).lt; omega
    · rw [upd_ne _ _ e1] at hi
      exact h.apP k1 k2 h1 h2 i hi
  · by_cases e1 : k1 = k
    · subst e1
      rw [upd_same] at hi
      rcases hp i hi with h3 | h3
      · exact h.apA k1 h1 i h3
      · exact ⟨by omega, by omega⟩
    · rw [upd_ne _ _ e1] at hi
      exact h.apA k1 h1 i hi
  · rcases hi with hi | hi | ⟨k', hk', hi | hi | hi⟩
    · exact Or.inl (Or.inl hi)
    · exact Or.inl (Or.inr (Or.inl hi))
    · exact Or.inl (Or.inr (Or.inr ⟨k', hk', Or.inl hi⟩))
    · exact Or.inl (Or.inr (Or.inr ⟨k', hk', Or.inr (Or.inl hi)⟩))
    · by_cases e : k' = k
      · subst e
        rw [upd_same] at hi
        rcases hp i hi with h3 | h3
        · exact Or.inl (Or.inr (Or.inr ⟨k', hk', Or.inr (Or.inr h3)⟩))
        · exact Or.inr h3
      · rw [upd_ne _ _ e] at hi
        exact Or.inl (Or.inr (Or.inr ⟨k', hk', Or.inr (Or.inr hi)⟩))
end
end Go.Proofs.Ytfenkiplofnolaa

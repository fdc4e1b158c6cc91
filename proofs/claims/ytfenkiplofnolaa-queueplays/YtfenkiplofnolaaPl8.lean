/- Heads of four queues and of the document's four. -/
import Derived.Test.YtfenkiplofnolaaPl6
namespace Go.Proofs.Ytfenkiplofnolaa
open Go.RowKit Go.Sort Go.Shelf

section
variable {n : Nat} {w w1 w' : World} {B A R : Nat} {gi gr : Nat → Nat} {q p : Nat → Option Addr} {c d m m' : Nat → Nat} {l l' : Nat → List Int}
/-- Each of the places has enough. -/
def EnK (ks : List Nat) (l : Nat → List Int) : Prop := ∀ k ∈ ks, ks.count k ≤ (l k).length
theorem enk_iff {g : Nat → Nat} (hj : ∀ k k', k < n → k' < n → k ≠ k' → g k ≠ g k') {ks : List Nat} (h : ∀ k ∈ ks, k < n) (l : Nat → List Int) : (∀ x ∈ ks.map g, (ks.map g).count x ≤ (l (inv n g x)).length) ↔ EnK ks l := by
  constructor
  · intro hx k hk
    have h1 := hx (g k) (List.mem_map_of_mem hk)
    rwa [count_map hj ks h k (h k hk), inv_of hj (h k hk)] at h1
  · intro hx x hxm
    obtain ⟨k, hk, rfl⟩ := List.mem_map.1 hxm
    rw [count_map hj ks h k (h k hk), inv_of hj (h k hk)]
    exact hx k hk
theorem PS.h17n (h : PS n w B A R gi gr q p c d m m' l l') {C : Nat} {qa : Option Addr} {ca : Nat} {ks : List Nat} (ho : OwnK encG 24 1 C w qa ca (ks.map gi)) (hks : ∀ k ∈ ks, k < n) {nx : Nat} (hn : ks.length = nx) (hl : nx * 8 ≤ 140737488355328) (hE : ¬ EnK ks l) :
    Calls Try.prog 17 #[.slice qa nx ca] w fun e w' => e = .returned (.tuple #[.slice none 0 0, .bool false]) ∧ Below w.heap.size w w' := by
  have h1 := heads_no qa ca (ks.map gi) w ho.ls (fun g hg => by obtain ⟨k, hk, rfl⟩ := List.mem_map.1 hg; exact ⟨k, hks k hk, rfl⟩) h.fam (by rw [List.length_map, hn]; exact hl) (fun hx => hE ((enk_iff h.injQ hks l).1 hx))
  rw [List.length_map, hn] at h1
  exact h1
theorem PS.h17y (h : PS n w B A R gi gr q p c d m m' l l') (hB : B ≤ w.heap.size) {C : Nat} {qa : Option Addr} {ca : Nat} {ks : List Nat} (ho : OwnK encG 24 1 C w qa ca (ks.map gi)) (hks : ∀ k ∈ ks, k < n) {nx : Nat} (hn : ks.length = nx) (hl : nx * 8 ≤ 140737488355328) (hE : EnK ks l) :
    Calls Try.prog 17 #[.slice qa nx ca] w fun e w' => ∃ q' c', e = .returned (.tuple #[.slice q' nx c', .bool true]) ∧ OwnK encI 3 1 w.heap.size w' q' c' (heads ks l) ∧ PS n w' B A R gi gr q p c d m m' (fun k => (l k).drop (ks.count k)) l' ∧ Stp B w w' (PF n A R gi gr q p) (PF n A R gi gr q p) ∧ ∀ (C' : Nat) (qb : Option Addr) (cb : Nat) (rs : List Nat), OwnK encG 26 1 C' w qb cb rs → OwnK encG 26 1 C' w' qb cb rs := by
  have h1 := heads_yes qa ca (ks.map gi) w ho.ls (fun g hg => by obtain ⟨k, hk, rfl⟩ := List.mem_map.1 hg; exact ⟨k, hks k hk, rfl⟩) h.fam (by rw [List.length_map, hn]; exact hl) ((enk_iff h.injQ hks l).2 hE) (fun a ha => row_out ho h.fam (by decide) a.block (by rw [ha]; rfl))
  rw [List.length_map, hn, hv_map h.injQ hks (l := l) (fun k hk => by rw [inv_of h.injQ hk])] at h1
  refine h1.mono ?_
  rintro e w' ⟨⟨q', c', he, h2⟩, h3, h4⟩
  obtain ⟨p5, s5⟩ := h.headsQ hB (l1 := fun k => (l k).drop (ks.count k)) h3 (fun k hk => by rw [inv_of h.injQ hk, count_map h.injQ ks hks k hk]) h4
  exact ⟨q', c', he, h2, p5, s5, fun C' qb cb rs hr => hr.keep fun i hi => h4.block i (row_out hr h.fam (by decide) i hi) (hr.blk hi).2⟩
theorem PS.h18n (h : PS n w B A R gi gr q p c d m m' l l') {C : Nat} {qb : Option Addr} {cb : Nat} {ks : List Nat} (ho : OwnK encG 26 1 C w qb cb (ks.map gr)) (hks : ∀ k ∈ ks, k < n) {nx : Nat} (hn : ks.length = nx) (hl : nx * 8 ≤ 140737488355328) (hE : ¬ EnK ks l') :
    Calls Try.prog 18 #[.slice qb nx cb] w fun e w' => e = .returned (.tuple #[.slice none 0 0, .bool false]) ∧ Below w.heap.size w w' := by
  have hso : ∀ a, qb = some a → ¬ ∃ k, k < n ∧ gr k = a.block := fun a ha ⟨k, hk, e⟩ => by
    subst ha
    obtain ⟨cur, hb, _⟩ := ho.typ
    have h5 := (h.Rr k hk).1
    rw [e, hb] at h5
    injection h5 with h5
    injection h5 with _ h6
    exact absurd h6 (by decide)
  have h1 := rheads_any qb cb (ks.map gr) w ho.ls (fun g hg => by obtain ⟨k, hk, rfl⟩ := List.mem_map.1 hg; exact ⟨k, hks k hk, rfl⟩) h.rfam (by rw [List.length_map, hn]; exact hl) hso
  rw [List.length_map, hn] at h1
  refine h1.mono ?_
  rintro e w' (⟨_, h2, h3⟩ | ⟨h2, _⟩)
  · exact ⟨h2, h3⟩
  · exact absurd ((enk_iff h.apG hks l').1 h2) hE
theorem PS.h18y (h : PS n w B A R gi gr q p c d m m' l l') (hB : B ≤ w.heap.size) {C : Nat} {qb : Option Addr} {cb : Nat} {ks : List Nat} (ho : OwnK encG 26 1 C w qb cb (ks.map gr)) (hks : ∀ k ∈ ks, k < n) {nx : Nat} (hn : ks.length = nx) (hl : nx * 8 ≤ 140737488355328) (hE : EnK ks l') :
    Calls Try.prog 18 #[.slice qb nx cb] w fun e w' => ∃ q' c', e = .returned (.tuple #[.slice q' nx c', .bool true]) ∧ OwnK encI 3 1 w.heap.size w' q' c' (heads ks l') ∧ (∃ p' d', PS n w' B A R gi gr q p' c d' m m' l (fun k => (l' k).drop (ks.count k)) ∧ Stp B w w' (PF n A R gi gr q p) (PF n A R gi gr q p')) ∧ ∀ (qr : Option Addr) (cr : Nat) (xs : List Int), (∀ i, qr.map (·.block) = some i → ∀ k, k < n → i ≠ gr k) → OwnK encI 3 1 0 w qr cr xs → OwnK encI 3 1 0 w' qr cr xs := by
  have hso : ∀ a, qb = some a → ¬ ∃ k, k < n ∧ gr k = a.block := fun a ha ⟨k, hk, e⟩ => by
    subst ha
    obtain ⟨cur, hb, _⟩ := ho.typ
    have h5 := (h.Rr k hk).1
    rw [e, hb] at h5
    injection h5 with h5
    injection h5 with _ h6
    exact absurd h6 (by decide)
  have h1 := rheads_any qb cb (ks.map gr) w ho.ls (fun g hg => by obtain ⟨k, hk, rfl⟩ := List.mem_map.1 hg; exact ⟨k, hks k hk, rfl⟩) h.rfam (by rw [List.length_map, hn]; exact hl) hso
  rw [List.length_map, hn, hv_map h.apG hks (l := l') (fun k hk => by rw [inv_of h.apG hk])] at h1
  refine h1.mono ?_
  rintro e w' (⟨h2, _⟩ | ⟨_, ⟨q', c', he, h2⟩, ⟨pf', df', h3, h4⟩, h5⟩)
  · exact absurd ((enk_iff h.apG hks l').2 hE) h2
  · obtain ⟨p5, s5⟩ := h.headsR hB (l1 := fun k => (l' k).drop (ks.count k)) h3 h4 (fun k hk => by rw [inv_of h.apG hk, count_map h.apG ks hks k hk]) h5
    exact ⟨q', c', he, h2, ⟨_, _, p5, s5⟩, fun qr cr xs hne hr => hr.keep fun i hi => h5.block i (fun ⟨k, hk, e⟩ => hne i hi k hk e.symm) (hr.blk hi).2⟩
end
end Go.Proofs.Ytfenkiplofnolaa

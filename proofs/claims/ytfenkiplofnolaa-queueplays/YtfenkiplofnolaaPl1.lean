/- The document's queue in memory: New, Put, Take. -/
import Derived.Test.YtfenkiplofnolaaPl0
import Derived.Deep.RegionLaw
namespace Go.Proofs.Ytfenkiplofnolaa
open Go.RowKit Go.Sort

/-- The document's queue at block r. -/
def RIn (w : World) (r : Nat) (p : Option Addr) (d m : Nat) (l : List Int) : Prop :=
  w.heap[r]? = some (.cells #[.slice p l.length d, .int .i64 (m : Int)] 78 (0, 0)) ∧ SlOf encI 1 w p d l ∧ l.length ≤ m ∧ 1 ≤ m ∧ m ≤ 16 ∧ ∀ i, p.map (·.block) = some i → i < w.heap.size
theorem cells2 {w : World} {L : Nat} {a b : Value} {t : TypeId} (h : w.heap[L]? = some (.cells #[a, b] t (0, 0))) : w.cell? ⟨L, 0, none⟩ = some a ∧ w.cell? ⟨L, 1, none⟩ = some b ∧ w.frozen? ⟨L, 0, none⟩ = false ∧ w.frozen? ⟨L, 1, none⟩ = false := by
  unfold World.cell? World.frozen?; simp [h]
theorem add_block (a : Addr) (k : Nat) : (a.add k).block = a.block := by unfold Addr.add; split <;> rfl
theorem RIn.lt {w : World} {r : Nat} {p : Option Addr} {d m : Nat} {l : List Int} (h : RIn w r p d m l) : r < w.heap.size := (Array.getElem?_eq_some_iff.1 h.1).1
theorem RIn.below {w w' : World} {r : Nat} {p : Option Addr} {d m : Nat} {l : List Int} (h : RIn w r p d m l) (hb : Below w.heap.size w w') : RIn w' r p d m l := ⟨(hb.block r h.lt).trans h.1, h.2.1.below hb, h.2.2.1, h.2.2.2.1, h.2.2.2.2.1, fun i hi => Nat.lt_of_lt_of_le (h.2.2.2.2.2 i hi) hb.size⟩
theorem SlOf.keep {α : Type} [Inhabited α] {enc : α → List Value} {k : Nat} {w w' : World} {q : Option Addr} {c : Nat} {l : List α} (h : SlOf enc k w q c l) (hs : w.heap.size ≤ w'.heap.size) (hb : ∀ i, q.map (·.block) = some i → w'.heap[i]? = w.heap[i]?) : SlOf enc k w' q c l := by
  refine ⟨h.1, h.2.1, h.2.2.1, fun h0 => ?_⟩
  obtain ⟨b, off, h1, h2, h3⟩ := h.2.2.2 h0
  refine ⟨b, off, h1, by omega, fun j u hj => ?_⟩
  have h4 := h3 j u hj
  have h5 := hb b (by rw [h1]; rfl)
  unfold World.cell? at h4 ⊢
  rw [h5]
  exact h4
theorem rnew (r : Int) (w : World) : Calls Try.prog 9 #[.int .i64 r] w fun e w' => e = .returned (.pointer (some ⟨w.heap.size, 0, none⟩)) ∧ RIn w' w.heap.size none 0 (roomN r) [] ∧ Below w.heap.size w w' := by
  go_enter Try.func9, Try.ntmps9
  go_wp2
  go_ret
  have hr : (min (max r 1) 16 : Int) = ((roomN r : Nat) : Int) := by unfold roomN; omega
  have hl := roomN_le r
  refine ⟨rfl, ⟨?_, SlOf.none _, Nat.zero_le _, hl.1, hl.2, fun i hi => by simp at hi⟩, alloc_b _ _⟩
  rw [hr]
  exact box_nw _ _
theorem set_grown (w : World) (r o : Nat) (v : Value) : w.grownBy (w.setCell ⟨r, o, none⟩ v) (some r) := grown_setI (grown_refl w (some r)) o v
set_option maxHeartbeats 1000000 in
set_option maxRecDepth 100000 in
theorem rtake (r : Nat) (p : Option Addr) (d m : Nat) (l : List Int) (n : Int) (w : World) (h : RIn w r p d m l) (hpr : ∀ i, p.map (·.block) = some i → i ≠ r) :
    Calls Try.prog 15 #[.pointer (some ⟨r, 0, none⟩), .int .i64 n] w fun e w' => e = .returned (.slice p (takeN n l.length) d) ∧ SlOf encI 1 w' p d (l.take (takeN n l.length)) ∧ RIn w' r (cutK 1 p d (takeN n l.length)) (d - takeN n l.length) m (l.drop (takeN n l.length)) ∧ w.grownBy w' (some r) := by
  obtain ⟨hb, ho, hlm, hm1, hm16, hrl⟩ := h
  have hle := takeN_le n l.length
  have hmin : min (max n 0) (l.length : Int) = ((takeN n l.length : Nat) : Int) := by unfold takeN; omega
  generalize takeN n l.length = c at hle hmin ⊢
  obtain ⟨N, hN⟩ : ∃ N, l.length - c = N := ⟨_, rfl⟩
  have hld := ho.2.1
  have hc0 : (0 : Int) ≤ (c : Int) := by omega
  have hcd : (c : Int) ≤ (d : Int) := by omega
  have hsl := fun W => slice_lI p d l.length c hle hld W
  rw [hN] at hsl
  obtain ⟨c0, c1, f0, f1⟩ := cells2 hb
  have HO := hide ho
  have HB := hide hb
  have HN := hide hN
  have HPR := hide hpr
  have HRL := hide hrl
  clear hb ho hN hpr hrl
  go_enter Try.func15, Try.ntmps15
  go_wp2
  go_ret
  have hgr := set_grown w r 0 (.slice (cutK 1 p d c) N (d - c))
  have hkeep : ∀ (l' : List Int) (p' : Option Addr) (d' : Nat), p'.map (·.block) = p.map (·.block) → SlOf encI 1 w p' d' l' → SlOf encI 1 (w.setCell ⟨r, 0, none⟩ (.slice (cutK 1 p d c) N (d - c))) p' d' l' := fun l' p' d' he hs => hs.keep hgr.size fun i hi => by
    rw [he] at hi
    exact heap_setCell_other w ⟨r, 0, none⟩ i _ (unhide HPR i hi)
  have hcb : (cutK 1 p d c).map (·.block) = p.map (·.block) := by
    unfold cutK
    split
    · rfl
    · cases p with
      | none => rfl
      | some a => rw [Option.map_some, Option.map_some, Option.map_some, add_block]
  have hdl : (l.drop c).length = N := by rw [List.length_drop]; exact unhide HN
  refine ⟨rfl, hkeep _ _ _ rfl (take_sl (by decide) (unhide HO) c hle), ⟨?_, hkeep _ _ _ hcb (drop_sl (by decide) (unhide HO) c hle), by have := unhide HN; omega, hm1, hm16, fun i hi => Nat.lt_of_lt_of_le (unhide HRL i (hcb ▸ hi)) hgr.size⟩, hgr⟩
  have h1 := heap_setCell_same w r 0 _ 78 (.slice (cutK 1 p d c) N (d - c)) (unhide HB)
  rw [hdl]
  exact h1
set_option maxHeartbeats 2000000 in
set_option maxRecDepth 100000 in
theorem rput (r : Nat) (p : Option Addr) (d m : Nat) (l : List Int) (px : Option Addr) (cx : Nat) (xs : List Int) (w : World) (h : RIn w r p d m l) (hs : SlOf encI 1 w px cx xs) :
    Calls Try.prog 12 #[.pointer (some ⟨r, 0, none⟩), .slice px xs.length cx] w fun e w' => e = .returned (.int .i64 ((min xs.length (m - l.length) : Nat) : Int)) ∧ ∃ p' d', RIn w' r p' d' m (l ++ xs.take (m - l.length)) ∧ w.grownBy w' (some r) ∧ ∀ i, p'.map (·.block) = some i → w.heap.size ≤ i := by
  obtain ⟨hb, ho, hlm, hm1, hm16, hrl⟩ := h
  obtain ⟨e, he⟩ : ∃ e, m - l.length = e := ⟨_, rfl⟩
  rw [he]
  obtain ⟨n, hn⟩ : ∃ n, min xs.length e = n := ⟨_, rfl⟩
  have hnx : n ≤ xs.length := by omega
  have htk : xs.take e = xs.take n := by
    by_cases hxd : xs.length ≤ e
    · rw [List.take_of_length_le hxd, List.take_of_length_le (by omega)]
    · rw [show n = e by omega]
  rw [hn, htk]
  have htl : (xs.take n).length = n := by rw [List.length_take]; omega
  have hsub : (m : Int) - (l.length : Int) = (e : Int) := by omega
  have hw1 := wrap_nat e (by omega)
  have hmin : min (xs.length : Int) (e : Int) = (n : Int) := by omega
  obtain ⟨N, hN⟩ : ∃ N, l.length + n = N := ⟨_, rfl⟩
  have hN16 : N ≤ 16 := by omega
  have hl16 : l.length ≤ 16 := by omega
  have hnc : (n : Int) ≤ (cx : Int) := by have := hs.2.1; omega
  have hn0 : (0 : Int) ≤ (n : Int) := by omega
  have hlen0 : l.length + 0 = l.length := rfl
  obtain ⟨c0, c1, f0, f1⟩ := cells2 hb
  have hrlt : r < w.heap.size := (Array.getElem?_eq_some_iff.1 hb).1
  have hk : ∀ V, Below w.heap.size w V → V.heap[r]? = some (.cells #[.slice p l.length d, .int .i64 (m : Int)] 78 (0, 0)) := fun V hV => (hV.block r hrlt).trans hb
  have hkc : ∀ V, Below w.heap.size w V → V.cell? ⟨r, 0, none⟩ = some (.slice p l.length d) ∧ V.frozen? ⟨r, 0, none⟩ = false := fun V hV => ⟨(cells2 (hk V hV)).1, (cells2 (hk V hV)).2.2.1⟩
  have bA : Below w.heap.size w (w.alloc (.cells #[] 3)) := alloc_b _ _
  have oA : OwnK encI 3 1 w.heap.size (w.alloc (.cells #[] 3)) (some ⟨w.heap.size, 0, none⟩) 0 ([] : List Int) := OwnK.made _ _ (Nat.le_refl _)
  obtain ⟨kA0, kA1⟩ := hkc _ bA
  have HO := hide ho
  have HSX := hide hs
  have HB := hide hb
  have HK := hide hk
  have HKC := hide hkc
  have BA := hide bA
  have OA := hide oA
  have SO := hide (ho.below bA).src
  have HTL := hide htl
  have HHN := hide hN
  have HTX := hide (fun (V : World) (hV : Below w.heap.size w V) => (take_sl (k := 1) (by decide) (hs.below hV) n hnx).src)
  clear hb ho hs hk hkc bA oA htl hN he hn htk hrl
  go_enter Try.func12, Try.ntmps12
  go_wp2
  go_region_held3 (fun w' => w'.cell? ⟨r, 1, none⟩ = some (.int .i64 (m : Int)) ∧ w'.cell? ⟨r, 0, none⟩ = some (.slice p l.length d)) (go_keep) (fail)
  rename_i hHeld
  clear hHeld
  go_wp2
  go_region_law (first
      | (refine step_app rowI (by rfl) (.tmp 25) (.tmp 28) (by rfl) w.heap.size q4 c4 ([] ++ l) px cx (xs.take n) l.length n N (by simp) (unhide HTL) (unhide HHN) (by rfl) (by rfl) (own_heap (by rfl) (unhide O4)) (src_heap (by rfl) (unhide HTX w4 (unhide B4))) (by unfold maxLen; omega) (by omega) (unhide B4).size ?_; intro q5 c5 w5 o5 b5 _ _; have O5 := hide o5; have B5 := hide (Below.trans (unhide B4) (below_hp (by rfl) (by rfl) (by rfl) (by rfl) b5)); obtain ⟨k50, k51⟩ := unhide HKC w5 (unhide B5); clear o5 b5)
      | (refine step_app rowI (by rfl) (.tmp 20) (.tmp 24) (by rfl) w.heap.size (some ⟨w.heap.size, 0, none⟩) 0 [] p d l 0 l.length l.length rfl rfl (Nat.zero_add _) (by rfl) (by rfl) (own_heap (by rfl) (unhide OA)) (src_heap (by rfl) (unhide SO)) (by unfold maxLen; omega) (by omega) (unhide BA).size ?_; intro q4 c4 w4 o4 b4 _ _; have O4 := hide o4; have B4 := hide (Below.trans (unhide BA) (below_hp (by rfl) (by rfl) (by rfl) (by rfl) b4)); obtain ⟨k40, k41⟩ := unhide HKC w4 (unhide B4); clear o4 b4))
  all_goals
    go_wp2
    go_ret
    have hN := unhide HHN
    have o5 : OwnK encI 3 1 w.heap.size w5 q5 c5 (l ++ xs.take n) := by have := unhide O5; rwa [List.nil_append] at this
    have hll : (l ++ xs.take n).length = N := by rw [List.length_append, unhide HTL]; exact hN
    have hgr := set_grown w5 r 0 (.slice q5 N c5)
    have hb5 := unhide B5
    refine ⟨rfl, q5, c5, ⟨?_, o5.ls.keep hgr.size (fun i hi => heap_setCell_other w5 ⟨r, 0, none⟩ i _ (fun e => by have := (o5.blk hi).1; simp at e; omega)), by rw [hll]; omega, hm1, hm16, fun i hi => Nat.lt_of_lt_of_le (o5.blk hi).2 hgr.size⟩, ⟨hgr.os.trans hb5.os, hgr.tape.trans hb5.tape, hgr.output.trans hb5.output, Nat.le_trans hb5.size hgr.size, fun i hi hne => (hgr.block i (Nat.lt_of_lt_of_le hi hb5.size) hne).trans (hb5.block i hi)⟩, fun i hi => (o5.blk hi).1⟩
    have h1 := heap_setCell_same w5 r 0 _ 78 (.slice q5 N c5) (unhide HK w5 hb5)
    rw [hll]
    exact h1
end Go.Proofs.Ytfenkiplofnolaa

/- A queue in memory: how full it is. -/
import Derived.Test.YtfenkiplofnolaaCells
import Derived.Deep.RegionLaw
namespace Go.Proofs.Ytfenkiplofnolaa
open Go.RowKit Go.Sort

theorem own_heap {α : Type} [Inhabited α] {enc : α → List Value} {e : TypeId} {k B : Nat} {w w' : World} {q : Option Addr} {c : Nat} {l : List α} (h : w'.heap = w.heap) (ho : OwnK enc e k B w q c l) : OwnK enc e k B w' q c l := by
  unfold OwnK World.ownsRow at *
  rw [h]
  exact ho
theorem src_heap {α : Type} [Inhabited α] {enc : α → List Value} {k : Nat} {w w' : World} {q : Option Addr} {c : Nat} {l : List α} (h : w'.heap = w.heap) (ho : SrcK enc k w q c l) : SrcK enc k w' q c l := by
  refine ⟨ho.1, fun ad e j u hj => ?_⟩
  have := ho.2 ad e j u hj
  unfold World.cell? at *
  rw [h]
  exact this
/-- The blocks of a queue at L whose row is q. -/
def Ft (L : Nat) (q : Option Addr) (i : Nat) : Prop := i = L ∨ q.map (·.block) = some i
/-- A queue's call turns its own blocks alone; what it takes is new. -/
def Mv (w w' : World) (L : Nat) (q q' : Option Addr) : Prop := Kpt (fun i => ¬ Ft L q i) w w' ∧ ∀ i, Ft L q' i → Ft L q i ∨ w.heap.size ≤ i
theorem Mv.of {w w' : World} {L : Nat} {q : Option Addr} (h : Below w.heap.size w w') : Mv w w' L q q := ⟨Kpt.of h, fun _ h => Or.inl h⟩
theorem Mv.trans {w w1 w2 : World} {L : Nat} {q q1 q2 : Option Addr} (h : Mv w w1 L q q1) (h2 : Mv w1 w2 L q1 q2) : Mv w w2 L q q2 := by
  refine ⟨⟨h2.1.os.trans h.1.os, h2.1.tape.trans h.1.tape, h2.1.output.trans h.1.output, Nat.le_trans h.1.size h2.1.size, fun i hi hs => ?_⟩, fun i hi => ?_⟩
  · refine (h2.1.block i (fun hf => ?_) (Nat.lt_of_lt_of_le hs h.1.size)).trans (h.1.block i hi hs)
    rcases h.2 i hf with h3 | h3
    · exact hi h3
    · omega
  · rcases h2.2 i hi with h3 | h3
    · exact h.2 i h3
    · exact Or.inr (Nat.le_trans h.1.size h3)
/-- The queue at block L, for m: its row q holds the list l. -/
def QIn {α : Type} [Inhabited α] (enc : α → List Value) (e k tq : Nat) (w : World) (L : Nat) (q : Option Addr) (cap m : Nat) (l : List α) : Prop :=
  w.heap[L]? = some (.cells #[.int .i64 (l.length : Int), .int .i64 (m : Int), .slice q l.length cap] tq (0, 0)) ∧ OwnK enc e k 0 w q cap l ∧ l.length ≤ m ∧ 1 ≤ m ∧ m ≤ 16
section
variable {α : Type} [Inhabited α] {enc : α → List Value} {e k tq : Nat}
theorem cells3 {w : World} {L : Nat} {a b c : Value} {t : TypeId} (h : w.heap[L]? = some (.cells #[a, b, c] t (0, 0))) : w.cell? ⟨L, 0, none⟩ = some a ∧ w.cell? ⟨L, 1, none⟩ = some b ∧ w.cell? ⟨L, 2, none⟩ = some c ∧ w.frozen? ⟨L, 0, none⟩ = false ∧ w.frozen? ⟨L, 1, none⟩ = false ∧ w.frozen? ⟨L, 2, none⟩ = false := by
  unfold World.cell? World.frozen?; simp [h]
theorem QIn.lt {w : World} {L : Nat} {q : Option Addr} {cap m : Nat} {l : List α} (h : QIn enc e k tq w L q cap m l) : L < w.heap.size := (Array.getElem?_eq_some_iff.1 h.1).1
theorem QIn.below {w w' : World} {L : Nat} {q : Option Addr} {cap m : Nat} {l : List α} (h : QIn enc e k tq w L q cap m l) (hb : Below w.heap.size w w') : QIn enc e k tq w' L q cap m l := ⟨(hb.block L h.lt).trans h.1, h.2.1.below hb, h.2.2⟩
theorem QIn.ftlt {w : World} {L : Nat} {q : Option Addr} {cap m : Nat} {l : List α} (h : QIn enc e k tq w L q cap m l) {i : Nat} (hi : Ft L q i) : i < w.heap.size := by
  rcases hi with rfl | hi
  · exact h.lt
  · cases q with
    | none => simp at hi
    | some p =>
      obtain ⟨cur, hb, _, hlt, _⟩ := h.2.1.typ
      simp at hi
      omega
theorem QIn.kept {w w' : World} {L : Nat} {q : Option Addr} {cap m : Nat} {l : List α} (h : QIn enc e k tq w L q cap m l) (hb : ∀ i, Ft L q i → w'.heap[i]? = w.heap[i]?) : QIn enc e k tq w' L q cap m l :=
  ⟨(hb L (Or.inl rfl)).trans h.1, h.2.1.kept (fun p hp => hb _ (Or.inr (by rw [hp]; rfl))) (fun _ _ => Nat.zero_le _), h.2.2⟩
/-- Two queues that share no block: one's call leaves the other. -/
theorem QIn.other {w w' : World} {L L' : Nat} {q q' q2 : Option Addr} {cap m : Nat} {l : List α} (h : QIn enc e k tq w L q cap m l) (hm : Mv w w' L' q' q2) (hd : ∀ i, Ft L q i → ¬ Ft L' q' i) : QIn enc e k tq w' L q cap m l :=
  h.kept fun i hi => hm.1.block i (hd i hi) (h.ftlt hi)
end
theorem box_nw (w : World) (o : Obj) : (w.alloc o).heap[w.heap.size]? = some o := by simp [World.alloc, -World.alloc_eq]
/-- The room that is asked for, brought into its range. -/
def roomN (r : Int) : Nat := (min (max r 1) 16).toNat
theorem roomN_le (r : Int) : 1 ≤ roomN r ∧ roomN r ≤ 16 := by unfold roomN; omega
theorem lenQ (L : Nat) (b c : Value) (t : TypeId) (w : World) (n : Int) (h : w.heap[L]? = some (.cells #[.int .i64 n, b, c] t (0, 0))) :
    Calls Try.prog 22 #[.pointer (some ⟨L, 0, none⟩)] w fun e w' => e = .returned (.int .i64 n) ∧ w' = w := by
  obtain ⟨c0, _⟩ := cells3 h
  clear h
  go_enter Try.func22, Try.ntmps22
  go_wp2
  go_ret
  exact ⟨rfl, rfl⟩
theorem roomQ (L : Nat) (c : Value) (t : TypeId) (w : World) (n m d : Nat) (h : w.heap[L]? = some (.cells #[.int .i64 (n : Int), .int .i64 (m : Int), c] t (0, 0))) (hd : n + d = m) (hm : m ≤ 16) :
    Calls Try.prog 21 #[.pointer (some ⟨L, 0, none⟩)] w fun e w' => e = .returned (.int .i64 (d : Int)) ∧ w' = w.drew := by
  obtain ⟨c0, c1, _⟩ := cells3 h
  have hw : IntKind.i64.wrap ((m : Int) - (n : Int)) = (d : Int) := by
    rw [show (m : Int) - (n : Int) = (d : Int) by omega]; exact wrap_nat d (by omega)
  clear h hd
  go_enter Try.func21, Try.ntmps21
  go_wp2
  go_region_held3 (fun w' => w'.cell? ⟨L, 1, none⟩ = some (.int .i64 (m : Int)) ∧ w'.cell? ⟨L, 0, none⟩ = some (.int .i64 (n : Int))) (go_keep) (fail)
  all_goals
    go_wp2
    go_ret
    exact ⟨rfl, rfl⟩
section
variable {α : Type} [Inhabited α] {enc : α → List Value} {e k tq : Nat}
theorem ne_of_types {w : World} {L : Nat} {q : Option Addr} {cap : Nat} {l : List α} {cs : Array Value} (het : e ≠ tq) (ho : OwnK enc e k 0 w q cap l) (hb : w.heap[L]? = some (.cells cs tq (0, 0))) : ∀ p, q = some p → p.block ≠ L := fun p hp h => by
  subst hp
  obtain ⟨cur, hb2, _, _, _⟩ := ho.typ
  rw [h, hb] at hb2
  injection hb2 with hb2
  injection hb2 with h1 h2
  exact het h2.symm
theorem two_cells {w5 : World} {L N : Nat} {a b s s' : Value} (hb : w5.heap[L]? = some (.cells #[a, b, s] tq (0, 0))) :
    ((w5.setCell ⟨L, 2, none⟩ s').setCell ⟨L, 0, none⟩ (.int .i64 (N : Int))).heap[L]? = some (.cells #[.int .i64 (N : Int), b, s'] tq (0, 0)) ∧ (∀ i, i ≠ L → ((w5.setCell ⟨L, 2, none⟩ s').setCell ⟨L, 0, none⟩ (.int .i64 (N : Int))).heap[i]? = w5.heap[i]?) ∧ Below 0 w5 ((w5.setCell ⟨L, 2, none⟩ s').setCell ⟨L, 0, none⟩ (.int .i64 (N : Int))) := by
  refine ⟨?_, fun i hi => ?_, ((Below.refl 0 w5).setCell (p := ⟨L, 2, none⟩) (Nat.zero_le _) _).setCell (p := ⟨L, 0, none⟩) (Nat.zero_le _) _⟩
  · have h1 := heap_setCell_same w5 L 2 _ tq s' hb
    have h2 := heap_setCell_same _ L 0 _ tq (.int .i64 (N : Int)) h1
    exact h2
  · rw [heap_setCell_other _ ⟨L, 0, none⟩ i _ hi, heap_setCell_other _ ⟨L, 2, none⟩ i _ hi]
theorem put_end (het : e ≠ tq) {w w5 : World} {L N m : Nat} {q q5 : Option Addr} {c5 : Nat} {l' : List α} {a s : Value} (hg : w.grownBy w5 (q.map (·.block))) (hq : q5 = q ∨ ∃ g', q5 = some ⟨g', 0, none⟩ ∧ w.heap.size ≤ g') (ho : OwnK enc e k 0 w5 q5 c5 l') (hl : l'.length = N) (hb : w5.heap[L]? = some (.cells #[a, .int .i64 (m : Int), s] tq (0, 0))) (hm : N ≤ m ∧ 1 ≤ m ∧ m ≤ 16) :
    QIn enc e k tq ((w5.setCell ⟨L, 2, none⟩ (.slice q5 N c5)).setCell ⟨L, 0, none⟩ (.int .i64 (N : Int))) L q5 c5 m l' ∧ Mv w ((w5.setCell ⟨L, 2, none⟩ (.slice q5 N c5)).setCell ⟨L, 0, none⟩ (.int .i64 (N : Int))) L q q5 := by
  subst hl
  obtain ⟨h1, h2, h3⟩ := two_cells (N := l'.length) (s' := .slice q5 l'.length c5) hb
  have hne := ne_of_types het ho hb
  refine ⟨⟨h1, ho.kept (fun p hp => h2 _ (hne p hp)) (fun _ _ => Nat.zero_le _), hm⟩, ⟨h3.os.trans hg.os, h3.tape.trans hg.tape, h3.output.trans hg.output, Nat.le_trans hg.size h3.size, fun i hi hs => ?_⟩, fun i hi => ?_⟩
  · rw [h2 i (fun e => hi (Or.inl e))]
    exact hg.block i hs (fun e => hi (Or.inr e.symm))
  · rcases hi with hi | hi
    · exact Or.inl (Or.inl hi)
    · rcases hq with rfl | ⟨g', rfl, hg'⟩
      · exact Or.inl (Or.inr hi)
      · simp at hi
        exact Or.inr (by omega)
end
theorem Stays.q {w w' : World} {q q' : Option Addr} {N cap cap' : Nat} (h : Stays w w' q q' N cap cap') : q' = q ∨ ∃ g', q' = some ⟨g', 0, none⟩ ∧ w.heap.size ≤ g' := by
  rcases h.2 with h | h
  · exact Or.inl h.1
  · exact Or.inr h.2.2
theorem grown_drew {w w' : World} {r : Option Nat} (h : w.drew.grownBy w' r) : w.grownBy w' r := ⟨h.os, h.tape, h.output, h.size, h.block⟩
/-- How many are taken. -/
def takeN (n : Int) (k : Nat) : Nat := min (max n 0).toNat k
theorem takeN_le (n : Int) (k : Nat) : takeN n k ≤ k := by unfold takeN; omega
end Go.Proofs.Ytfenkiplofnolaa

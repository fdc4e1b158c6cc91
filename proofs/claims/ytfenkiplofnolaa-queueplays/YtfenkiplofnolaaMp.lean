/- A map whose keys are pointers to queues and whose elements are numbers. -/
import Derived.Test.YtfenkiplofnolaaOr1
import Derived.MapKept
import Derived.LaidEql
namespace Go.Proofs.Ytfenkiplofnolaa
open Go.RowKit Go.Sort

def ptr (g : Nat) : Value := .pointer (some ⟨g, 0, none⟩)
theorem ptr_inj {a b : Nat} (h : ptr a = ptr b) : a = b := by
  unfold ptr at h
  injection h with h
  injection h with h
  injection h with h
/-- A block of cells. -/
def Cel (w : World) (g : Nat) : Prop := ∃ cs t, w.heap[g]? = some (.cells cs t (0, 0))
theorem eq_ptr {w : World} {a b : Nat} (ha : Cel w a) (hb : Cel w b) : (Op.equal 24 (ptr a) (ptr b)).run Try.prog w = .ok (decide (a = b)) w := by
  obtain ⟨ca, ta, ha⟩ := ha
  obtain ⟨cb, tb, hb⟩ := hb
  have u := Try.underlying24
  have z : (sizeOf 51).run Try.prog w = .ok 3 w := by kernel_rfl
  unfold Op.equal ptr
  rw [show Op.maxDepth = 9999 + 1 from rfl]
  unfold Op.equalIn
  simp only [Sem.run_bind, run_underlying u, Result.andThen_ok, z]
  by_cases h : a = b
  · subst h
    simp [run_sameAddr_same]
  · have hne : (⟨a, 0, none⟩ : Addr) ≠ ⟨b, 0, none⟩ := fun e => h (by injection e)
    simp [run_sameAddr_other w hne ha hb, h]
theorem ask_ptr {w : World} {L : Nat} (hL : Cel w L) : ∀ (l : List MapEntry) (i : Nat), (∀ x ∈ l, ∃ g, x.key = ptr g ∧ Cel w g) →
    ((Instr.findAsking 24 (ptr L) l i).run Try.prog w = .ok none w ∧ ∀ x ∈ l, x.key ≠ ptr L) ∨ ∃ j e, (Instr.findAsking 24 (ptr L) l i).run Try.prog w = .ok (some (i + j, e.val)) w ∧ l[j]? = some e ∧ e.key = ptr L
  | [], _, _ => .inl ⟨by simp [Instr.findAsking], by simp⟩
  | e :: es, i, h => by
    obtain ⟨g, hk, hg⟩ := h e (.head _)
    have he := eq_ptr hL hg
    by_cases hLg : L = g
    · subst hLg
      refine .inr ⟨0, e, ?_, rfl, hk⟩
      unfold Instr.findAsking
      rw [hk]
      simp [he]
    · have hne : e.key ≠ ptr L := fun q => hLg (ptr_inj (hk.symm.trans q)).symm
      have hstep : (Instr.findAsking 24 (ptr L) (e :: es) i).run Try.prog w = (Instr.findAsking 24 (ptr L) es (i + 1)).run Try.prog w := by
        conv => lhs; unfold Instr.findAsking
        rw [hk]
        simp [he, hLg]
      rcases ask_ptr hL es (i + 1) (fun x hx => h x (.tail _ hx)) with ⟨h1, h2⟩ | ⟨j, e', h1, h2, h3⟩
      · exact .inl ⟨hstep.trans h1, fun x hx => by
          cases hx with
          | head => exact hne
          | tail _ hx => exact h2 x hx⟩
      · exact .inr ⟨j + 1, e', hstep.trans (by rw [h1, show i + 1 + j = i + (j + 1) by omega]), by simpa using h2, h3⟩
theorem find_ptr {w : World} {L : Nat} (hL : Cel w L) (l : List MapEntry) (h : ∀ x ∈ l, ∃ g, x.key = ptr g ∧ Cel w g) :
    ((Instr.findKey 24 (ptr L) l).run Try.prog w = .ok none w ∧ ∀ x ∈ l, x.key ≠ ptr L) ∨ ∃ j e, (Instr.findKey 24 (ptr L) l).run Try.prog w = .ok (some (j, e.val)) w ∧ l[j]? = some e ∧ e.key = ptr L := by
  have u := Try.underlying24
  cases l with
  | nil => exact .inl ⟨by simp [Instr.findKey, run_underlying u, Result.andThen, Instr.findNow], by simp⟩
  | cons e es =>
    obtain ⟨g, hk, hg⟩ := h e (.head _)
    have hn : Instr.findNow (.pointer 51) (ptr L) (e :: es) 0 = none := by
      unfold Instr.findNow
      rw [hk]
      rfl
    have hstep : (Instr.findKey 24 (ptr L) (e :: es)).run Try.prog w = (Instr.findAsking 24 (ptr L) (e :: es) 0).run Try.prog w := by
      unfold Instr.findKey
      simp [run_underlying u, Result.andThen, hn]
    rcases ask_ptr hL (e :: es) 0 h with ⟨h1, h2⟩ | ⟨j, e', h1, h2, h3⟩
    · exact .inl ⟨hstep.trans h1, h2⟩
    · exact .inr ⟨j, e', hstep.trans (by rw [h1, Nat.zero_add]), h2, h3⟩
/-- The map at block b gives each queue's number. -/
structure PM (w : World) (b : Nat) (f : Nat → Nat) : Prop where
  mk ::
  ex : ∃ es clock, w.heap[b]? = some (.map es clock) ∧ (∀ x ∈ es.toList, ∃ g, x.key = ptr g ∧ x.val = .int .i64 (f g : Int) ∧ Cel w g) ∧ es.toList.Pairwise (fun x y => x.key ≠ y.key) ∧ ∀ g, (∀ x ∈ es.toList, x.key ≠ ptr g) → f g = 0
theorem PM.below {w w' : World} {b : Nat} {f : Nat → Nat} (h : PM w b f) (hb : Below w.heap.size w w') : PM w' b f := by
  obtain ⟨es, clock, h1, h2, h3, h4⟩ := h.ex
  refine ⟨es, clock, (hb.block b (Array.getElem?_eq_some_iff.1 h1).1).trans h1, fun x hx => ?_, h3, h4⟩
  obtain ⟨g, a1, a2, cs, t, a3⟩ := h2 x hx
  exact ⟨g, a1, a2, cs, t, (hb.block g (Array.getElem?_eq_some_iff.1 a3).1).trans a3⟩
theorem PM.look {w : World} {b : Nat} {f : Nat → Nat} (h : PM w b f) {L : Nat} (hL : Cel w L) : (Instr.lookup 90 (.map (some b)) (.pointer (some ⟨L, 0, none⟩)) false).run Try.prog w = .ok (.int .i64 (f L : Int)) w := by
  obtain ⟨es, clock, h1, h2, h3, h4⟩ := h.ex
  have u := Try.underlying90
  have u2 := Try.underlying24
  have hc : ∀ em, (Instr.checkKey em 10000 24 (.pointer (some ⟨L, 0, none⟩))).run Try.prog w = .ok () w := fun em => by
    rw [show (10000 : Nat) = 9999 + 1 from rfl]
    unfold Instr.checkKey
    simp [run_underlying u2, Result.andThen]
  rcases find_ptr hL es.toList (fun x hx => by obtain ⟨g, a1, _, a3⟩ := h2 x hx; exact ⟨g, a1, a3⟩) with ⟨f1, f2⟩ | ⟨j, e, f1, f2, f3⟩
  · rw [h4 L f2]
    unfold ptr at f1
    unfold Instr.lookup
    simp [run_underlying u, Result.andThen, MapKept.run_getObj_map h1, hc, f1]
  · obtain ⟨g, a1, a2, _⟩ := h2 e (List.mem_of_getElem? f2)
    obtain rfl : L = g := (ptr_inj (f3.symm.trans a1))
    unfold ptr at f1
    unfold Instr.lookup
    simp [run_underlying u, Result.andThen, MapKept.run_getObj_map h1, hc, f1, a2]
def upN (f : Nat → Nat) (L v : Nat) : Nat → Nat := fun g => if g = L then v else f g
theorem PM.put {w : World} {b : Nat} {f : Nat → Nat} (h : PM w b f) {L : Nat} (hL : Cel w L) (v : Nat) : ∃ w', (Instr.mapUpdate 90 (.map (some b)) (.pointer (some ⟨L, 0, none⟩)) (.int .i64 (v : Int))).run Try.prog w = .ok () w' ∧ PM w' b (upN f L v) ∧ w.grownBy w' (some b) := by
  obtain ⟨es, clock, h1, h2, h3, h4⟩ := h.ex
  have u := Try.underlying90
  have u2 := Try.underlying24
  have hc : ∀ em, (Instr.checkKey em 10000 24 (.pointer (some ⟨L, 0, none⟩))).run Try.prog w = .ok () w := fun em => by
    rw [show (10000 : Nat) = 9999 + 1 from rfl]
    unfold Instr.checkKey
    simp [run_underlying u2, Result.andThen]
  have hcel : ∀ (o : Obj) (g : Nat), Cel w g → Cel { w with heap := w.heap.setIfInBounds b o } g := fun o g ⟨cs, t, hg⟩ => by
    refine ⟨cs, t, ((MapKept.heap_set h1).2 g (fun e => ?_)).trans hg⟩
    rw [e, h1] at hg
    cases hg
  have hgr : ∀ o : Obj, w.grownBy { w with heap := w.heap.setIfInBounds b o } (some b) := fun o => ⟨rfl, rfl, rfl, by simp, fun i _ hne => (MapKept.heap_set h1).2 i (fun e => hne (by rw [e]))⟩
  rcases find_ptr hL es.toList (fun x hx => by obtain ⟨g, a1, _, a3⟩ := h2 x hx; exact ⟨g, a1, a3⟩) with ⟨f1, f2⟩ | ⟨j, e, f1, f2, f3⟩
  · unfold ptr at f1
    refine ⟨_, ?_, ⟨es.push { key := .pointer (some ⟨L, 0, none⟩), val := .int .i64 (v : Int), born := clock }, clock + 1, (MapKept.heap_set h1).1, fun x hx => ?_, ?_, fun g hg => ?_⟩, hgr _⟩
    · unfold Instr.mapUpdate
      simp [run_underlying u, Result.andThen, MapKept.run_getObj_map h1, hc, f1, MapKept.run_setObj_map _ h1]
    · simp only [Array.toList_push, List.mem_append, List.mem_singleton] at hx
      rcases hx with hx | rfl
      · obtain ⟨g, a1, a2, a3⟩ := h2 x hx
        refine ⟨g, a1, ?_, hcel _ g a3⟩
        have hgL : g ≠ L := fun e => f2 x hx (by rw [a1, e])
        rw [a2]; unfold upN; rw [if_neg hgL]
      · exact ⟨L, rfl, by unfold upN; rw [if_pos rfl], hcel _ L hL⟩
    · simp only [Array.toList_push]
      refine List.pairwise_append.2 ⟨h3, by simp, fun x hx y hy => ?_⟩
      simp only [List.mem_singleton] at hy
      subst hy
      exact f2 x hx
    · unfold upN
      have hgL : g ≠ L := fun e => hg { key := .pointer (some ⟨L, 0, none⟩), val := .int .i64 (v : Int), born := clock } (by simp) (by rw [e]; rfl)
      rw [if_neg hgL]
      exact h4 g fun x hx => hg x (by simp [hx])
  · unfold ptr at f1
    have hj : es[j]? = some e := by simpa using f2
    have hk3 : e.key = .pointer (some ⟨L, 0, none⟩) := f3
    have hstay : (Instr.keyThatStays (.pointer (some ⟨L, 0, none⟩)) (.pointer (some ⟨L, 0, none⟩))).run Try.prog w = .ok (.pointer (some ⟨L, 0, none⟩)) w := by
      simp [Instr.keyThatStays, Instr.sameBits]
    have hget : ∀ i x, (es.modify j fun e' => { e' with key := .pointer (some ⟨L, 0, none⟩), val := .int .i64 (v : Int) })[i]? = some x → (i = j ∧ x = { e with key := .pointer (some ⟨L, 0, none⟩), val := .int .i64 (v : Int) }) ∨ (i ≠ j ∧ es[i]? = some x) := fun i x hx => by
      rw [Array.getElem?_modify] at hx
      by_cases hij : j = i
      · subst hij
        rw [if_pos rfl, hj] at hx
        exact Or.inl ⟨rfl, by simpa using hx.symm⟩
      · rw [if_neg hij] at hx
        exact Or.inr ⟨fun e => hij e.symm, hx⟩
    have hne : ∀ i x, i ≠ j → es[i]? = some x → x.key ≠ ptr L := fun i x hij hx he => by
      have hp := List.pairwise_iff_getElem.1 h3
      obtain ⟨hi, ei⟩ := Array.getElem?_eq_some_iff.1 hx
      obtain ⟨hj2, ej⟩ := Array.getElem?_eq_some_iff.1 hj
      rcases Nat.lt_or_gt_of_ne hij with hlt | hlt
      · have := hp i j (by simpa using hi) (by simpa using hj2) hlt
        simp only [Array.getElem_toList, ei, ej] at this
        exact this (he.trans f3.symm)
      · have := hp j i (by simpa using hj2) (by simpa using hi) hlt
        simp only [Array.getElem_toList, ei, ej] at this
        exact this (f3.trans he.symm)
    refine ⟨_, ?_, ⟨es.modify j fun e' => { e' with key := .pointer (some ⟨L, 0, none⟩), val := .int .i64 (v : Int) }, clock, (MapKept.heap_set h1).1, fun x hx => ?_, ?_, fun g hg => ?_⟩, hgr _⟩
    · unfold Instr.mapUpdate
      simp [run_underlying u, Result.andThen, MapKept.run_getObj_map h1, hc, f1, hj, hk3, hstay, MapKept.run_setObj_map _ h1]
    · obtain ⟨i, hi⟩ := List.mem_iff_getElem?.1 hx
      rw [Array.getElem?_toList] at hi
      rcases hget i x hi with ⟨_, rfl⟩ | ⟨hij, hx2⟩
      · exact ⟨L, rfl, by unfold upN; rw [if_pos rfl], hcel _ L hL⟩
      · obtain ⟨g, a1, a2, a3⟩ := h2 x (List.mem_of_getElem? (by rw [Array.getElem?_toList]; exact hx2))
        have hgL : g ≠ L := fun e => hne i x hij hx2 (by rw [a1, e])
        exact ⟨g, a1, by rw [a2]; unfold upN; rw [if_neg hgL], hcel _ g a3⟩
    · rw [List.pairwise_iff_getElem]
      intro i i' hi hi' hlt
      have hp := List.pairwise_iff_getElem.1 h3
      have e1 : (es.modify j fun e' => { e' with key := .pointer (some ⟨L, 0, none⟩), val := .int .i64 (v : Int) })[i]? = some ((es.modify j fun e' => { e' with key := .pointer (some ⟨L, 0, none⟩), val := .int .i64 (v : Int) }).toList[i]) := by rw [← Array.getElem?_toList, List.getElem?_eq_getElem hi]
      have e2 : (es.modify j fun e' => { e' with key := .pointer (some ⟨L, 0, none⟩), val := .int .i64 (v : Int) })[i']? = some ((es.modify j fun e' => { e' with key := .pointer (some ⟨L, 0, none⟩), val := .int .i64 (v : Int) }).toList[i']) := by rw [← Array.getElem?_toList, List.getElem?_eq_getElem hi']
      rcases hget i _ e1 with ⟨r1, r2⟩ | ⟨r1, r2⟩ <;> rcases hget i' _ e2 with ⟨s1, s2⟩ | ⟨s1, s2⟩
      · omega
      · rw [r2]; exact fun q => hne i' _ s1 s2 q.symm
      · rw [s2]; exact fun q => hne i _ r1 r2 q
      · obtain ⟨hii, ei⟩ := Array.getElem?_eq_some_iff.1 r2
        obtain ⟨hii', ei'⟩ := Array.getElem?_eq_some_iff.1 s2
        have := hp i i' (by simpa using hii) (by simpa using hii') hlt
        simp only [Array.getElem_toList] at this
        rw [ei, ei'] at this
        simpa using this
    · unfold upN
      have hgL : g ≠ L := fun e0 => hg { e with key := .pointer (some ⟨L, 0, none⟩), val := .int .i64 (v : Int) } (List.mem_of_getElem? (i := j) (by rw [Array.getElem?_toList, Array.getElem?_modify, if_pos rfl, hj]; rfl)) (by rw [e0]; rfl)
      rw [if_neg hgL]
      refine h4 g fun x hx => ?_
      obtain ⟨i, hi⟩ := List.mem_iff_getElem?.1 hx
      rw [Array.getElem?_toList] at hi
      by_cases hij : i = j
      · subst hij
        rw [hj] at hi
        cases hi
        rw [f3]
        exact fun q => hgL (ptr_inj q).symm
      · exact hg x (List.mem_of_getElem? (i := i) (by rw [Array.getElem?_toList, Array.getElem?_modify, if_neg (fun e => hij e.symm)]; exact hi))
theorem PM.new (w : World) : PM (w.alloc (.map #[] 0)) w.heap.size (fun _ => 0) := ⟨#[], 0, box_nw _ _, by simp, by simp, fun _ _ => rfl⟩
end Go.Proofs.Ytfenkiplofnolaa

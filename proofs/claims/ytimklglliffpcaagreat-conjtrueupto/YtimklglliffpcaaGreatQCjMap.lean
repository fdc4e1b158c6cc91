/- A map of names to lists of predicates, as conj.must keeps it. -/
import Derived.Test.YtimklglliffpcaaGreatQCjMn
import Derived.Test.YtimklglliffpcaaGreatQCjShk
import Derived.StringKeys
import Derived.Maps.OwnSet
namespace Go.Proofs.YtimklglliffpcaaGreat
open Go.RowKit Go.Sort Go.Shelf Go.ChangeMaps Go.MapKept
open Go.Maps (Keyed)

/-- How a list that lies in a block of its own reads. -/
def dq (x : Nat × Nat × Nat) : DataW Unit := .agg [.lit (.int .i64 (x.1 : Int)), .lit (.int .i64 (x.2.1 : Int)), .lit (.int .i64 (x.2.2 : Int))]
def Rq : Value → Option (DataW Unit × List MemPlace)
  | .slice (some ⟨g, 0, none⟩) n c => some (dq (g, n, c), [])
  | _ => none
def sv : Option (Nat × Nat × Nat) → Value
  | none => .slice none 0 0
  | some x => .slice (some ⟨x.1, 0, none⟩) x.2.1 x.2.2
theorem dq_inj {x y : Nat × Nat × Nat} (h : dq x = dq y) : x = y := by
  obtain ⟨a, b, c⟩ := x
  obtain ⟨a', b', c'⟩ := y
  simp only [dq, DataW.agg.injEq, List.cons.injEq, DataW.lit.injEq, Lit.int.injEq, true_and, and_true] at h
  obtain ⟨h1, h2, h3⟩ := h
  simp only [Prod.mk.injEq]
  omega
theorem Rq_inv {v : Value} {x : Nat × Nat × Nat} {ps : List MemPlace} (h : Rq v = some (dq x, ps)) : v = sv (some x) := by
  unfold Rq at h
  split at h
  · injection h with h; injection h with h1 h2
    have := dq_inj h1
    subst this
    rfl
  · cases h
theorem keyS : Keyed Tryz.prog 9 := Maps.string_keyed Tryz.underlying9
theorem key_of {s : ByteArray} (h : s.size ≤ maxLen) : keyOf Tryz.prog 9 (.string s) = some (.string s.data.toList) := Go.WideMaps.keyOf_string_mk Tryz.underlying9 h
theorem ba_ext {s t : ByteArray} (h : s.data.toList = t.data.toList) : s = t := by
  cases s; cases t
  simp only at h
  rw [Array.toList_inj.1 h]
/-- Block m is a map of names to lists. -/
def SM (w : World) (m n : Nat) (f : ByteArray → Option (Nat × Nat × Nat)) : Prop :=
  ∃ D : DataW Unit, w.ownsMap Tryz.prog 9 Rq m n D ∧ ∀ nm zd, D.atKey (.string nm.data.toList) zd = match f nm with | none => zd | some x => dq x
theorem SM.made (w : World) : SM (w.alloc (.map #[] 0)) w.heap.size 0 (fun _ => none) := ⟨.map [], World.ownsMap_made w _ _ _, fun _ _ => rfl⟩
theorem SM.lt {w : World} {m n : Nat} {f : ByteArray → Option (Nat × Nat × Nat)} (h : SM w m n f) : m < w.heap.size := by obtain ⟨D, h1, _⟩ := h; exact h1.lt
theorem SM.kept {w w' : World} {m n : Nat} {f : ByteArray → Option (Nat × Nat × Nat)} {row : Option Nat} (h : SM w m n f) (hg : w.grownBy w' row) (hne : some m ≠ row) : SM w' m n f := by
  obtain ⟨D, h1, h2⟩ := h; exact ⟨D, h1.kept hg hne, h2⟩
theorem SM.below {w w' : World} {m n : Nat} {f : ByteArray → Option (Nat × Nat × Nat)} (h : SM w m n f) (hb : Below w.heap.size w w') : SM w' m n f := by
  refine h.kept (row := none) ⟨hb.os, hb.tape, hb.output, hb.size, fun i hi _ => hb.block i hi⟩ (by simp)
theorem SM.look {w : World} {m n : Nat} {f : ByteArray → Option (Nat × Nat × Nat)} (h : SM w m n f) {nm : ByteArray} (hs : nm.size ≤ maxLen) : (Instr.lookup 144 (.map (some m)) (.string nm) false).run Tryz.prog w = .ok (sv (f nm)) w := by
  obtain ⟨D, ⟨es, clock, hb, F, _, rfl⟩, h2⟩ := h
  have hz : (zeroValue 22).run Tryz.prog w = .ok (.slice none 0 0) w := Tryz.zeroValue22 w
  rcases Maps.fit_look false keyS Tryz.underlying144 hz hb F (key_of hs) with ⟨hrun, _, hat⟩ | ⟨e0, y, _, _, hrun, hRv, hat, _⟩
  · cases hf : f nm with
    | none => exact hrun
    | some g =>
      have h3 := h2 nm (.nil : DataW Unit)
      rw [hf, hat] at h3
      cases h3
  · cases hf : f nm with
    | none =>
      have h3 := h2 nm (.nil : DataW Unit)
      have h4 := h2 nm (.lit (.bool true) : DataW Unit)
      rw [hf, hat] at h3 h4
      rw [h3] at h4
      cases h4
    | some g =>
      have h3 := h2 nm (.nil : DataW Unit)
      rw [hf, hat] at h3
      obtain ⟨y1, y2⟩ := y
      simp only at h3
      subst h3
      rw [Rq_inv hRv] at hrun
      exact hrun
/-- One name more, or another list under it. -/
def updQ {α : Type} (f : ByteArray → Option α) (nm : ByteArray) (x : Option α) : ByteArray → Option α := fun k => if k = nm then x else f k
theorem updQ_same {α : Type} (f : ByteArray → Option α) (nm : ByteArray) (x : Option α) : updQ f nm x nm = x := if_pos rfl
theorem updQ_ne {α : Type} (f : ByteArray → Option α) {nm k : ByteArray} (x : Option α) (h : k ≠ nm) : updQ f nm x k = f k := if_neg h
theorem lit_ne {a b : ByteArray} (h : a ≠ b) : Lit.string a.data.toList ≠ Lit.string b.data.toList := fun e => h (by injection e with e; exact ba_ext e)
theorem SM.put {w : World} {m n : Nat} {f : ByteArray → Option (Nat × Nat × Nat)} (h : SM w m n f) (hn : n < maxLen) {nm : ByteArray} (hs : nm.size ≤ maxLen) (x : Nat × Nat × Nat) :
    ∃ w', (Instr.mapUpdate 144 (.map (some m)) (.string nm) (.slice (some ⟨x.1, 0, none⟩) x.2.1 x.2.2)).run Tryz.prog w = .ok () w' ∧ SM w' m (n + 1) (updQ f nm (some x)) ∧ w.grownBy w' (some m) := by
  obtain ⟨D, h1, h2⟩ := h
  obtain ⟨w', hr, h3, h4⟩ := h1.update keyS Tryz.underlying144 hn (key_of hs) (show Rq (.slice (some ⟨x.1, 0, none⟩) x.2.1 x.2.2) = some (dq x, []) from rfl)
  refine ⟨w', hr, ⟨_, h3, fun k zd => ?_⟩, h4⟩
  by_cases e : k = nm
  · subst e
    rw [updQ_same, Maps.atKey_put_same (h1.isMap) (keyS.key (key_of hs))]
  · rw [updQ_ne _ _ e, Maps.atKey_put_other (lit_ne e), h2]
/-- A list in a block of its own: its cells, and what they are in the world w. -/
def RowP (B : Nat) (w wr : World) (q : Option Addr) (n c : Nat) (ps : List Pd) : Prop := ps.length = n ∧ ∃ us : List Pv, us.length = n ∧ OwnK encD 26 6 B wr q c us ∧ ∀ (j : Nat) (u : Pv) (p : Pd), us[j]? = some u → ps[j]? = some p → PdIn w u p
theorem own_otherD {B : Nat} {w w' : World} {q : Option Addr} {cap : Nat} {l : List Pv} {r : Option Nat} (h : OwnK encD 26 6 B w q cap l) (hg : w.grownBy w' r) (hne : ∀ p, q = some p → some p.block ≠ r) : OwnK encD 26 6 B w' q cap l := by
  refine ⟨h.1, ?_⟩
  rcases h.2 with h0 | ⟨g, cp, cur, hv, hB, hblk, hr⟩
  · exact Or.inl h0
  · refine Or.inr ⟨g, cp, cur, hv, hB, (hg.block g (Array.getElem?_eq_some_iff.1 hblk).1 ?_).trans hblk, hr⟩
    injection hv with h1
    exact hne _ h1
theorem RowP.kept {B : Nat} {w wr wr' : World} {q : Option Addr} {n c : Nat} {ps : List Pd} {r : Option Nat} (h : RowP B w wr q n c ps) (hg : wr.grownBy wr' r) (hne : ∀ p, q = some p → some p.block ≠ r) : RowP B w wr' q n c ps := by
  obtain ⟨h1, us, h2, h3, h4⟩ := h
  exact ⟨h1, us, h2, own_otherD h3 hg hne, h4⟩
theorem RowP.preds {B : Nat} {w wr : World} {q : Option Addr} {n c : Nat} {ps : List Pd} (h : RowP B w wr q n c ps) (hb : Below w.heap.size w wr) : PdsOf wr q c ps := by
  obtain ⟨h1, us, h2, h3, h4⟩ := h
  exact ⟨us, h3.ls, by omega, fun j u p hj hp => (h4 j u p hj hp).keep hb⟩
theorem snocP {ps : List Pd} {us : List Pv} {Q : Pv → Pd → Prop} {u : Pv} {p : Pd} (he : us.length = ps.length) (h : ∀ (j : Nat) (u : Pv) (p : Pd), us[j]? = some u → ps[j]? = some p → Q u p) (hq : Q u p) : ∀ (j : Nat) (v : Pv) (m : Pd), (us ++ [u])[j]? = some v → (ps ++ [p])[j]? = some m → Q v m := snocD he h hq
/-- The map of conj.must: under each name that has been asked for its predicates. -/
def MM (w : World) (m : Nat) (wr : World) (n : Nat) (F : ByteArray → List Pd) : Prop :=
  ∃ f, SM wr m n f ∧ (∀ a, f a = none → F a = []) ∧ (∀ a x, f a = some x → 0 < x.2.1 ∧ RowP (m + 1) w wr (some ⟨x.1, 0, none⟩) x.2.1 x.2.2 (F a)) ∧ ∀ a b x y, f a = some x → f b = some y → a ≠ b → x.1 ≠ y.1
theorem MM.made (w : World) : MM w w.heap.size (w.alloc (.map #[] 0)) 0 (fun _ => []) := ⟨fun _ => none, SM.made w, fun _ _ => rfl, (fun _ _ h => by cases h), (fun _ _ _ _ h => by cases h)⟩
theorem MM.below {w : World} {m : Nat} {wr wr' : World} {n : Nat} {F : ByteArray → List Pd} (h : MM w m wr n F) (hb : Below wr.heap.size wr wr') : MM w m wr' n F := by
  obtain ⟨f, h1, h2, h3, h4⟩ := h
  exact ⟨f, h1.below hb, h2, fun a x hx => ⟨(h3 a x hx).1, (h3 a x hx).2.kept (r := none) (grown_belowC hb _) (fun _ _ e => by cases e)⟩, h4⟩
theorem MM.lt {w : World} {m : Nat} {wr : World} {n : Nat} {F : ByteArray → List Pd} (h : MM w m wr n F) : m < wr.heap.size := by obtain ⟨f, h1, _⟩ := h; exact h1.lt
/-- The list under a name. -/
theorem MM.look {w : World} {m : Nat} {wr : World} {n : Nat} {F : ByteArray → List Pd} (h : MM w m wr n F) (a : ByteArray) (hs : a.size ≤ maxLen) : ∃ q c, (Instr.lookup 144 (.map (some m)) (.string a) false).run Tryz.prog wr = .ok (.slice q (F a).length c) wr ∧ RowP (m + 1) w wr q (F a).length c (F a) := by
  obtain ⟨f, h1, h2, h3, h4⟩ := h
  have hl := h1.look hs
  cases hf : f a with
  | none =>
    rw [hf] at hl
    refine ⟨none, 0, ?_, ?_⟩
    · rw [h2 a hf]; exact hl
    · rw [h2 a hf]; exact ⟨rfl, [], rfl, OwnK.nil _ _, fun j u p hj => by simp at hj⟩
  | some x =>
    rw [hf] at hl
    obtain ⟨_, h5⟩ := h3 a x hf
    have e := h5.1
    refine ⟨some ⟨x.1, 0, none⟩, x.2.2, ?_, ?_⟩
    · rw [e]; exact hl
    · rw [e]; exact h5
/-- F with one predicate more under a name. -/
def addF (F : ByteArray → List Pd) (a : ByteArray) (p : Pd) : ByteArray → List Pd := fun b => if b = a then F a ++ [p] else F b
/-- One predicate more under a name: the look-up, the list ahead of the append, and what the store behind it leaves. -/
theorem MM.step {w : World} {m : Nat} {wr : World} {n : Nat} {F : ByteArray → List Pd} (h : MM w m wr n F) (a : ByteArray) (hs : a.size ≤ maxLen) (hn : n < maxLen) (p : Pd) (u : Pv) (hu : PdIn w u p) :
    ∃ (q : Option Addr) (c : Nat) (us : List Pv), us.length = (F a).length ∧ (∀ V, Below wr.heap.size wr V → (Instr.lookup 144 (.map (some m)) (.string a) false).run Tryz.prog V = .ok (.slice q (F a).length c) V ∧ OwnK encD 26 6 (m + 1) V q c us) ∧
      ∀ V, Below wr.heap.size wr V → ∀ (q9 : Option Addr) (c9 : Nat) (w9 : World), OwnK encD 26 6 (m + 1) w9 q9 c9 (us ++ [u]) → V.grownBy w9 (Value.slice q (F a).length c).ownBlock → ((Value.slice q9 ((F a).length + 1) c9).ownBlock = (Value.slice q (F a).length c).ownBlock ∨ (Value.slice q9 ((F a).length + 1) c9).ownBlock = some V.heap.size) →
        ∃ w', (Instr.mapUpdate 144 (.map (some m)) (.string a) (.slice q9 ((F a).length + 1) c9)).run Tryz.prog w9 = .ok () w' ∧ MM w m w' (n + 1) (addF F a p) ∧ w9.grownBy w' (some m) := by
  obtain ⟨f, h1, h2, h3, h4⟩ := h
  have hrow : ∃ (q : Option Addr) (c : Nat) (us : List Pv), us.length = (F a).length ∧ sv (f a) = .slice q (F a).length c ∧ OwnK encD 26 6 (m + 1) wr q c us ∧ (∀ (j : Nat) (u : Pv) (p : Pd), us[j]? = some u → (F a)[j]? = some p → PdIn w u p) := by
    cases hf : f a with
    | none => exact ⟨none, 0, [], by rw [h2 a hf]; rfl, by rw [h2 a hf]; rfl, OwnK.nil _ _, fun j u p hj => by simp at hj⟩
    | some x =>
      obtain ⟨_, e, us, h6, h7, h8⟩ := h3 a x hf
      exact ⟨some ⟨x.1, 0, none⟩, x.2.2, us, by rw [h6, e], by rw [e]; rfl, h7, h8⟩
  obtain ⟨q, c, us, e1, e2, e3, e4⟩ := hrow
  refine ⟨q, c, us, e1, fun V hV => ⟨?_, e3.below hV⟩, fun V hV q9 c9 w9 ho hg hor => ?_⟩
  · have := (h1.below hV).look hs
    rw [e2] at this
    exact this
  · have hob : ∀ b, (Value.slice q (F a).length c).ownBlock = some b → m + 1 ≤ b ∧ b < wr.heap.size := fun b e => by
      have := World.ownsRow.lt e3 b (by rw [e1]; exact e)
      exact this
    have hmw := h1.lt
    have hsv : (sv (f a)).ownBlock = (Value.slice q (F a).length c).ownBlock := by rw [e2]
    obtain ⟨g9, rfl⟩ : ∃ g9, q9 = some ⟨g9, 0, none⟩ := by
      rcases ho.2 with ⟨h0, h9⟩ | ⟨g9, cp, cur, hv, _⟩
      · simp at h9
      · injection hv with k1
        exact ⟨g9, k1⟩
    have hg9 := World.ownsRow.lt ho g9 rfl
    have hSM : SM w9 m n f := (h1.below hV).kept hg (fun e => by have := (hob m e.symm).1; omega)
    obtain ⟨w', r1, r2, r3⟩ := hSM.put hn hs (g9, (F a).length + 1, c9)
    refine ⟨w', r1, ⟨_, r2, fun b hb => ?_, fun b x hb => ?_, fun b d x y hb hd hne => ?_⟩, r3⟩
    · by_cases e : b = a
      · subst e; rw [updQ_same] at hb; cases hb
      · rw [updQ_ne _ _ e] at hb
        unfold addF
        rw [if_neg e]
        exact h2 b hb
    · by_cases e : b = a
      · subst e
        rw [updQ_same] at hb
        cases hb
        refine ⟨Nat.succ_pos _, ?_⟩
        unfold addF
        rw [if_pos rfl]
        exact ⟨by simp, us ++ [u], by simp [e1], own_otherD ho r3 (fun p hp => by cases hp; intro e; injection e with e; simp only at e; omega), snocP e1 e4 hu⟩
      · rw [updQ_ne _ _ e] at hb
        unfold addF
        rw [if_neg e]
        obtain ⟨h5, h6⟩ := h3 b x hb
        have hx1 : m + 1 ≤ x.1 := by
          obtain ⟨_, us6, h62, h63, _⟩ := h6
          exact (World.ownsRow.lt h63 x.1 rfl).1
        refine ⟨h5, ((h6.kept (r := none) (grown_belowC hV _) (fun _ _ e => by cases e)).kept hg ?_).kept r3 ?_⟩
        · intro p hp
          cases hp
          intro e9
          cases hf : f a with
          | none => rw [← hsv, hf] at e9; cases e9
          | some z =>
            rw [← hsv, hf] at e9
            injection e9 with e9
            exact h4 b a x z hb hf e e9
        · intro p hp
          cases hp
          intro e9
          injection e9 with e9
          simp only at e9
          omega
    · have key : ∀ b y, f b = some y → b ≠ a → g9 ≠ y.1 := fun b y hb hne e9 => by
        obtain ⟨_, _, us6, h62, h63, _⟩ := h3 b y hb
        have hy := (World.ownsRow.lt h63 y.1 rfl).2
        rcases hor with ho | ho
        · cases hf : f a with
          | none => rw [← hsv, hf] at ho; cases ho
          | some z =>
            rw [← hsv, hf] at ho
            injection ho with ho
            simp only at ho
            exact h4 b a y z hb hf hne (by omega)
        · injection ho with ho
          simp only at ho
          have := hV.size
          omega
      by_cases e : b = a
      · subst e
        rw [updQ_same] at hb
        cases hb
        rw [updQ_ne _ _ (fun e => hne e.symm)] at hd
        exact key d y hd (fun e => hne e.symm)
      · rw [updQ_ne _ _ e] at hb
        by_cases e5 : d = a
        · subst e5
          rw [updQ_same] at hd
          cases hd
          exact fun e9 => key b x hb e e9.symm
        · rw [updQ_ne _ _ e5] at hd
          exact h4 b d x y hb hd hne
end Go.Proofs.YtimklglliffpcaaGreat

/- What the copies of lists and trees are: new memory that holds the same. -/
import Derived.Test.YtimklglliffpcaaGreatQZab
import Derived.Lib.SliceRun
namespace Go.Proofs.YtimklglliffpcaaGreat
open Go.RowKit Go.Sort

theorem OwnK.from {α : Type} [Inhabited α] {enc : α → List Value} {k B : Nat} {e : TypeId} {w : World} {q : Option Addr} {cap : Nat} {l : List α} (h : OwnK enc e k B w q cap l) : ∀ a, q = some a → B ≤ a.block := by
  intro a ha
  rcases h.2 with ⟨h0, _⟩ | ⟨g, cp, cur, hv, hB, _⟩
  · injection h0 with h1; rw [ha] at h1; cases h1
  · injection hv with h1; rw [ha] at h1; cases h1; exact hB
/-- The tree of v lies in memory, all of it in blocks from B on. -/
inductive NdFrom (w : World) (B : Nat) : Nv → Nd → Prop
  | mk {kind : Int} {attr : ByteArray} {ints : List Int} {words : List ByteArray} {lo hi op : Int} {kids : List Nd} {qi : Option Addr} {ci : Nat} {qw : Option Addr} {cw : Nat} {qk : Option Addr} {ck : Nat} {vs : List Nv} :
      SlOf encI 1 w qi ci ints → SlOf encS 1 w qw cw words → SlOf encV 8 w qk ck vs → (∀ a, qi = some a → B ≤ a.block) → (∀ a, qw = some a → B ≤ a.block) → (∀ a, qk = some a → B ≤ a.block) → vs.length = kids.length → (∀ (j : Nat) (v : Nv) (x : Nd), vs[j]? = some v → kids[j]? = some x → NdFrom w B v x) →
      NdFrom w B ⟨kind, attr, qi, ints.length, ci, qw, words.length, cw, lo, hi, op, qk, kids.length, ck⟩ (.mk kind attr ints words lo hi op kids)
theorem NdFrom.toIn {w : World} {B : Nat} {v : Nv} {t : Nd} (h : NdFrom w B v t) : NdIn w v t := by
  induction h with
  | mk hi hw hk _ _ _ hl hr ih => exact .mk hi hw hk hl fun j v x hj hx => ih j v x hj hx
theorem NdFrom.mono {w : World} {B B' : Nat} {v : Nv} {t : Nd} (h : NdFrom w B v t) (hB : B' ≤ B) : NdFrom w B' v t := by
  induction h with
  | mk hi hw hk h1 h2 h3 hl hr ih => exact .mk hi hw hk (fun a e => Nat.le_trans hB (h1 a e)) (fun a e => Nat.le_trans hB (h2 a e)) (fun a e => Nat.le_trans hB (h3 a e)) hl fun j v x hj hx => ih j v x hj hx
/-- A later world that has the same cells from B on. -/
def SameUp (B : Nat) (w w' : World) : Prop := w.heap.size ≤ w'.heap.size ∧ ∀ b o, B ≤ b → b < w.heap.size → w'.cell? ⟨b, o, none⟩ = w.cell? ⟨b, o, none⟩
theorem SlOf.up {α : Type} [Inhabited α] {enc : α → List Value} {k B : Nat} {w w' : World} {q : Option Addr} {c : Nat} {l : List α} (h : SlOf enc k w q c l) (hq : ∀ a, q = some a → B ≤ a.block) (hu : SameUp B w w') : SlOf enc k w' q c l := by
  refine ⟨h.1, h.2.1, h.2.2.1, fun h0 => ?_⟩
  obtain ⟨b, off, rfl, hB, hA⟩ := h.2.2.2 h0
  exact ⟨b, off, rfl, Nat.lt_of_lt_of_le hB hu.1, fun j u hj => (hu.2 b (off + j) (hq _ rfl) hB).trans (hA j u hj)⟩
theorem NdFrom.up {w w' : World} {B : Nat} {v : Nv} {t : Nd} (h : NdFrom w B v t) (hu : SameUp B w w') : NdFrom w' B v t := by
  induction h with
  | mk hi hw hk h1 h2 h3 hl hr ih => exact .mk (hi.up h1 hu) (hw.up h2 hu) (hk.up h3 hu) h1 h2 h3 hl fun j v x hj hx => ih j v x hj hx
theorem SameUp.of {B : Nat} {w w' : World} (h : Below w.heap.size w w') : SameUp B w w' := ⟨h.size, fun b o _ hb => h.cell (p := ⟨b, o, none⟩) hb⟩
theorem SameUp.trans {B : Nat} {x y z : World} (h : SameUp B x y) (k : SameUp B y z) : SameUp B x z := ⟨Nat.le_trans h.1 k.1, fun b o h1 h2 => (k.2 b o h1 (Nat.lt_of_lt_of_le h2 h.1)).trans (h.2 b o h1 h2)⟩
theorem SameUp.grown {B g : Nat} {w w' : World} (h : w.grownBy w' (some g)) (hg : g < B) : SameUp B w w' := ⟨h.size, fun b o h1 h2 => World.cell?_of_block (w := w) (a := ⟨b, o, none⟩) (h.block b h2 (fun e => by cases e; omega))⟩
theorem NdFrom.keep {w w' : World} {B : Nat} {v : Nv} {t : Nd} (h : NdFrom w B v t) (hb : Below w.heap.size w w') : NdFrom w' B v t := h.up (SameUp.of hb)
theorem NdFrom.make {w : World} {B : Nat} {kind : Int} {attr : ByteArray} {ints : List Int} {words : List ByteArray} {lo hi op : Int} {kids : List Nd} {qi : Option Addr} {ci : Nat} {qw : Option Addr} {cw : Nat} {qk : Option Addr} {ck : Nat} {vs : List Nv}
    (h1 : SlOf encI 1 w qi ci ints) (f1 : ∀ a, qi = some a → B ≤ a.block) (h2 : SlOf encS 1 w qw cw words) (f2 : ∀ a, qw = some a → B ≤ a.block) (h3 : SlOf encV 8 w qk ck vs) (f3 : ∀ a, qk = some a → B ≤ a.block) (hl : vs.length = kids.length) (hr : ∀ (j : Nat) (v : Nv) (x : Nd), vs[j]? = some v → kids[j]? = some x → NdFrom w B v x) :
    NdFrom w B ⟨kind, attr, qi, ints.length, ci, qw, words.length, cw, lo, hi, op, qk, kids.length, ck⟩ (.mk kind attr ints words lo hi op kids) := .mk h1 h2 h3 f1 f2 f3 hl hr
set_option maxRecDepth 100000 in
set_option maxHeartbeats 1000000 in
theorem cloneI (q : Option Addr) (c : Nat) (l : List Int) (w : World) (h : SlOf encI 1 w q c l) (hl : l.length ≤ 1000000000000) :
    Calls Tryz.prog 97 #[.slice q l.length c] w fun e w' => ∃ q' c', e = .returned (.slice q' l.length c') ∧ OwnK encI 3 1 w.heap.size w' q' c' l ∧ Below w.heap.size w w' := by
  cases q with
  | none =>
    obtain ⟨h0, rfl⟩ := h.1 rfl
    obtain rfl : l = [] := List.length_eq_zero_iff.1 h0
    have heq := fun (w : World) => Lib.run_eql_slice_nil (P := Tryz.prog) w 23 3 none 0 0 0 0 Tryz.underlying23
    clear h h0
    go_enter Tryz.func97, Tryz.ntmps97
    go_wp2
    go_ret
    exact ⟨none, 0, rfl, OwnK.nil _ _, Below.refl _ _⟩
  | some a =>
    have HS := hide h
    have heq := fun (w : World) => Lib.run_eql_slice_nil (P := Tryz.prog) w 23 3 (some a) l.length c 0 0 Tryz.underlying23
    clear h
    go_enter Tryz.func97, Tryz.ntmps97
    go_wp2_with (at_builtin; refine wpList_app rowI rfl _ _ rfl w.heap.size (some ⟨w.heap.size, 0, none⟩) 0 [] (some a) c l 0 l.length l.length rfl rfl (by omega) rfl rfl (OwnK.made _ _ (Nat.le_refl _)) ((unhide HS).below ((Below.refl _ _).alloc (Nat.le_refl _) _)).src (by unfold maxLen; omega) (by omega) (by simp) ?_; intro q2 c2 w2 hown2 hb2 _ hg2)
    go_ret
    exact ⟨q2, c2, rfl, by simpa using hown2, ((Below.refl _ _).alloc (Nat.le_refl _) _).trans hb2⟩
set_option maxRecDepth 100000 in
set_option maxHeartbeats 1000000 in
theorem cloneS (q : Option Addr) (c : Nat) (l : List ByteArray) (w : World) (h : SlOf encS 1 w q c l) (hl : l.length ≤ 1000000000000) :
    Calls Tryz.prog 176 #[.slice q l.length c] w fun e w' => ∃ q' c', e = .returned (.slice q' l.length c') ∧ OwnK encS 9 1 w.heap.size w' q' c' l ∧ Below w.heap.size w w' := by
  cases q with
  | none =>
    obtain ⟨h0, rfl⟩ := h.1 rfl
    obtain rfl : l = [] := List.length_eq_zero_iff.1 h0
    have heq := fun (w : World) => Lib.run_eql_slice_nil (P := Tryz.prog) w 24 9 none 0 0 0 0 Tryz.underlying24
    clear h h0
    go_enter Tryz.func176, Tryz.ntmps176
    go_wp2
    go_ret
    exact ⟨none, 0, rfl, OwnK.nil _ _, Below.refl _ _⟩
  | some a =>
    have HS := hide h
    have heq := fun (w : World) => Lib.run_eql_slice_nil (P := Tryz.prog) w 24 9 (some a) l.length c 0 0 Tryz.underlying24
    clear h
    go_enter Tryz.func176, Tryz.ntmps176
    go_wp2_with (at_builtin; refine wpList_app rowS rfl _ _ rfl w.heap.size (some ⟨w.heap.size, 0, none⟩) 0 [] (some a) c l 0 l.length l.length rfl rfl (by omega) rfl rfl (OwnK.made _ _ (Nat.le_refl _)) ((unhide HS).below ((Below.refl _ _).alloc (Nat.le_refl _) _)).src (by unfold maxLen; omega) (by omega) (by simp) ?_; intro q2 c2 w2 hown2 hb2 _ hg2)
    go_ret
    exact ⟨q2, c2, rfl, by simpa using hown2, ((Below.refl _ _).alloc (Nat.le_refl _) _).trans hb2⟩
set_option maxRecDepth 100000 in
set_option maxHeartbeats 1000000 in
theorem cloneV (q : Option Addr) (c : Nat) (l : List Nv) (w : World) (h : SlOf encV 8 w q c l) (hl : l.length ≤ 1000000000000) :
    Calls Tryz.prog 181 #[.slice q l.length c] w fun e w' => ∃ q' c', e = .returned (.slice q' l.length c') ∧ OwnK encV 56 8 w.heap.size w' q' c' l ∧ Below w.heap.size w w' := by
  cases q with
  | none =>
    obtain ⟨h0, rfl⟩ := h.1 rfl
    obtain rfl : l = [] := List.length_eq_zero_iff.1 h0
    have heq := fun (w : World) => Lib.run_eql_slice_nil (P := Tryz.prog) w 54 56 none 0 0 0 0 Tryz.underlying54
    clear h h0
    go_enter Tryz.func181, Tryz.ntmps181
    go_wp2
    go_ret
    exact ⟨none, 0, rfl, OwnK.nil _ _, Below.refl _ _⟩
  | some a =>
    have HS := hide h
    have heq := fun (w : World) => Lib.run_eql_slice_nil (P := Tryz.prog) w 54 56 (some a) l.length c 0 0 Tryz.underlying54
    clear h
    go_enter Tryz.func181, Tryz.ntmps181
    go_wp2_with (at_builtin; refine wpList_app rowV rfl _ _ rfl w.heap.size (some ⟨w.heap.size, 0, none⟩) 0 [] (some a) c l 0 l.length l.length rfl rfl (by omega) rfl rfl (OwnK.made _ _ (Nat.le_refl _)) ((unhide HS).below ((Below.refl _ _).alloc (Nat.le_refl _) _)).src (by unfold maxLen; omega) (by omega) (by simp) ?_; intro q2 c2 w2 hown2 hb2 _ hg2)
    go_ret
    exact ⟨q2, c2, rfl, by simpa using hown2, ((Below.refl _ _).alloc (Nat.le_refl _) _).trans hb2⟩
end Go.Proofs.YtimklglliffpcaaGreat
namespace Go.Proofs.YtimklglliffpcaaGreat
open Go.RowKit

theorem size_pos (t : Nd) : 1 ≤ sizeN t := by cases t; simp only [sizeN]; omega
theorem len_size (l : List Nd) : l.length ≤ sizeL l := by
  induction l with
  | nil => simp
  | cons x l ih => have := size_pos x; simp only [sizeL, List.length_cons]; omega
end Go.Proofs.YtimklglliffpcaaGreat
namespace Go.Proofs.YtimklglliffpcaaGreat
open Go.RowKit

theorem pre_snoc {α : Type} {l m : List α} {k : Nat} {x : α} (h : l.take k = m.take k) (hx : l[k]? = some x) (hy : m[k]? = some x) : l.take (k + 1) = m.take (k + 1) := by
  rw [take_snoc_of hx, take_snoc_of hy, h]
theorem pre_ne {α : Type} {l m : List α} {k : Nat} {x y : α} (hx : l[k]? = some x) (hy : m[k]? = some y) (h : x ≠ y) : l ≠ m := fun e => by subst e; rw [hx] at hy; cases hy; exact h rfl
theorem NdsOf.cells {w wr : World} {q : Option Addr} {c : Nat} {l : List Nd} {j : Nat} {x : Nd} (h : NdsOf w q c l) (hj : l[j]? = some x) (hbel : Below w.heap.size w wr) :
    ∃ b off v, q = some ⟨b, off, none⟩ ∧ b < wr.heap.size ∧ NdIn wr v x ∧ (wr.cell? ⟨b, off + j * 8, none⟩ = some (.int .i64 v.kind) ∧ wr.cell? ⟨b, off + j * 8 + 1, none⟩ = some (.string v.attr) ∧ wr.cell? ⟨b, off + j * 8 + 2, none⟩ = some (.slice v.qi v.ni v.ci) ∧ wr.cell? ⟨b, off + j * 8 + 3, none⟩ = some (.slice v.qw v.nw v.cw) ∧ wr.cell? ⟨b, off + j * 8 + 4, none⟩ = some (.int .i64 v.lo) ∧ wr.cell? ⟨b, off + j * 8 + 5, none⟩ = some (.int .i64 v.hi) ∧ wr.cell? ⟨b, off + j * 8 + 6, none⟩ = some (.int .i64 v.op) ∧ wr.cell? ⟨b, off + j * 8 + 7, none⟩ = some (.slice v.qk v.nk v.ck)) := by
  obtain ⟨b, off, v, hq, hb, hin, c⟩ := (h.below hbel).at hj
  exact ⟨b, off, v, hq, hb, hin, c⟩
end Go.Proofs.YtimklglliffpcaaGreat
namespace Go.Proofs.YtimklglliffpcaaGreat
open Go.RowKit Go.Sort

theorem flat_at8 (l : List Nv) (j : Nat) (x : Nv) (h : l[j]? = some x) (c : Nat) (hc : c < 8) : (flatK encV 8 l.toArray).toList[j * 8 + c]? = some ((encV x)[c]!) := flat_at h c hc
theorem flat_len (l : List Nv) : (flatK encV 8 l.toArray).toList.length = l.length * 8 := by simp
theorem flat_set8 (l : List Nv) (k : Nat) (v : Nv) (hk : k < l.length) : (flatK encV 8 (l.set k v).toArray).toList = (((((((((flatK encV 8 l.toArray).toList).set (k * 8) (.int .i64 v.kind)).set (k * 8 + 1) (.string v.attr)).set (k * 8 + 2) (.slice v.qi v.ni v.ci)).set (k * 8 + 3) (.slice v.qw v.nw v.cw)).set (k * 8 + 4) (.int .i64 v.lo)).set (k * 8 + 5) (.int .i64 v.hi)).set (k * 8 + 6) (.int .i64 v.op)).set (k * 8 + 7) (.slice v.qk v.nk v.ck) := by
  apply List.ext_getElem?
  intro i
  by_cases hi : i < l.length * 8
  · have hq : i / 8 < l.length := by omega
    have hi2 : i = i / 8 * 8 + i % 8 := by omega
    by_cases h : i / 8 = k
    · have h1 : (l.set k v)[k]? = some v := by rw [List.getElem?_set_self hk]
      have h2 := flat_at8 (l.set k v) k v h1 (i % 8) (by omega)
      have hlen := flat_len l
      rw [h] at hi2
      have hm : i % 8 = 0 ∨ i % 8 = 1 ∨ i % 8 = 2 ∨ i % 8 = 3 ∨ i % 8 = 4 ∨ i % 8 = 5 ∨ i % 8 = 6 ∨ i % 8 = 7 := by omega
      rcases hm with e | e | e | e | e | e | e | e
      all_goals
        rw [e] at hi2 h2
        rw [hi2, h2]
        simp [List.getElem?_set, encV]
        omega
    · obtain ⟨x, hx, _⟩ := get_at hq
      have h1 : (l.set k v)[i / 8]? = some x := by rw [List.getElem?_set_ne (by omega)]; exact hx
      have h2 := flat_at8 (l.set k v) (i / 8) x h1 (i % 8) (by omega)
      have h3 := flat_at8 l (i / 8) x hx (i % 8) (by omega)
      rw [← hi2] at h2 h3
      rw [h2]
      rw [List.getElem?_set_ne (by omega), List.getElem?_set_ne (by omega), List.getElem?_set_ne (by omega), List.getElem?_set_ne (by omega), List.getElem?_set_ne (by omega), List.getElem?_set_ne (by omega), List.getElem?_set_ne (by omega), List.getElem?_set_ne (by omega), h3]
  · rw [List.getElem?_eq_none (by rw [flat_len]; simp; omega), List.getElem?_eq_none (by simp; omega)]
/-- A node stored into a row of the call's own. -/
theorem own_set8 {B g c : Nat} {w : World} {l : List Nv} {k : Nat} (h : OwnK encV 56 8 B w (some ⟨g, 0, none⟩) c l) (hk : k < l.length) (v : Nv) :
    OwnK encV 56 8 B (((((((((w).setCell ⟨g, k * 8, none⟩ (.int .i64 v.kind)).setCell ⟨g, k * 8 + 1, none⟩ (.string v.attr)).setCell ⟨g, k * 8 + 2, none⟩ (.slice v.qi v.ni v.ci)).setCell ⟨g, k * 8 + 3, none⟩ (.slice v.qw v.nw v.cw)).setCell ⟨g, k * 8 + 4, none⟩ (.int .i64 v.lo)).setCell ⟨g, k * 8 + 5, none⟩ (.int .i64 v.hi)).setCell ⟨g, k * 8 + 6, none⟩ (.int .i64 v.op)).setCell ⟨g, k * 8 + 7, none⟩ (.slice v.qk v.nk v.ck)) (some ⟨g, 0, none⟩) c (l.set k v) ∧ SameUp (g + 1) w (((((((((w).setCell ⟨g, k * 8, none⟩ (.int .i64 v.kind)).setCell ⟨g, k * 8 + 1, none⟩ (.string v.attr)).setCell ⟨g, k * 8 + 2, none⟩ (.slice v.qi v.ni v.ci)).setCell ⟨g, k * 8 + 3, none⟩ (.slice v.qw v.nw v.cw)).setCell ⟨g, k * 8 + 4, none⟩ (.int .i64 v.lo)).setCell ⟨g, k * 8 + 5, none⟩ (.int .i64 v.hi)).setCell ⟨g, k * 8 + 6, none⟩ (.int .i64 v.op)).setCell ⟨g, k * 8 + 7, none⟩ (.slice v.qk v.nk v.ck)) := by
  unfold OwnK at h
  have h0 := World.ownsRow.stored h (k * 8) (.int .i64 v.kind)
  have h1 := World.ownsRow.stored h0.1 (k * 8 + 1) (.string v.attr)
  have h2 := World.ownsRow.stored h1.1 (k * 8 + 2) (.slice v.qi v.ni v.ci)
  have h3 := World.ownsRow.stored h2.1 (k * 8 + 3) (.slice v.qw v.nw v.cw)
  have h4 := World.ownsRow.stored h3.1 (k * 8 + 4) (.int .i64 v.lo)
  have h5 := World.ownsRow.stored h4.1 (k * 8 + 5) (.int .i64 v.hi)
  have h6 := World.ownsRow.stored h5.1 (k * 8 + 6) (.int .i64 v.op)
  have h7 := World.ownsRow.stored h6.1 (k * 8 + 7) (.slice v.qk v.nk v.ck)
  refine ⟨?_, ?_⟩
  · unfold OwnK
    rw [flat_set8 l k v hk, List.length_set]
    exact h7.1
  · exact (((((((SameUp.grown h0.2 (by omega)).trans (SameUp.grown h1.2 (by omega))).trans (SameUp.grown h2.2 (by omega))).trans (SameUp.grown h3.2 (by omega))).trans (SameUp.grown h4.2 (by omega))).trans (SameUp.grown h5.2 (by omega))).trans (SameUp.grown h6.2 (by omega))).trans (SameUp.grown h7.2 (by omega))
theorem below_set8 {B g : Nat} {a w : World} (h : Below B a w) (hg : B ≤ g) (k : Nat) (v : Nv) : Below B a (((((((((w).setCell ⟨g, k * 8, none⟩ (.int .i64 v.kind)).setCell ⟨g, k * 8 + 1, none⟩ (.string v.attr)).setCell ⟨g, k * 8 + 2, none⟩ (.slice v.qi v.ni v.ci)).setCell ⟨g, k * 8 + 3, none⟩ (.slice v.qw v.nw v.cw)).setCell ⟨g, k * 8 + 4, none⟩ (.int .i64 v.lo)).setCell ⟨g, k * 8 + 5, none⟩ (.int .i64 v.hi)).setCell ⟨g, k * 8 + 6, none⟩ (.int .i64 v.op)).setCell ⟨g, k * 8 + 7, none⟩ (.slice v.qk v.nk v.ck)) := ((((((((h).setCell hg _).setCell hg _).setCell hg _).setCell hg _).setCell hg _).setCell hg _).setCell hg _).setCell hg _
/-- What clone has to do at a tree. -/
def CloneP (x : Nd) : Prop := ∀ (v : Nv) (w : World), NdIn w v x → wtN x ≤ 1000000000 → Calls Tryz.prog 148 #[v.val] w fun e w' => ∃ v', e = .returned v'.val ∧ NdFrom w' w.heap.size v' x ∧ Below w.heap.size w w'
theorem OwnK.cases {B c : Nat} {w : World} {q : Option Addr} {l : List Nv} (h : OwnK encV 56 8 B w q c l) : (q = none ∧ l = [] ∧ c = 0) ∨ ∃ g, q = some ⟨g, 0, none⟩ ∧ B ≤ g ∧ g < w.heap.size ∧ ∀ o, w.frozen? ⟨g, o, none⟩ = false := by
  rcases h.2 with ⟨h0, hl⟩ | ⟨g, cp, cur, hv, hB, hblk, _⟩
  · injection h0 with h1 h2 h3
    exact Or.inl ⟨h1, List.length_eq_zero_iff.1 h2, h3⟩
  · injection hv with h1
    exact Or.inr ⟨g, h1, hB, (Array.getElem?_eq_some_iff.1 hblk).1, fun o => frozen_free hblk⟩
theorem OwnK.cells {B g c : Nat} {w : World} {l : List Nv} {j : Nat} {v : Nv} (h : OwnK encV 56 8 B w (some ⟨g, 0, none⟩) c l) (hj : l[j]? = some v) : w.cell? ⟨g, j * 8, none⟩ = some (.int .i64 v.kind) ∧ w.cell? ⟨g, j * 8 + 1, none⟩ = some (.string v.attr) ∧ w.cell? ⟨g, j * 8 + 2, none⟩ = some (.slice v.qi v.ni v.ci) ∧ w.cell? ⟨g, j * 8 + 3, none⟩ = some (.slice v.qw v.nw v.cw) ∧ w.cell? ⟨g, j * 8 + 4, none⟩ = some (.int .i64 v.lo) ∧ w.cell? ⟨g, j * 8 + 5, none⟩ = some (.int .i64 v.hi) ∧ w.cell? ⟨g, j * 8 + 6, none⟩ = some (.int .i64 v.op) ∧ w.cell? ⟨g, j * 8 + 7, none⟩ = some (.slice v.qk v.nk v.ck) := by
  obtain ⟨b, off, hq, _, hc⟩ := h.ls.2.2.2.at hj
  cases hq
  have hh := fun c hc' => hc c hc'
  simp only [Nat.zero_add] at hh
  exact ⟨hh 0 (by omega), hh 1 (by omega), hh 2 (by omega), hh 3 (by omega), hh 4 (by omega), hh 5 (by omega), hh 6 (by omega), hh 7 (by omega)⟩
theorem OwnK.free {B g c : Nat} {w : World} {l : List Nv} (h : OwnK encV 56 8 B w (some ⟨g, 0, none⟩) c l) : g < w.heap.size ∧ ∀ o, w.frozen? ⟨g, o, none⟩ = false := by
  rcases h.cases with ⟨h0, _⟩ | ⟨g', h1, _, h2, h3⟩
  · cases h0
  · cases h1; exact ⟨h2, h3⟩
theorem of8' {w : World} {N : Nat} {a0 a1 a2 a3 a4 a5 a6 a7 : Value} {T : TypeId} (h : w.heap[N]? = some (.cells #[a0, a1, a2, a3, a4, a5, a6, a7] T (0, 0))) : w.cell? ⟨N, 0, none⟩ = some a0 ∧ w.cell? ⟨N, 1, none⟩ = some a1 ∧ w.cell? ⟨N, 2, none⟩ = some a2 ∧ w.cell? ⟨N, 3, none⟩ = some a3 ∧ w.cell? ⟨N, 4, none⟩ = some a4 ∧ w.cell? ⟨N, 5, none⟩ = some a5 ∧ w.cell? ⟨N, 6, none⟩ = some a6 ∧ w.cell? ⟨N, 7, none⟩ = some a7 := by
  refine ⟨?_, ?_, ?_, ?_, ?_, ?_, ?_, ?_⟩ <;> (unfold World.cell?; simp [h])
/-- What cloneAll answers. -/
def AllPost (B : Nat) (w' : World) (kids : List Nd) (e : Ending) : Prop := ∃ q' c' vs', e = .returned (.slice q' kids.length c') ∧ OwnK encV 56 8 B w' q' c' vs' ∧ vs'.length = kids.length ∧ ∀ (j : Nat) (v : Nv) (x : Nd), vs'[j]? = some v → kids[j]? = some x → NdFrom w' B v x
set_option maxHeartbeats 4000000 in
theorem cloneAll_any (q : Option Addr) (c : Nat) (kids : List Nd) (w : World) (hk : NdsOf w q c kids) (ih : ∀ x ∈ kids, CloneP x) (hwt : wtL kids ≤ 1000000000) :
    Calls Tryz.prog 149 #[.slice q kids.length c] w fun e w' => AllPost w.heap.size w' kids e ∧ Below w.heap.size w w' := by
  obtain ⟨vs, hs, hvl, hin⟩ := hk
  have hln := len_size kids
  have hln2 := sizeL_wt kids
  have hcl := cloneV q c vs w hs (by omega)
  rw [hvl] at hcl
  have IH := hide ih
  have HIN := hide hin
  have a0 : (kids.length : Int) ≤ 1000000000 := by omega
  clear ih hin hs
  go_enter Tryz.func149, Tryz.ntmps149
  go_wp2_with (go_at_call 181; refine hcl.mono ?_; rintro e w1 ⟨q1, c1, rfl, o1, b1⟩; have O1 := hide o1; have B1 := hide b1; clear o1 b1)
  clear hcl
  rcases (unhide O1).cases with ⟨rfl, rfl, rfl⟩ | ⟨g, rfl, hgB, hg, hfz⟩
  · have h0 : kids = [] := List.length_eq_zero_iff.1 (by simpa using hvl.symm)
    subst h0
    simp only [List.length_nil, Int.natCast_zero] at *
    go_loopw [10] (fun i wr => i = .int .i64 0 ∧ Hid (wr = w1)) (fun _ _ => 0)
    case atStart => exact ⟨rfl, hide rfl⟩
    case round =>
      obtain ⟨rfl, hwr⟩ := hrel
      obtain rfl := (unhide hwr).symm
      go_wp2
      go_ret
      exact ⟨⟨none, 0, [], rfl, OwnK.nil _ _, rfl, fun j v x h => by simp at h⟩, unhide B1⟩
  · clear hfz
    go_loopw [10] (fun i wr => ∃ (k : Nat) (us : List Nv), k ≤ kids.length ∧ i = .int .i64 k ∧ us.length = k ∧ OwnK encV 56 8 w.heap.size wr (some ⟨g, 0, none⟩) c1 (us ++ vs.drop k) ∧ (∀ (j : Nat) (v : Nv) (x : Nd), us[j]? = some v → kids[j]? = some x → NdFrom wr (g + 1) v x) ∧ Below w.heap.size w wr ∧ g < wr.heap.size) (fun i _ => kids.length - (intOf i).toNat)
    case atStart => exact ⟨0, [], by omega, rfl, rfl, by simpa using unhide O1, fun j v x h => by simp at h, unhide B1, hg⟩
    case round =>
      obtain ⟨k, us, hkk, rfl, hus, hown, hfr, hbel, hgr⟩ := hrel
      clear O1 B1 hg
      obtain ⟨U, rfl⟩ : ∃ U, U = wr := ⟨_, rfl⟩
      by_cases hlt : k < kids.length
      · obtain ⟨x, hx, hxd⟩ := get_at hlt
        obtain ⟨v, hv, hvd⟩ := get_at (l := vs) (k := k) (by omega)
        have hvk : (us ++ vs.drop k)[k]? = some v := by
          rw [List.getElem?_append_right (by omega), hus, Nat.sub_self, hvd]; rfl
        obtain ⟨y0, y1, y2, y3, y4, y5, y6, y7⟩ := hown.cells hvk
        have ki0 : (0 : Int) ≤ (k : Int) := by omega
        have ki1 : (k : Int) < (kids.length : Int) := by omega
        have hxm : x ∈ kids := List.mem_of_getElem? hx
        have hxs := wtL_mem hxm
        obtain ⟨Y, HY⟩ : ∃ Y, U.alloc (.cells #[.int .i64 v.kind, .string v.attr, .slice v.qi v.ni v.ci, .slice v.qw v.nw v.cw, .int .i64 v.lo, .int .i64 v.hi, .int .i64 v.op, .slice v.qk v.nk v.ck] 56) = Y := ⟨_, rfl⟩
        have hM : Y.heap[U.heap.size]? = some (.cells #[.int .i64 v.kind, .string v.attr, .slice v.qi v.ni v.ci, .slice v.qw v.nw v.cw, .int .i64 v.lo, .int .i64 v.hi, .int .i64 v.op, .slice v.qk v.nk v.ck] 56 (0, 0)) := by rw [← HY]; simp [World.alloc, -World.alloc_eq]
        have hUY : Below U.heap.size U Y := by rw [← HY]; exact (Below.refl _ _).alloc (Nat.le_refl _) _
        obtain ⟨m0, m1, m2, m3, m4, m5, m6, m7⟩ := of8' hM
        have hYs := hUY.size
        have hws := hbel.size
        have hcx := unhide IH x hxm v Y (((unhide HIN k v x hv hx).keep hbel).keep hUY) (by omega)
        simp only [Nv.val] at hcx
        have HOY := hide (hown.below hUY)
        have HUY := hide hUY
        have HB := hide hbel
        have HFR := hide hfr
        have HUS := hide hus
        have HVD := hide hvd
        have HXX := hide hx
        have HL := hide (show k < (us ++ vs.drop k).length by rw [List.length_append, hus, List.length_drop]; omega)
        clear hown hfr hbel hUY hus hvd hx hxd hvk hM hv hxm
        go_wp2_with (go_at_call 148; refine hcx.mono ?_; rintro e w2 ⟨v', rfl, f2, b2⟩; have HO2 := hide ((unhide HOY).below b2); have F2 := hide f2; have B2 := hide b2; obtain ⟨z0, z1, z2, z3, z4, z5, z6, z7⟩ := (unhide HO2).cells (j := k) (v := v) (by rw [List.getElem?_append_right (by have := unhide HUS; omega), unhide HUS, Nat.sub_self, unhide HVD]; rfl); obtain ⟨hgg, hff⟩ := (unhide HO2).free; clear f2 b2)
        obtain ⟨o3, u3⟩ := own_set8 (unhide HO2) (unhide HL) v'
        have hset : (us ++ vs.drop k).set k v' = (us ++ [v']) ++ vs.drop (k + 1) := by
          rw [List.set_append_right _ _ (by have := unhide HUS; omega), unhide HUS, Nat.sub_self, unhide HVD]; simp
        rw [hset] at o3
        refine ⟨⟨k + 1, us ++ [v'], by omega, congrArg (Value.int .i64) (by omega), by rw [List.length_append, unhide HUS]; rfl, o3, ?_, below_set8 ((unhide HB).trans (((unhide HUY).mono hws).trans ((unhide B2).mono (by omega)))) hgB k v', by simpa using hgg⟩, by simp [intOf]; omega⟩
        intro j y z hj hz
        by_cases hjk : j < k
        · rw [List.getElem?_append_left (by have := unhide HUS; omega)] at hj
          exact (((unhide HFR j y z hj hz).keep (unhide HUY)).keep (unhide B2)).up u3
        · have hj2 := (List.getElem?_eq_some_iff.1 hj).1
          rw [List.length_append, unhide HUS] at hj2
          obtain rfl : j = k := by simp at hj2; omega
          rw [List.getElem?_append_right (by have := unhide HUS; omega), unhide HUS, Nat.sub_self] at hj
          rw [unhide HXX] at hz
          cases hj
          cases hz
          exact ((unhide F2).mono (by omega)).up u3
      · have ki1 : ¬ (k : Int) < (kids.length : Int) := by omega
        have HO := hide hown
        have HFR := hide hfr
        have HB := hide hbel
        clear hown hfr hbel
        go_wp2
        go_ret
        refine ⟨⟨some ⟨g, 0, none⟩, c1, us, rfl, ?_, by omega, fun j y z hj hz => (unhide HFR j y z hj hz).mono (by omega)⟩, unhide HB⟩
        have := unhide HO
        rw [List.drop_of_length_le (by omega), List.append_nil] at this
        exact this
theorem box_nw (w : World) (o : Obj) : (w.alloc o).heap[w.heap.size]? = some o := by simp [World.alloc, -World.alloc_eq]
theorem SameUp.set {B : Nat} {a w : World} (h : SameUp B a w) {p : Addr} (hp : p.block < B) (u : Value) : SameUp B a (w.setCell p u) :=
  h.trans ⟨by simp, fun b o h1 _ => World.cell?_of_block (w := w) (a := ⟨b, o, none⟩) (Below.heap_setCell w p u b (by show b ≠ p.block; omega))⟩
set_option maxHeartbeats 4000000 in
theorem clone_at (kind : Int) (attr : ByteArray) (qi : Option Addr) (ci : Nat) (ints : List Int) (qw : Option Addr) (cw : Nat) (words : List ByteArray) (lo hi op : Int) (qk : Option Addr) (ck : Nat) (kids : List Nd) (w : World) (h1 : SlOf encI 1 w qi ci ints) (h2 : SlOf encS 1 w qw cw words) (hk : NdsOf w qk ck kids) (ih : ∀ x ∈ kids, CloneP x) (l1 : ints.length ≤ 1000000000) (l2 : words.length ≤ 1000000000) (l3 : wtL kids ≤ 1000000000) :
    Calls Tryz.prog 148 #[.agg #[.int .i64 kind, .string attr, .slice qi ints.length ci, .slice qw words.length cw, .int .i64 lo, .int .i64 hi, .int .i64 op, .slice qk kids.length ck]] w fun e w' => ∃ v', e = .returned v'.val ∧ NdFrom w' w.heap.size v' (.mk kind attr ints words lo hi op kids) ∧ Below w.heap.size w w' := by
  obtain ⟨X, HX⟩ : ∃ X, (w.alloc (.cells #[.int .i64 kind, .string attr, .slice qi ints.length ci, .slice qw words.length cw, .int .i64 lo, .int .i64 hi, .int .i64 op, .slice qk kids.length ck] 56)).alloc (.cells #[.int .i64 0, .string ⟨#[]⟩, .slice none 0 0, .slice none 0 0, .int .i64 0, .int .i64 0, .int .i64 0, .slice none 0 0] 56) = X := ⟨_, rfl⟩
  have hXs : X.heap.size = w.heap.size + 2 := by rw [← HX]; simp
  have hwX : Below w.heap.size w X := by rw [← HX]; exact ((Below.refl _ _).alloc (Nat.le_refl _) _).alloc (by simp) _
  have hX0 : X.heap[w.heap.size]? = some (.cells #[.int .i64 kind, .string attr, .slice qi ints.length ci, .slice qw words.length cw, .int .i64 lo, .int .i64 hi, .int .i64 op, .slice qk kids.length ck] 56 (0, 0)) := by rw [← HX, Below.heap_alloc _ _ _ (by simp)]; simp [World.alloc, -World.alloc_eq]
  have hX1 : X.heap[w.heap.size + 1]? = some (.cells #[.int .i64 0, .string ⟨#[]⟩, .slice none 0 0, .slice none 0 0, .int .i64 0, .int .i64 0, .int .i64 0, .slice none 0 0] 56 (0, 0)) := by rw [← HX, show w.heap.size + 1 = (w.alloc (.cells #[.int .i64 kind, .string attr, .slice qi ints.length ci, .slice qw words.length cw, .int .i64 lo, .int .i64 hi, .int .i64 op, .slice qk kids.length ck] 56)).heap.size by simp]; exact box_nw _ _
  obtain ⟨x0, x1, x2, x3, x4, x5, x6, x7⟩ := of8' hX0
  obtain ⟨y0, y1, y2, y3, y4, y5, y6, y7⟩ := of8' hX1
  have xf : ∀ o, X.frozen? ⟨w.heap.size, o, none⟩ = false := fun o => frozen_free hX0
  have yf : ∀ o, X.frozen? ⟨w.heap.size + 1, o, none⟩ = false := fun o => frozen_free hX1
  have c1 := cloneI qi ci ints X (h1.below hwX) (by omega)
  have c2 := fun w' (hb : Below w.heap.size w w') => cloneS qw cw words w' (h2.below hb) (by omega)
  have c3 := fun w' (hb : Below w.heap.size w w') => cloneAll_any qk ck kids w' (hk.below hb) ih l3
  have HWX := hide hwX
  clear h1 h2 hk ih hwX hX0 hX1
  go_enter Tryz.func148, Tryz.ntmps148
  go_wp2_with (first
    | (go_at_call 97; refine c1.mono ?_; rintro e w1 ⟨q1, k1, rfl, o1, b1⟩; obtain ⟨hc1, hf1⟩ := bcell b1; have hz1 : w.heap.size + 1 < w1.heap.size := (by have := b1.size; omega); have hz1' : w.heap.size < w1.heap.size := (by omega); rw [hXs] at hc1 hf1; have O1 := hide o1; have B1 := hide b1; clear o1 b1)
    | (go_at_call 176; refine (c2 _ (by exact (below_sub (unhide HWX) (unhide B1)).setCell (Nat.le_refl _) _)).mono ?_; rintro e w2 ⟨q2, k2, rfl, o2, b2⟩; obtain ⟨hc2, hf2⟩ := bcell b2; simp only [World.size_setCell] at hc2 hf2; have hz2 : w.heap.size + 1 < w2.heap.size := (by have := b2.size; simp at this; omega); have hz2' : w.heap.size < w2.heap.size := (by omega); have O2 := hide o2; have B2 := hide b2; clear o2 b2)
    | (go_at_call 149; refine (c3 _ (by exact (below_sub ((below_sub (unhide HWX) (unhide B1)).setCell (Nat.le_refl _) _) (unhide B2)).setCell (Nat.le_refl _) _)).mono ?_; rintro e w3 ⟨⟨q3, k3, vs3, rfl, o3, l3', f3⟩, b3⟩; obtain ⟨hc3, hf3⟩ := bcell b3; have hz3 : w.heap.size + 1 < w3.heap.size := (by have := b3.size; simp at this; omega); have hz3' : w.heap.size < w3.heap.size := (by omega); have O3 := hide o3; have B3 := hide b3; have F3 := hide f3; have L3 := hide l3'; clear o3 b3 f3 l3'))
  refine bodyPost_ret (v := .agg #[.int .i64 kind, .string attr, .slice q1 ints.length k1, .slice q2 words.length k2, .int .i64 lo, .int .i64 hi, .int .i64 op, .slice q3 kids.length k3]) (by simp [results, Tryz.results148, go_sem, *]) rfl ?_
  have s1 := (unhide B1).size
  have s2 := (unhide B2).size
  have s3 := (unhide B3).size
  simp only [World.size_setCell] at s2 s3
  have u0 : ∀ (W : World), SameUp (w.heap.size + 2) W W := fun W => SameUp.of (Below.refl _ _)
  have u3 := (((((((((u0 w3).set (p := ⟨w.heap.size, 7, none⟩) (by simp) (.slice q3 kids.length k3)).set (p := ⟨w.heap.size + 1, 0, none⟩) (by simp) (.int .i64 kind)).set (p := ⟨w.heap.size + 1, 1, none⟩) (by simp) (.string attr)).set (p := ⟨w.heap.size + 1, 2, none⟩) (by simp) (.slice q1 ints.length k1)).set (p := ⟨w.heap.size + 1, 3, none⟩) (by simp) (.slice q2 words.length k2)).set (p := ⟨w.heap.size + 1, 4, none⟩) (by simp) (.int .i64 lo)).set (p := ⟨w.heap.size + 1, 5, none⟩) (by simp) (.int .i64 hi)).set (p := ⟨w.heap.size + 1, 6, none⟩) (by simp) (.int .i64 op)).set (p := ⟨w.heap.size + 1, 7, none⟩) (by simp) (.slice q3 kids.length k3)
  have u2 := (((u0 w2).set (p := ⟨w.heap.size, 3, none⟩) (by simp) (.slice q2 words.length k2)).trans (SameUp.of (unhide B3))).trans u3
  have u1 := (((u0 w1).set (p := ⟨w.heap.size, 2, none⟩) (by simp) (.slice q1 ints.length k1)).trans (SameUp.of (unhide B2))).trans u2
  have g1 : ∀ a, q1 = some a → w.heap.size + 2 ≤ a.block := fun a e => by have := (unhide O1).from a e; omega
  have g2 : ∀ a, q2 = some a → w.heap.size + 2 ≤ a.block := fun a e => by have := (unhide O2).from a e; simp only [World.size_setCell] at this; omega
  have g3 : ∀ a, q3 = some a → w.heap.size + 2 ≤ a.block := fun a e => by have := (unhide O3).from a e; simp only [World.size_setCell] at this; omega
  refine ⟨⟨kind, attr, q1, ints.length, k1, q2, words.length, k2, lo, hi, op, q3, kids.length, k3⟩, rfl, ?_, ?_⟩
  · have hf : ∀ (j : Nat) (v : Nv) (x : Nd), vs3[j]? = some v → kids[j]? = some x → NdFrom _ (w.heap.size + 2) v x := fun j v x hj hx => ((unhide F3 j v x hj hx).mono (by simp only [World.size_setCell]; omega)).up u3
    exact (NdFrom.make ((unhide O1).ls.up g1 u1) g1 ((unhide O2).ls.up g2 u2) g2 ((unhide O3).ls.up g3 u3) g3 (unhide L3) hf).mono (by omega)
  · exact ((((((((((below_sub ((below_sub ((below_sub (unhide HWX) (unhide B1)).setCell (Nat.le_refl _) _) (unhide B2)).setCell (Nat.le_refl _) _) (unhide B3)).setCell (Nat.le_refl _) _).setCell (Nat.le_succ _) _).setCell (Nat.le_succ _) _).setCell (Nat.le_succ _) _).setCell (Nat.le_succ _) _).setCell (Nat.le_succ _) _).setCell (Nat.le_succ _) _).setCell (Nat.le_succ _) _).setCell (Nat.le_succ _) _)
theorem clone_any : ∀ x, CloneP x := by
  intro t
  induction t using Nd.ind with
  | h kind attr ints words lo hi op kids ih =>
    intro v w hin hwt
    obtain ⟨qi, ci, qw, cw, qk, ck, rfl, h1, h2, hk⟩ := hin.parts
    simp only [wtN] at hwt
    have hwl := words_len words
    exact clone_at kind attr qi ci ints qw cw words lo hi op qk ck kids w h1 h2 hk ih (by omega) (by omega) (by omega)
end Go.Proofs.YtimklglliffpcaaGreat
namespace Go.Proofs.YtimklglliffpcaaGreat
open Go.RowKit Go.Sort

/-- A tree in new memory. -/
def NewT (B : Nat) (w' : World) (t : Nd) (e : Ending) : Prop := ∃ v', e = .returned v'.val ∧ NdFrom w' B v' t
def zeroT : Nd := .mk 0 ⟨#[]⟩ [] [] 0 0 0 []
def joinT (op : Int) (kids : List Nd) : Nd := match kids with
  | [] => zeroT
  | [x] => x
  | _ => .mk 0 ⟨#[]⟩ [] [] 0 0 op kids
theorem joinT_many (op : Int) {kids : List Nd} (h : 2 ≤ kids.length) : joinT op kids = .mk 0 ⟨#[]⟩ [] [] 0 0 op kids := by
  match kids, h with
  | _ :: _ :: _, _ => rfl
theorem no_from {B : Nat} : ∀ a : Addr, (none : Option Addr) = some a → B ≤ a.block := fun _ h => by cases h
set_option maxHeartbeats 1000000 in
theorem leaf_any (kind : Int) (attr : ByteArray) (qi : Option Addr) (ni ci : Nat) (qw : Option Addr) (nw cw : Nat) (lo hi : Int) (w : World) :
    Calls Tryz.prog 96 #[.agg #[.int .i64 kind, .string attr, .slice qi ni ci, .slice qw nw cw, .int .i64 lo, .int .i64 hi]] w fun e w' => e = .returned (.agg #[.int .i64 kind, .string attr, .slice qi ni ci, .slice qw nw cw, .int .i64 lo, .int .i64 hi, .int .i64 1, .slice none 0 0]) ∧ Below w.heap.size w w' := by
  go_enter Tryz.func96, Tryz.ntmps96
  go_wp2
  refine bodyPost_ret (v := .agg #[.int .i64 kind, .string attr, .slice qi ni ci, .slice qw nw cw, .int .i64 lo, .int .i64 hi, .int .i64 1, .slice none 0 0]) (by simp [results, Tryz.results96, go_sem]) rfl ⟨rfl, ?_⟩
  exact ((Below.refl _ _).alloc (Nat.le_refl _) _).alloc (by simp) _
theorem set8_below {B g : Nat} {a w : World} (h : Below B a w) (hg : B ≤ g) (a0 a1 a2 a3 a4 a5 a6 a7 : Value) : Below B a ((((((((w.setCell ⟨g, 0, none⟩ a0).setCell ⟨g, 1, none⟩ a1).setCell ⟨g, 2, none⟩ a2).setCell ⟨g, 3, none⟩ a3).setCell ⟨g, 4, none⟩ a4).setCell ⟨g, 5, none⟩ a5).setCell ⟨g, 6, none⟩ a6).setCell ⟨g, 7, none⟩ a7) :=
  (((((((h.setCell hg _).setCell hg _).setCell hg _).setCell hg _).setCell hg _).setCell hg _).setCell hg _).setCell hg _
theorem set8_up {B g : Nat} (w : World) (hg : g < B) (a0 a1 a2 a3 a4 a5 a6 a7 : Value) : SameUp B w ((((((((w.setCell ⟨g, 0, none⟩ a0).setCell ⟨g, 1, none⟩ a1).setCell ⟨g, 2, none⟩ a2).setCell ⟨g, 3, none⟩ a3).setCell ⟨g, 4, none⟩ a4).setCell ⟨g, 5, none⟩ a5).setCell ⟨g, 6, none⟩ a6).setCell ⟨g, 7, none⟩ a7) :=
  (((((((((SameUp.of (Below.refl _ _)).set hg _).set hg _).set hg _).set hg _).set hg _).set hg _).set hg _).set hg _)
/-- The cell of a result, behind calls. -/
theorem boxR {w w1 : World} (hb : Below (w.alloc (.cells #[.int .i64 0, .string ⟨#[]⟩, .slice none 0 0, .slice none 0 0, .int .i64 0, .int .i64 0, .int .i64 0, .slice none 0 0] 56)).heap.size (w.alloc (.cells #[.int .i64 0, .string ⟨#[]⟩, .slice none 0 0, .slice none 0 0, .int .i64 0, .int .i64 0, .int .i64 0, .slice none 0 0] 56)) w1) :
    w.heap.size < w1.heap.size ∧ (w1.cell? ⟨w.heap.size, 0, none⟩ = some (.int .i64 0) ∧ w1.cell? ⟨w.heap.size, 1, none⟩ = some (.string ⟨#[]⟩) ∧ w1.cell? ⟨w.heap.size, 2, none⟩ = some (.slice none 0 0) ∧ w1.cell? ⟨w.heap.size, 3, none⟩ = some (.slice none 0 0) ∧ w1.cell? ⟨w.heap.size, 4, none⟩ = some (.int .i64 0) ∧ w1.cell? ⟨w.heap.size, 5, none⟩ = some (.int .i64 0) ∧ w1.cell? ⟨w.heap.size, 6, none⟩ = some (.int .i64 0) ∧ w1.cell? ⟨w.heap.size, 7, none⟩ = some (.slice none 0 0)) ∧ ∀ o, w1.frozen? ⟨w.heap.size, o, none⟩ = false := by
  have hs := hb.size
  have hlt : w.heap.size < (w.alloc (.cells #[.int .i64 0, .string ⟨#[]⟩, .slice none 0 0, .slice none 0 0, .int .i64 0, .int .i64 0, .int .i64 0, .slice none 0 0] 56)).heap.size := by simp
  have hh := (hb.block _ hlt).trans (box_nw w _)
  exact ⟨by simp at hs; omega, of8' hh, fun o => frozen_free hh⟩
set_option maxHeartbeats 2000000 in
theorem ints_any (attr : ByteArray) (q : Option Addr) (c : Nat) (l : List Int) (w : World) (h : SlOf encI 1 w q c l) (hl : l.length ≤ 1000000000000) :
    Calls Tryz.prog 43 #[.string attr, .slice q l.length c] w fun e w' => NewT w.heap.size w' (.mk 1 attr l [] 0 0 1 []) e ∧ Below w.heap.size w w' := by
  have hc := cloneI q c l _ (h.below ((Below.refl w.heap.size w).alloc (Nat.le_refl _) (.cells #[.int .i64 0, .string ⟨#[]⟩, .slice none 0 0, .slice none 0 0, .int .i64 0, .int .i64 0, .int .i64 0, .slice none 0 0] 56))) hl
  clear h hl
  have B0 := hide ((Below.refl w.heap.size w).alloc (Nat.le_refl _) (.cells #[.int .i64 0, .string ⟨#[]⟩, .slice none 0 0, .slice none 0 0, .int .i64 0, .int .i64 0, .int .i64 0, .slice none 0 0] 56))
  go_enter Tryz.func43, Tryz.ntmps43
  go_wp2_with (first
    | (go_at_call 97; refine hc.mono ?_; rintro e w1 ⟨q1, k1, rfl, o1, b1⟩; have O1 := hide o1; have B1 := hide b1; clear o1 b1)
    | (go_at_call 96; refine (leaf_any _ _ _ _ _ _ _ _ _ _ _).mono ?_; rintro e w2 ⟨rfl, b2⟩; obtain ⟨z1, ⟨r0, r1, r2, r3, r4, r5, r6, r7⟩, rf⟩ := boxR (below_sub (unhide B1) b2); have B2 := hide b2; clear b2))
  refine bodyPost_ret (v := .agg #[.int .i64 1, .string attr, .slice q1 l.length k1, .slice none 0 0, .int .i64 0, .int .i64 0, .int .i64 1, .slice none 0 0]) (by simp [results, Tryz.results43, go_sem, *]) rfl ?_
  have s1 := (unhide B1).size
  simp at s1
  have f1 : ∀ a, q1 = some a → w.heap.size + 1 ≤ a.block := fun a e => by have := (unhide O1).from a e; simp at this; omega
  refine ⟨⟨⟨1, attr, q1, l.length, k1, none, 0, 0, 0, 0, 1, none, 0, 0⟩, rfl, ?_⟩, set8_below (below_sub (below_sub (unhide B0) (unhide B1)) (unhide B2)) (Nat.le_refl _) _ _ _ _ _ _ _ _⟩
  exact (NdFrom.make (kids := []) (vs := []) ((unhide O1).ls.up f1 ((SameUp.of (unhide B2)).trans (set8_up (B := w.heap.size + 1) (g := w.heap.size) _ (Nat.lt_succ_self _) _ _ _ _ _ _ _ _))) f1 (SlOf.none _) no_from (SlOf.none _) no_from rfl (fun j v x h => by simp at h)).mono (Nat.le_succ _)
end Go.Proofs.YtimklglliffpcaaGreat
namespace Go.Proofs.YtimklglliffpcaaGreat
open Go.RowKit Go.Sort

theorem LsOf.take {α : Type} [Inhabited α] {enc : α → List Value} {k : Nat} {w : World} {q : Option Addr} {l m : List α} (hk : 0 < k) (h : LsOf enc k w q (l ++ m)) : LsOf enc k w q l := fun h0 => by
  obtain ⟨b, off, hq, hb, hA⟩ := h (by simp; omega)
  refine ⟨b, off, hq, hb, fun j u hj => hA j u ?_⟩
  rw [flat_app enc k hk, List.getElem?_append_left (List.getElem?_eq_some_iff.1 hj).1]; exact hj
def spI : List Int := [-77, -78]
def spS : List ByteArray := [⟨#[115, 112, 97, 114, 101]⟩, ⟨#[114, 111, 111, 109]⟩]
end Go.Proofs.YtimklglliffpcaaGreat

/- What the copies of lists and trees are: new memory that holds the same. -/
import Derived.Test.YtcjkjhblmalbhaaTree
import Derived.Test.YtcjkjhblmalbhaaText
import Derived.Lib.SliceRun
namespace Go.Proofs.Ytcjkjhblmalbhaa
open Go.RowKit Go.Sort

theorem OwnK.from {α : Type} [Inhabited α] {enc : α → List Value} {k B : Nat} {e : TypeId} {w : World} {q : Option Addr} {cap : Nat} {l : List α} (h : OwnK enc e k B w q cap l) : ∀ a, q = some a → B ≤ a.block := by
  intro a ha
  rcases h.2 with ⟨h0, _⟩ | ⟨g, cp, cur, hv, hB, _⟩
  · injection h0 with h1; rw [ha] at h1; cases h1
  · injection hv with h1; rw [ha] at h1; cases h1; exact hB
/-- The tree of v lies in memory, all of it in blocks from B on. -/
inductive NdFrom (w : World) (B : Nat) : Nv → Nd → Prop
  | mk {kind : Int} {attr : ByteArray} {ints : List Int} {words : List ByteArray} {lo hi op : Int} {kids : List Nd} {qi : Option Addr} {ci : Nat} {qw : Option Addr} {cw : Nat} {qk : Option Addr} {ck : Nat} {vs : List Nv} :
      SlOf encI 1 w qi ci ints → SlOf encS 1 w qw cw words → SlOf encV 8 w qk ck vs → (∀ a, qi = some a → B ≤ a.block) → (∀ a, qw = some a → B ≤ a.block) → (∀ a, qk = some a → B ≤ a.block) → vs.length = kids.length → (∀ (j : Nat) (v : Nv) (x : Nd), vs[j]? = some v → kids[j]? = some x → NdFrom w B v x) →
      NdFrom w B ⟨kind, attr, qi, ints.length, ci, qw, words.length, cw, lo, hi, op, qk, kids.length, ck⟩ (.mk kind attr ints words lo hi op kids)
theorem NdFrom.toIn {w : World} {B : Nat} {v : Nv} {t : Nd} (h : NdFrom w B v t) : NdIn w v t := by
  induction h with
  | mk hi hw hk _ _ _ hl hr ih => exact .mk hi hw hk hl fun j v x hj hx => ih j v x hj hx
theorem NdFrom.mono {w : World} {B B' : Nat} {v : Nv} {t : Nd} (h : NdFrom w B v t) (hB : B' ≤ B) : NdFrom w B' v t := by
  induction h with
  | mk hi hw hk h1 h2 h3 hl hr ih => exact .mk hi hw hk (fun a e => Nat.le_trans hB (h1 a e)) (fun a e => Nat.le_trans hB (h2 a e)) (fun a e => Nat.le_trans hB (h3 a e)) hl fun j v x hj hx => ih j v x hj hx
/-- A later world that has the same cells from B on. -/
def SameUp (B : Nat) (w w' : World) : Prop := w.heap.size ≤ w'.heap.size ∧ ∀ b o, B ≤ b → b < w.heap.size → w'.cell? ⟨b, o, none⟩ = w.cell? ⟨b, o, none⟩
theorem SlOf.up {α : Type} [Inhabited α] {enc : α → List Value} {k B : Nat} {w w' : World} {q : Option Addr} {c : Nat} {l : List α} (h : SlOf enc k w q c l) (hq : ∀ a, q = some a → B ≤ a.block) (hu : SameUp B w w') : SlOf enc k w' q c l := by
  refine ⟨h.1, h.2.1, h.2.2.1, fun h0 => ?_⟩
  obtain ⟨b, off, rfl, hB, hA⟩ := h.2.2.2 h0
  exact ⟨b, off, rfl, Nat.lt_of_lt_of_le hB hu.1, fun j u hj => (hu.2 b (off + j) (hq _ rfl) hB).trans (hA j u hj)⟩
theorem NdFrom.up {w w' : World} {B : Nat} {v : Nv} {t : Nd} (h : NdFrom w B v t) (hu : SameUp B w w') : NdFrom w' B v t := by
  induction h with
  | mk hi hw hk h1 h2 h3 hl hr ih => exact .mk (hi.up h1 hu) (hw.up h2 hu) (hk.up h3 hu) h1 h2 h3 hl fun j v x hj hx => ih j v x hj hx
theorem SameUp.of {B : Nat} {w w' : World} (h : Below w.heap.size w w') : SameUp B w w' := ⟨h.size, fun b o _ hb => h.cell (p := ⟨b, o, none⟩) hb⟩
theorem SameUp.trans {B : Nat} {x y z : World} (h : SameUp B x y) (k : SameUp B y z) : SameUp B x z := ⟨Nat.le_trans h.1 k.1, fun b o h1 h2 => (k.2 b o h1 (Nat.lt_of_lt_of_le h2 h.1)).trans (h.2 b o h1 h2)⟩
theorem SameUp.grown {B g : Nat} {w w' : World} (h : w.grownBy w' (some g)) (hg : g < B) : SameUp B w w' := ⟨h.size, fun b o h1 h2 => World.cell?_of_block (w := w) (a := ⟨b, o, none⟩) (h.block b h2 (fun e => by cases e; omega))⟩
theorem NdFrom.keep {w w' : World} {B : Nat} {v : Nv} {t : Nd} (h : NdFrom w B v t) (hb : Below w.heap.size w w') : NdFrom w' B v t := h.up (SameUp.of hb)
theorem NdFrom.make {w : World} {B : Nat} {kind : Int} {attr : ByteArray} {ints : List Int} {words : List ByteArray} {lo hi op : Int} {kids : List Nd} {qi : Option Addr} {ci : Nat} {qw : Option Addr} {cw : Nat} {qk : Option Addr} {ck : Nat} {vs : List Nv}
    (h1 : SlOf encI 1 w qi ci ints) (f1 : ∀ a, qi = some a → B ≤ a.block) (h2 : SlOf encS 1 w qw cw words) (f2 : ∀ a, qw = some a → B ≤ a.block) (h3 : SlOf encV 8 w qk ck vs) (f3 : ∀ a, qk = some a → B ≤ a.block) (hl : vs.length = kids.length) (hr : ∀ (j : Nat) (v : Nv) (x : Nd), vs[j]? = some v → kids[j]? = some x → NdFrom w B v x) :
    NdFrom w B ⟨kind, attr, qi, ints.length, ci, qw, words.length, cw, lo, hi, op, qk, kids.length, ck⟩ (.mk kind attr ints words lo hi op kids) := .mk h1 h2 h3 f1 f2 f3 hl hr
set_option maxRecDepth 100000 in
set_option maxHeartbeats 1000000 in
theorem cloneI (q : Option Addr) (c : Nat) (l : List Int) (w : World) (h : SlOf encI 1 w q c l) (hl : l.length ≤ 1000000000000) :
    Calls Try.prog 32 #[.slice q l.length c] w fun e w' => ∃ q' c', e = .returned (.slice q' l.length c') ∧ OwnK encI 3 1 w.heap.size w' q' c' l ∧ Below w.heap.size w w' := by
  cases q with
  | none =>
    obtain ⟨h0, rfl⟩ := h.1 rfl
    obtain rfl : l = [] := List.length_eq_zero_iff.1 h0
    have heq := fun (w : World) => Lib.run_eql_slice_nil (P := Try.prog) w 30 3 none 0 0 0 0 Try.underlying30
    clear h h0
    go_enter Try.func32, Try.ntmps32
    go_wp2
    go_ret
    exact ⟨none, 0, rfl, OwnK.nil _ _, Below.refl _ _⟩
  | some a =>
    have HS := hide h
    have heq := fun (w : World) => Lib.run_eql_slice_nil (P := Try.prog) w 30 3 (some a) l.length c 0 0 Try.underlying30
    clear h
    go_enter Try.func32, Try.ntmps32
    go_wp2_with (at_builtin; refine wpList_app rowI rfl _ _ rfl w.heap.size (some ⟨w.heap.size, 0, none⟩) 0 [] (some a) c l 0 l.length l.length rfl rfl (by omega) rfl rfl (OwnK.made _ _ (Nat.le_refl _)) ((unhide HS).below ((Below.refl _ _).alloc (Nat.le_refl _) _)).src (by unfold maxLen; omega) (by omega) (by simp) ?_; intro q2 c2 w2 hown2 hb2 _ hg2)
    go_ret
    exact ⟨q2, c2, rfl, by simpa using hown2, ((Below.refl _ _).alloc (Nat.le_refl _) _).trans hb2⟩
set_option maxRecDepth 100000 in
set_option maxHeartbeats 1000000 in
theorem cloneS (q : Option Addr) (c : Nat) (l : List ByteArray) (w : World) (h : SlOf encS 1 w q c l) (hl : l.length ≤ 1000000000000) :
    Calls Try.prog 55 #[.slice q l.length c] w fun e w' => ∃ q' c', e = .returned (.slice q' l.length c') ∧ OwnK encS 9 1 w.heap.size w' q' c' l ∧ Below w.heap.size w w' := by
  cases q with
  | none =>
    obtain ⟨h0, rfl⟩ := h.1 rfl
    obtain rfl : l = [] := List.length_eq_zero_iff.1 h0
    have heq := fun (w : World) => Lib.run_eql_slice_nil (P := Try.prog) w 31 9 none 0 0 0 0 Try.underlying31
    clear h h0
    go_enter Try.func55, Try.ntmps55
    go_wp2
    go_ret
    exact ⟨none, 0, rfl, OwnK.nil _ _, Below.refl _ _⟩
  | some a =>
    have HS := hide h
    have heq := fun (w : World) => Lib.run_eql_slice_nil (P := Try.prog) w 31 9 (some a) l.length c 0 0 Try.underlying31
    clear h
    go_enter Try.func55, Try.ntmps55
    go_wp2_with (at_builtin; refine wpList_app rowS rfl _ _ rfl w.heap.size (some ⟨w.heap.size, 0, none⟩) 0 [] (some a) c l 0 l.length l.length rfl rfl (by omega) rfl rfl (OwnK.made _ _ (Nat.le_refl _)) ((unhide HS).below ((Below.refl _ _).alloc (Nat.le_refl _) _)).src (by unfold maxLen; omega) (by omega) (by simp) ?_; intro q2 c2 w2 hown2 hb2 _ hg2)
    go_ret
    exact ⟨q2, c2, rfl, by simpa using hown2, ((Below.refl _ _).alloc (Nat.le_refl _) _).trans hb2⟩
set_option maxRecDepth 100000 in
set_option maxHeartbeats 1000000 in
theorem cloneV (q : Option Addr) (c : Nat) (l : List Nv) (w : World) (h : SlOf encV 8 w q c l) (hl : l.length ≤ 1000000000000) :
    Calls Try.prog 74 #[.slice q l.length c] w fun e w' => ∃ q' c', e = .returned (.slice q' l.length c') ∧ OwnK encV 36 8 w.heap.size w' q' c' l ∧ Below w.heap.size w w' := by
  cases q with
  | none =>
    obtain ⟨h0, rfl⟩ := h.1 rfl
    obtain rfl : l = [] := List.length_eq_zero_iff.1 h0
    have heq := fun (w : World) => Lib.run_eql_slice_nil (P := Try.prog) w 34 36 none 0 0 0 0 Try.underlying34
    clear h h0
    go_enter Try.func74, Try.ntmps74
    go_wp2
    go_ret
    exact ⟨none, 0, rfl, OwnK.nil _ _, Below.refl _ _⟩
  | some a =>
    have HS := hide h
    have heq := fun (w : World) => Lib.run_eql_slice_nil (P := Try.prog) w 34 36 (some a) l.length c 0 0 Try.underlying34
    clear h
    go_enter Try.func74, Try.ntmps74
    go_wp2_with (at_builtin; refine wpList_app rowV rfl _ _ rfl w.heap.size (some ⟨w.heap.size, 0, none⟩) 0 [] (some a) c l 0 l.length l.length rfl rfl (by omega) rfl rfl (OwnK.made _ _ (Nat.le_refl _)) ((unhide HS).below ((Below.refl _ _).alloc (Nat.le_refl _) _)).src (by unfold maxLen; omega) (by omega) (by simp) ?_; intro q2 c2 w2 hown2 hb2 _ hg2)
    go_ret
    exact ⟨q2, c2, rfl, by simpa using hown2, ((Below.refl _ _).alloc (Nat.le_refl _) _).trans hb2⟩
end Go.Proofs.Ytcjkjhblmalbhaa

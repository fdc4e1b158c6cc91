/- What the copies of lists and trees are: new memory that holds the same. -/
import Derived.Test.YtencibjmiphinaaGreatDoorQZac
import Derived.Test.YtencibjmiphinaaGreatDoorQZae
import Derived.Lib.SliceRun
namespace Go.Proofs.YtencibjmiphinaaGreatDoor
open Go.RowKit Go.Sort

theorem OwnK.from {α : Type} [Inhabited α] {enc : α → List Value} {k B : Nat} {e : TypeId} {w : World} {q : Option Addr} {cap : Nat} {l : List α} (h : OwnK enc e k B w q cap l) : ∀ a, q = some a → B ≤ a.block := by
  intro a ha
  rcases h.2 with ⟨h0, _⟩ | ⟨g, cp, cur, hv, hB, _⟩
  · injection h0 with h1; rw [ha] at h1; cases h1
  · injection hv with h1; rw [ha] at h1; cases h1; exact hB
/-- The tree of v lies in memory, all of it in blocks from B on. -/
inductive NdFrom (w : World) (B : Nat) : Nv → Nd → Prop
  | mk {kind : Int} {attr : ByteArray} {ints : List Int} {words : List ByteArray} {lo hi op : Int} {kids : List Nd} {qi : Option Addr} {ci : Nat} {qw : Option Addr} {cw : Nat} {qk : Option Addr} {ck : Nat} {vs : List Nv} :
      SlOf encI 1 w qi ci ints → SlOf encS 1 w qw cw words → SlOf encV 8 w qk ck vs → (∀ a, qi = some a → B ≤ a.block) → (∀ a, qw = some a → B ≤ a.block) → (∀ a, qk = some a → B ≤ a.block) → vs.length = kids.length → (∀ (j : Nat) (v : Nv) (x : Nd), vs[j]? = some v → kids[j]? = some x → NdFrom w B v x) →
      NdFrom w B ⟨kind, attr, qi, ints.length, ci, qw, words.length, cw, lo, hi, op, qk, kids.length, ck⟩ (.mk kind attr ints words lo hi op kids)
theorem NdFrom.toIn {w : World} {B : Nat} {v : Nv} {t : Nd} (h : NdFrom w B v t) : NdIn w v t := by
  induction h with
  | mk hi hw hk _ _ _ hl hr ih => exact .mk hi hw hk hl fun j v x hj hx => ih j v x hj hx
theorem NdFrom.mono {w : World} {B B' : Nat} {v : Nv} {t : Nd} (h : NdFrom w B v t) (hB : B' ≤ B) : NdFrom w B' v t := by
  induction h with
  | mk hi hw hk h1 h2 h3 hl hr ih => exact .mk hi hw hk (fun a e => Nat.le_trans hB (h1 a e)) (fun a e => Nat.le_trans hB (h2 a e)) (fun a e => Nat.le_trans hB (h3 a e)) hl fun j v x hj hx => ih j v x hj hx
/-- A later world that has the same cells from B on. -/
def SameUp (B : Nat) (w w' : World) : Prop := w.heap.size ≤ w'.heap.size ∧ ∀ b o, B ≤ b → b < w.heap.size → w'.cell? ⟨b, o, none⟩ = w.cell? ⟨b, o, none⟩
theorem SlOf.up {α : Type} [Inhabited α] {enc : α → List Value} {k B : Nat} {w w' : World} {q : Option Addr} {c : Nat} {l : List α} (h : SlOf enc k w q c l) (hq : ∀ a, q = some a → B ≤ a.block) (hu : SameUp B w w') : SlOf enc k w' q c l := by
  refine ⟨h.1, h.2.1, h.2.2.1, fun h0 => ?_⟩
  obtain ⟨b, off, rfl, hB, hA⟩ := h.2.2.2 h0
  exact ⟨b, off, rfl, Nat.lt_of_lt_of_le hB hu.1, fun j u hj => (hu.2 b (off + j) (hq _ rfl) hB).trans (hA j u hj)⟩
theorem NdFrom.up {w w' : World} {B : Nat} {v : Nv} {t : Nd} (h : NdFrom w B v t) (hu : SameUp B w w') : NdFrom w' B v t := by
  induction h with
  | mk hi hw hk h1 h2 h3 hl hr ih => exact .mk (hi.up h1 hu) (hw.up h2 hu) (hk.up h3 hu) h1 h2 h3 hl fun j v x hj hx => ih j v x hj hx
theorem SameUp.of {B : Nat} {w w' : World} (h : Below w.heap.size w w') : SameUp B w w' := ⟨h.size, fun b o _ hb => h.cell (p := ⟨b, o, none⟩) hb⟩
theorem SameUp.trans {B : Nat} {x y z : World} (h : SameUp B x y) (k : SameUp B y z) : SameUp B x z := ⟨Nat.le_trans h.1 k.1, fun b o h1 h2 => (k.2 b o h1 (Nat.lt_of_lt_of_le h2 h.1)).trans (h.2 b o h1 h2)⟩
theorem SameUp.grown {B g : Nat} {w w' : World} (h : w.grownBy w' (some g)) (hg : g < B) : SameUp B w w' := ⟨h.size, fun b o h1 h2 => World.cell?_of_block (w := w) (a := ⟨b, o, none⟩) (h.block b h2 (fun e => by cases e; omega))⟩
theorem NdFrom.keep {w w' : World} {B : Nat} {v : Nv} {t : Nd} (h : NdFrom w B v t) (hb : Below w.heap.size w w') : NdFrom w' B v t := h.up (SameUp.of hb)
theorem NdFrom.make {w : World} {B : Nat} {kind : Int} {attr : ByteArray} {ints : List Int} {words : List ByteArray} {lo hi op : Int} {kids : List Nd} {qi : Option Addr} {ci : Nat} {qw : Option Addr} {cw : Nat} {qk : Option Addr} {ck : Nat} {vs : List Nv}
    (h1 : SlOf encI 1 w qi ci ints) (f1 : ∀ a, qi = some a → B ≤ a.block) (h2 : SlOf encS 1 w qw cw words) (f2 : ∀ a, qw = some a → B ≤ a.block) (h3 : SlOf encV 8 w qk ck vs) (f3 : ∀ a, qk = some a → B ≤ a.block) (hl : vs.length = kids.length) (hr : ∀ (j : Nat) (v : Nv) (x : Nd), vs[j]? = some v → kids[j]? = some x → NdFrom w B v x) :
    NdFrom w B ⟨kind, attr, qi, ints.length, ci, qw, words.length, cw, lo, hi, op, qk, kids.length, ck⟩ (.mk kind attr ints words lo hi op kids) := .mk h1 h2 h3 f1 f2 f3 hl hr
set_option maxRecDepth 100000 in
set_option maxHeartbeats 1000000 in
theorem cloneI (q : Option Addr) (c : Nat) (l : List Int) (w : World) (h : SlOf encI 1 w q c l) (hl : l.length ≤ 1000000000000) :
    Calls Tryz.prog 184 #[.slice q l.length c] w fun e w' => ∃ q' c', e = .returned (.slice q' l.length c') ∧ OwnK encI 3 1 w.heap.size w' q' c' l ∧ Below w.heap.size w w' := by
  cases q with
  | none =>
    obtain ⟨h0, rfl⟩ := h.1 rfl
    obtain rfl : l = [] := List.length_eq_zero_iff.1 h0
    have heq := fun (w : World) => Lib.run_eql_slice_nil (P := Tryz.prog) w 23 3 none 0 0 0 0 Tryz.underlying23
    clear h h0
    go_enter Tryz.func184, Tryz.ntmps184
    go_wp2
    go_ret
    exact ⟨none, 0, rfl, OwnK.nil _ _, Below.refl _ _⟩
  | some a =>
    have HS := hide h
    have heq := fun (w : World) => Lib.run_eql_slice_nil (P := Tryz.prog) w 23 3 (some a) l.length c 0 0 Tryz.underlying23
    clear h
    go_enter Tryz.func184, Tryz.ntmps184
    go_wp2_with (at_builtin; refine wpList_app rowI rfl _ _ rfl w.heap.size (some ⟨w.heap.size, 0, none⟩) 0 [] (some a) c l 0 l.length l.length rfl rfl (by omega) rfl rfl (OwnK.made _ _ (Nat.le_refl _)) ((unhide HS).below ((Below.refl _ _).alloc (Nat.le_refl _) _)).src (by unfold maxLen; omega) (by omega) (by simp) ?_; intro q2 c2 w2 hown2 hb2 _ hg2)
    go_ret
    exact ⟨q2, c2, rfl, by simpa using hown2, ((Below.refl _ _).alloc (Nat.le_refl _) _).trans hb2⟩
set_option maxRecDepth 100000 in
set_option maxHeartbeats 1000000 in
theorem cloneS (q : Option Addr) (c : Nat) (l : List ByteArray) (w : World) (h : SlOf encS 1 w q c l) (hl : l.length ≤ 1000000000000) :
    Calls Tryz.prog 183 #[.slice q l.length c] w fun e w' => ∃ q' c', e = .returned (.slice q' l.length c') ∧ OwnK encS 9 1 w.heap.size w' q' c' l ∧ Below w.heap.size w w' := by
  cases q with
  | none =>
    obtain ⟨h0, rfl⟩ := h.1 rfl
    obtain rfl : l = [] := List.length_eq_zero_iff.1 h0
    have heq := fun (w : World) => Lib.run_eql_slice_nil (P := Tryz.prog) w 24 9 none 0 0 0 0 Tryz.underlying24
    clear h h0
    go_enter Tryz.func183, Tryz.ntmps183
    go_wp2
    go_ret
    exact ⟨none, 0, rfl, OwnK.nil _ _, Below.refl _ _⟩
  | some a =>
    have HS := hide h
    have heq := fun (w : World) => Lib.run_eql_slice_nil (P := Tryz.prog) w 24 9 (some a) l.length c 0 0 Tryz.underlying24
    clear h
    go_enter Tryz.func183, Tryz.ntmps183
    go_wp2_with (at_builtin; refine wpList_app rowS rfl _ _ rfl w.heap.size (some ⟨w.heap.size, 0, none⟩) 0 [] (some a) c l 0 l.length l.length rfl rfl (by omega) rfl rfl (OwnK.made _ _ (Nat.le_refl _)) ((unhide HS).below ((Below.refl _ _).alloc (Nat.le_refl _) _)).src (by unfold maxLen; omega) (by omega) (by simp) ?_; intro q2 c2 w2 hown2 hb2 _ hg2)
    go_ret
    exact ⟨q2, c2, rfl, by simpa using hown2, ((Below.refl _ _).alloc (Nat.le_refl _) _).trans hb2⟩
end Go.Proofs.YtencibjmiphinaaGreatDoor
namespace Go.Proofs.YtencibjmiphinaaGreatDoor
open Go.RowKit

theorem depL_snoc {l : List Nd} {k : Nat} {x : Nd} (h : l[k]? = some x) : depL (l.take (k + 1)) = max (depL (l.take k)) (depN x) := by
  rw [take_snoc_of h, depL_app]; simp [depL]
theorem sizeL_snoc {l : List Nd} {k : Nat} {x : Nd} (h : l[k]? = some x) : sizeL (l.take (k + 1)) = sizeL (l.take k) + sizeN x := by
  rw [take_snoc_of h, sizeL_app]; simp [sizeL]
theorem sizeL_take (l : List Nd) (k : Nat) : sizeL (l.take k) ≤ sizeL l := by
  conv => rhs; rw [← List.take_append_drop k l, sizeL_app]
  omega
theorem depL_take (l : List Nd) (k : Nat) : depL (l.take k) ≤ depL l := by
  conv => rhs; rw [← List.take_append_drop k l, depL_app]
  omega
theorem size_pos (t : Nd) : 1 ≤ sizeN t := by cases t; simp only [sizeN]; omega
theorem len_size (l : List Nd) : l.length ≤ sizeL l := by
  induction l with
  | nil => simp
  | cons x l ih => have := size_pos x; simp only [sizeL, List.length_cons]; omega
theorem depL_size (l : List Nd) : depL l ≤ sizeL l := by
  induction l with
  | nil => simp [depL]
  | cons x l ih => have := dep_le x; simp only [depL, sizeL]; omega
set_option maxHeartbeats 2000000 in
theorem depth_any : ∀ (t : Nd) (v : Nv) (w : World), NdIn w v t → sizeN t ≤ 1000000000 →
    Calls Tryz.prog 36 #[v.val] w fun e w' => e = .returned (.int .i64 (depN t)) ∧ Below w.heap.size w w' := by
  intro t
  induction t using Nd.ind with
  | h kind attr ints words lo hi op kids ih =>
    intro v w hin hsz
    obtain ⟨qi, ci, qw, cw, qk, ck, rfl, hi1, hw1, hk⟩ := hin.parts
    simp only [sizeN] at hsz
    have hlen := len_size kids
    have IH := hide ih
    have HK := hide hk
    have a0 : (kids.length : Int) ≤ 1000000000 := by omega
    have hd2 := depL_size kids
    clear ih hk hin hi1 hw1
    simp only [Nv.val]
    go_enter Tryz.func36, Tryz.ntmps36
    go_wp2
    go_loopw [3, 9] (fun d i wr => ∃ k : Nat, k ≤ kids.length ∧ i = .int .i64 k ∧ d = .int .i64 (depL (kids.take k) : Nat) ∧ Below w.heap.size w wr) (fun _ i _ => kids.length - (intOf i).toNat)
    case atStart => exact ⟨0, by omega, rfl, rfl, (Below.refl _ _).alloc (Nat.le_refl _) _⟩
    case round =>
      obtain ⟨k, hkk, rfl, rfl, hbel⟩ := hrel
      have hd1 := depL_take kids k
      by_cases hlt : k < kids.length
      · obtain ⟨x, hx, hxd⟩ := get_at hlt
        clear hxd
        obtain ⟨b, off, v', hq, hin, g0, g1, g2, g3, g4, g5, g6, g7⟩ := (unhide HK).on hx hbel
        subst hq
        have hxm : x ∈ kids := List.mem_of_getElem? hx
        have hxs := sizeL_mem hxm
        have hdx := dep_le x
        have ki0 : (0 : Int) ≤ (k : Int) := by omega
        have ki1 : (k : Int) < (kids.length : Int) := by omega
        have HS := hide (depL_snoc hx)
        have hsn := depL_take kids (k + 1)
        rw [unhide HS] at hsn
        have HIN := hide hin
        have HC := hide (unhide IH x hxm v')
        simp only [Nv.val] at HC
        have HB := hide hbel
        clear hin hx hbel hxm
        go_wp2_with (go_at_call 36; refine (unhide HC _ (by exact (unhide HIN).keep ((Below.refl _ _).alloc (Nat.le_refl _) _)) (by omega)).mono ?_; rintro e w1 ⟨rfl, hb1⟩)
        exact ⟨⟨k + 1, by omega, by go_num, congrArg (Value.int .i64) (by rw [unhide HS]; omega), ((unhide HB).alloc (unhide HB).size _).trans (hb1.mono (by simp; have := (unhide HB).size; omega))⟩, by simp [intOf]; omega⟩
      · have ki1 : ¬ (k : Int) < (kids.length : Int) := by omega
        have HE := hide (List.take_of_length_le (l := kids) (i := k) (by omega))
        go_wp2
        go_ret
        exact ⟨ret_int (by rw [unhide HE]; simp only [depN]; omega), hbel⟩
end Go.Proofs.YtencibjmiphinaaGreatDoor
namespace Go.Proofs.YtencibjmiphinaaGreatDoor
open Go.RowKit Go.Sort

theorem flat_at8 (l : List Nv) (j : Nat) (x : Nv) (h : l[j]? = some x) (c : Nat) (hc : c < 8) : (flatK encV 8 l.toArray).toList[j * 8 + c]? = some ((encV x)[c]!) := flat_at h c hc
theorem flat_len (l : List Nv) : (flatK encV 8 l.toArray).toList.length = l.length * 8 := by simp
theorem flat_set8 (l : List Nv) (k : Nat) (v : Nv) (hk : k < l.length) : (flatK encV 8 (l.set k v).toArray).toList = (((((((((flatK encV 8 l.toArray).toList).set (k * 8) (.int .i64 v.kind)).set (k * 8 + 1) (.string v.attr)).set (k * 8 + 2) (.slice v.qi v.ni v.ci)).set (k * 8 + 3) (.slice v.qw v.nw v.cw)).set (k * 8 + 4) (.int .i64 v.lo)).set (k * 8 + 5) (.int .i64 v.hi)).set (k * 8 + 6) (.int .i64 v.op)).set (k * 8 + 7) (.slice v.qk v.nk v.ck) := by
  apply List.ext_getElem?
  intro i
  by_cases hi : i < l.length * 8
  · have hq : i / 8 < l.length := by omega
    have hi2 : i = i / 8 * 8 + i % 8 := by omega
    by_cases h : i / 8 = k
    · have h1 : (l.set k v)[k]? = some v := by rw [List.getElem?_set_self hk]
      have h2 := flat_at8 (l.set k v) k v h1 (i % 8) (by omega)
      have hlen := flat_len l
      rw [h] at hi2
      have hm : i % 8 = 0 ∨ i % 8 = 1 ∨ i % 8 = 2 ∨ i % 8 = 3 ∨ i % 8 = 4 ∨ i % 8 = 5 ∨ i % 8 = 6 ∨ i % 8 = 7 := by omega
      rcases hm with e | e | e | e | e | e | e | e
      all_goals
        rw [e] at hi2 h2
        rw [hi2, h2]
        simp [List.getElem?_set, encV]
        omega
    · obtain ⟨x, hx, _⟩ := get_at hq
      have h1 : (l.set k v)[i / 8]? = some x := by rw [List.getElem?_set_ne (by omega)]; exact hx
      have h2 := flat_at8 (l.set k v) (i / 8) x h1 (i % 8) (by omega)
      have h3 := flat_at8 l (i / 8) x hx (i % 8) (by omega)
      rw [← hi2] at h2 h3
      rw [h2]
      rw [List.getElem?_set_ne (by omega), List.getElem?_set_ne (by omega), List.getElem?_set_ne (by omega), List.getElem?_set_ne (by omega), List.getElem?_set_ne (by omega), List.getElem?_set_ne (by omega), List.getElem?_set_ne (by omega), List.getElem?_set_ne (by omega), h3]
  · rw [List.getElem?_eq_none (by rw [flat_len]; simp; omega), List.getElem?_eq_none (by simp; omega)]
/-- A node stored into a row of the call's own. -/
theorem own_set8 {B g c : Nat} {w : World} {l : List Nv} {k : Nat} (h : OwnK encV 29 8 B w (some ⟨g, 0, none⟩) c l) (hk : k < l.length) (v : Nv) :
    OwnK encV 29 8 B (((((((((w).setCell ⟨g, k * 8, none⟩ (.int .i64 v.kind)).setCell ⟨g, k * 8 + 1, none⟩ (.string v.attr)).setCell ⟨g, k * 8 + 2, none⟩ (.slice v.qi v.ni v.ci)).setCell ⟨g, k * 8 + 3, none⟩ (.slice v.qw v.nw v.cw)).setCell ⟨g, k * 8 + 4, none⟩ (.int .i64 v.lo)).setCell ⟨g, k * 8 + 5, none⟩ (.int .i64 v.hi)).setCell ⟨g, k * 8 + 6, none⟩ (.int .i64 v.op)).setCell ⟨g, k * 8 + 7, none⟩ (.slice v.qk v.nk v.ck)) (some ⟨g, 0, none⟩) c (l.set k v) ∧ SameUp (g + 1) w (((((((((w).setCell ⟨g, k * 8, none⟩ (.int .i64 v.kind)).setCell ⟨g, k * 8 + 1, none⟩ (.string v.attr)).setCell ⟨g, k * 8 + 2, none⟩ (.slice v.qi v.ni v.ci)).setCell ⟨g, k * 8 + 3, none⟩ (.slice v.qw v.nw v.cw)).setCell ⟨g, k * 8 + 4, none⟩ (.int .i64 v.lo)).setCell ⟨g, k * 8 + 5, none⟩ (.int .i64 v.hi)).setCell ⟨g, k * 8 + 6, none⟩ (.int .i64 v.op)).setCell ⟨g, k * 8 + 7, none⟩ (.slice v.qk v.nk v.ck)) := by
  unfold OwnK at h
  have h0 := World.ownsRow.stored h (k * 8) (.int .i64 v.kind)
  have h1 := World.ownsRow.stored h0.1 (k * 8 + 1) (.string v.attr)
  have h2 := World.ownsRow.stored h1.1 (k * 8 + 2) (.slice v.qi v.ni v.ci)
  have h3 := World.ownsRow.stored h2.1 (k * 8 + 3) (.slice v.qw v.nw v.cw)
  have h4 := World.ownsRow.stored h3.1 (k * 8 + 4) (.int .i64 v.lo)
  have h5 := World.ownsRow.stored h4.1 (k * 8 + 5) (.int .i64 v.hi)
  have h6 := World.ownsRow.stored h5.1 (k * 8 + 6) (.int .i64 v.op)
  have h7 := World.ownsRow.stored h6.1 (k * 8 + 7) (.slice v.qk v.nk v.ck)
  refine ⟨?_, ?_⟩
  · unfold OwnK
    rw [flat_set8 l k v hk, List.length_set]
    exact h7.1
  · exact (((((((SameUp.grown h0.2 (by omega)).trans (SameUp.grown h1.2 (by omega))).trans (SameUp.grown h2.2 (by omega))).trans (SameUp.grown h3.2 (by omega))).trans (SameUp.grown h4.2 (by omega))).trans (SameUp.grown h5.2 (by omega))).trans (SameUp.grown h6.2 (by omega))).trans (SameUp.grown h7.2 (by omega))
theorem below_set8 {B g : Nat} {a w : World} (h : Below B a w) (hg : B ≤ g) (k : Nat) (v : Nv) : Below B a (((((((((w).setCell ⟨g, k * 8, none⟩ (.int .i64 v.kind)).setCell ⟨g, k * 8 + 1, none⟩ (.string v.attr)).setCell ⟨g, k * 8 + 2, none⟩ (.slice v.qi v.ni v.ci)).setCell ⟨g, k * 8 + 3, none⟩ (.slice v.qw v.nw v.cw)).setCell ⟨g, k * 8 + 4, none⟩ (.int .i64 v.lo)).setCell ⟨g, k * 8 + 5, none⟩ (.int .i64 v.hi)).setCell ⟨g, k * 8 + 6, none⟩ (.int .i64 v.op)).setCell ⟨g, k * 8 + 7, none⟩ (.slice v.qk v.nk v.ck)) := ((((((((h).setCell hg _).setCell hg _).setCell hg _).setCell hg _).setCell hg _).setCell hg _).setCell hg _).setCell hg _
theorem OwnK.cases {B c : Nat} {w : World} {q : Option Addr} {l : List Nv} (h : OwnK encV 29 8 B w q c l) : (q = none ∧ l = [] ∧ c = 0) ∨ ∃ g, q = some ⟨g, 0, none⟩ ∧ B ≤ g ∧ g < w.heap.size ∧ ∀ o, w.frozen? ⟨g, o, none⟩ = false := by
  rcases h.2 with ⟨h0, hl⟩ | ⟨g, cp, cur, hv, hB, hblk, _⟩
  · injection h0 with h1 h2 h3
    exact Or.inl ⟨h1, List.length_eq_zero_iff.1 h2, h3⟩
  · injection hv with h1
    exact Or.inr ⟨g, h1, hB, (Array.getElem?_eq_some_iff.1 hblk).1, fun o => frozen_free hblk⟩
theorem OwnK.cells {B g c : Nat} {w : World} {l : List Nv} {j : Nat} {v : Nv} (h : OwnK encV 29 8 B w (some ⟨g, 0, none⟩) c l) (hj : l[j]? = some v) : w.cell? ⟨g, j * 8, none⟩ = some (.int .i64 v.kind) ∧ w.cell? ⟨g, j * 8 + 1, none⟩ = some (.string v.attr) ∧ w.cell? ⟨g, j * 8 + 2, none⟩ = some (.slice v.qi v.ni v.ci) ∧ w.cell? ⟨g, j * 8 + 3, none⟩ = some (.slice v.qw v.nw v.cw) ∧ w.cell? ⟨g, j * 8 + 4, none⟩ = some (.int .i64 v.lo) ∧ w.cell? ⟨g, j * 8 + 5, none⟩ = some (.int .i64 v.hi) ∧ w.cell? ⟨g, j * 8 + 6, none⟩ = some (.int .i64 v.op) ∧ w.cell? ⟨g, j * 8 + 7, none⟩ = some (.slice v.qk v.nk v.ck) := by
  obtain ⟨b, off, hq, _, hc⟩ := h.ls.2.2.2.at hj
  cases hq
  have hh := fun c hc' => hc c hc'
  simp only [Nat.zero_add] at hh
  exact ⟨hh 0 (by omega), hh 1 (by omega), hh 2 (by omega), hh 3 (by omega), hh 4 (by omega), hh 5 (by omega), hh 6 (by omega), hh 7 (by omega)⟩
theorem OwnK.free {B g c : Nat} {w : World} {l : List Nv} (h : OwnK encV 29 8 B w (some ⟨g, 0, none⟩) c l) : g < w.heap.size ∧ ∀ o, w.frozen? ⟨g, o, none⟩ = false := by
  rcases h.cases with ⟨h0, _⟩ | ⟨g', h1, _, h2, h3⟩
  · cases h0
  · cases h1; exact ⟨h2, h3⟩
theorem of8' {w : World} {N : Nat} {a0 a1 a2 a3 a4 a5 a6 a7 : Value} {T : TypeId} (h : w.heap[N]? = some (.cells #[a0, a1, a2, a3, a4, a5, a6, a7] T (0, 0))) : w.cell? ⟨N, 0, none⟩ = some a0 ∧ w.cell? ⟨N, 1, none⟩ = some a1 ∧ w.cell? ⟨N, 2, none⟩ = some a2 ∧ w.cell? ⟨N, 3, none⟩ = some a3 ∧ w.cell? ⟨N, 4, none⟩ = some a4 ∧ w.cell? ⟨N, 5, none⟩ = some a5 ∧ w.cell? ⟨N, 6, none⟩ = some a6 ∧ w.cell? ⟨N, 7, none⟩ = some a7 := by
  refine ⟨?_, ?_, ?_, ?_, ?_, ?_, ?_, ?_⟩ <;> (unfold World.cell?; simp [h])
/-- What cloneAll answers. -/
def AllPost (B : Nat) (w' : World) (kids : List Nd) (e : Ending) : Prop := ∃ q' c' vs', e = .returned (.slice q' kids.length c') ∧ OwnK encV 29 8 B w' q' c' vs' ∧ vs'.length = kids.length ∧ ∀ (j : Nat) (v : Nv) (x : Nd), vs'[j]? = some v → kids[j]? = some x → NdFrom w' B v x
theorem box_nw (w : World) (o : Obj) : (w.alloc o).heap[w.heap.size]? = some o := by simp [World.alloc, -World.alloc_eq]
theorem SameUp.set {B : Nat} {a w : World} (h : SameUp B a w) {p : Addr} (hp : p.block < B) (u : Value) : SameUp B a (w.setCell p u) :=
  h.trans ⟨by simp, fun b o h1 _ => World.cell?_of_block (w := w) (a := ⟨b, o, none⟩) (Below.heap_setCell w p u b (by show b ≠ p.block; omega))⟩
end Go.Proofs.YtencibjmiphinaaGreatDoor

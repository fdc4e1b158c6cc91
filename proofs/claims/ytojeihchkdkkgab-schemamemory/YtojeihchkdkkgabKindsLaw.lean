/- The law SchemaKinds returns true at every list of attributes and every name. -/
import Derived.Test.YtojeihchkdkkgabFixed
namespace Go.Proofs.Ytojeihchkdkkgab
open Go.RowKit Go.Sort Go.Shelf

def hasN (l : List (ByteArray × Int)) (s : ByteArray) : Bool := l.any fun y => y.1.toList == s.toList
theorem kindOf_snoc (l : List (ByteArray × Int)) (x : ByteArray × Int) (s : ByteArray) : kindOf (l ++ [x]) s = if hasN l s then kindOf l s else if x.1.toList == s.toList then x.2 else 0 := by
  induction l with
  | nil => simp [kindOf, hasN]
  | cons y r ih =>
    simp only [List.cons_append, kindOf, hasN, List.any_cons]
    by_cases h : (y.1.toList == s.toList) = true
    · simp [h]
    · simp only [h]
      simp only [Bool.false_eq_true, if_false, Bool.false_or]
      exact ih
theorem kindOf_none {l : List (ByteArray × Int)} {s : ByteArray} (h : hasN l s = false) : kindOf l s = 0 := by
  induction l with
  | nil => rfl
  | cons y r ih =>
    simp only [hasN, List.any_cons, Bool.or_eq_false_iff] at h
    unfold kindOf
    rw [if_neg (by simp [h.1])]
    exact ih h.2
theorem nodup_has {l : List (ByteArray × Int)} {k : Nat} {x : ByteArray × Int} (hn : (l.map nmA).Nodup) (hx : l[k]? = some x) : hasN (l.take k) x.1 = false := by
  rw [Bool.eq_false_iff]
  intro h
  unfold hasN at h
  rw [List.any_eq_true] at h
  obtain ⟨y, hy, he⟩ := h
  obtain ⟨j, hj, rfl⟩ := List.mem_iff_getElem.1 hy
  have hjk : j < k := by simp at hj; omega
  obtain ⟨hkl, ex⟩ := List.getElem?_eq_some_iff.1 hx
  unfold List.Nodup at hn
  rw [List.pairwise_iff_getElem] at hn
  refine hn j k (by simp; omega) (by simpa using hkl) hjk ?_
  simp only [List.getElem_map, nmA, ex]
  simpa [List.getElem_take] using he
theorem take_snoc {α : Type} {l : List α} {k : Nat} {x : α} (hx : l[k]? = some x) : l.take (k + 1) = l.take k ++ [x] := by
  rw [List.take_add_one, hx]; rfl
theorem kindOf_at {l : List (ByteArray × Int)} {k : Nat} {x : ByteArray × Int} (hn : (l.map nmA).Nodup) (hx : l[k]? = some x) : kindOf l x.1 = x.2 := by
  have h1 := nodup_has hn hx
  have e : l = l.take k ++ x :: l.drop (k + 1) := by
    obtain ⟨hkl, ex⟩ := List.getElem?_eq_some_iff.1 hx
    rw [← ex, ← List.drop_eq_getElem_cons hkl, List.take_append_drop]
  rw [e]
  generalize l.take k = a at h1
  induction a with
  | nil => simp [kindOf]
  | cons y r ih =>
    simp only [hasN, List.any_cons, Bool.or_eq_false_iff] at h1
    simp only [List.cons_append]
    unfold kindOf
    rw [if_neg (by simp [h1.1])]
    exact ih h1.2
theorem name_more (s : ByteArray) (h : nameOk s = true) : Op.bytesLess [] s.toList = true := by
  have : 1 ≤ s.size := by
    cases h0 : decide (1 ≤ s.size) with
    | true => exact of_decide_eq_true h0
    | false => unfold nameOk at h; rw [h0] at h; simp at h
  have hl := size_toList s
  cases hs : s.toList with
  | nil => rw [hs] at hl; simp at hl; omega
  | cons a r => rfl
/-- The name ahead of the k-th. -/
def lastN (l : List (ByteArray × Int)) : Nat → ByteArray
  | 0 => ⟨#[]⟩
  | k + 1 => (l[k]?.getD (⟨#[]⟩, 0)).1
theorem last_less {l : List (ByteArray × Int)} {k : Nat} {x : ByteArray × Int} (hs : Strict nmA l) (ha : nameOk x.1 = true) (hx : l[k]? = some x) : Op.bytesLess (lastN l k).toList x.1.toList = true := by
  cases k with
  | zero =>
    have : (lastN l 0).toList = [] := by unfold lastN; rw [ByteArray.toList_eq]
    rw [this]; exact name_more x.1 ha
  | succ k =>
    obtain ⟨hkl, ex⟩ := List.getElem?_eq_some_iff.1 hx
    unfold Strict at hs
    rw [List.pairwise_iff_getElem] at hs
    have := hs k (k + 1) (by omega) hkl (by omega)
    show Op.bytesLess ((l[k]?.getD (⟨#[]⟩, 0)).1).toList x.1.toList = true
    rw [List.getElem?_eq_getElem (show k < l.length by omega)]
    simpa [nmA, ex] using this
theorem last_next {l : List (ByteArray × Int)} {k : Nat} {x : ByteArray × Int} (hx : l[k]? = some x) : lastN l (k + 1) = x.1 := by
  show (l[k]?.getD (⟨#[]⟩, 0)).1 = x.1
  rw [hx]; rfl
theorem less_ne {a b : List UInt8} (h : Op.bytesLess a b = true) : Op.bytesLess b a = false ∧ (b == a) = false := by
  refine ⟨less_asymm _ _ h, ?_⟩
  rw [Bool.eq_false_iff]
  intro e
  rw [eq_of_beq e, less_irrefl] at h; cases h
theorem kind_step_yes {l : List (ByteArray × Int)} {k : Nat} {x : ByteArray × Int} {s : ByteArray} (hn : (l.map nmA).Nodup) (hx : l[k]? = some x) (h : (x.1.toList == s.toList) = true) : kindOf (l.take (k + 1)) s = x.2 := by
  have h1 := nodup_has hn hx
  have h2 : hasN (l.take k) s = false := by
    unfold hasN at h1 ⊢
    rw [← eq_of_beq h]; exact h1
  rw [take_snoc hx, kindOf_snoc, h2]
  simp [h]
theorem kind_step_no {l : List (ByteArray × Int)} {k : Nat} {x : ByteArray × Int} {s : ByteArray} (hx : l[k]? = some x) (h : (x.1.toList == s.toList) = false) : kindOf (l.take (k + 1)) s = kindOf (l.take k) s := by
  rw [take_snoc hx, kindOf_snoc]
  by_cases hh : hasN (l.take k) s = true
  · simp [hh]
  · simp only [hh, h]
    simp [kindOf_none (by simpa using hh)]

set_option maxHeartbeats 2000000 in
set_option maxRecDepth 100000 in
theorem schemaKinds_any (p : Option Addr) (cap : Nat) (l : List (ByteArray × Int)) (s : ByteArray) (w : World) (hl : l.length * 24 ≤ 140737488355328) (hp : p = none → l.length = 0 ∧ cap = 0) (hA : AtsOf w p l) :
    Calls Try.prog 6 #[.slice p l.length cap, .string s] w fun e w' => e = .returned (.bool true) ∧ Below w.heap.size w w' := by
  have mixed : Try.prog.follows .mixedOrders = true := by kernel_rfl
  have e17 : ∀ args w, (callFunc 17 args).run Try.prog w = .ok (.enter 17 args) w := enters_of Try.func17 (by kernel_rfl) rfl
  have e23 : ∀ args w, (callFunc 23 args).run Try.prog w = .ok (.enter 23 args) w := enters_of Try.func23 (by kernel_rfl) rfl
  have hfx := fixed_any w
  have hnew := fun (W : World) (hb : Below w.heap.size w W) => new_any p cap l W hl hp (hA.below hb)
  clear hA hp
  go_enter Try.func6, Try.ntmps6
  go_wp2_with (first
    | (go_at_call 8; refine hfx.mono ?_; rintro e w1 ⟨rfl, b1⟩; have B1 := hide b1; clear b1)
    | (go_at_call 9; refine (hnew _ (unhide B1)).mono ?_; rintro e w2 ⟨hr, b2⟩; have B2 := hide (below_sub (unhide B1) b2); clear b2; rcases hr with ⟨_, rfl⟩ | ⟨_, _, rfl⟩ | ⟨h64, hok, hnd, b, l', rfl, hperm, hstr, hN⟩))
  · go_wp2
    go_ret
    exact ⟨rfl, unhide B2⟩
  · go_wp2
    go_ret
    exact ⟨rfl, unhide B2⟩
  · have hll : l'.length = l.length := hperm.length_eq
    have hlen := fun (W : World) (hb : Below w2.heap.size w2 W) => len_any b l' W (hN.at.below hb)
    have hat := fun (W : World) (hb : Below w2.heap.size w2 W) => attrs_any b l' W (by omega) (hN.at.below hb)
    have hki := fun (W : World) (hb : Below w2.heap.size w2 W) (t : ByteArray) => kind_any b l' t W (by omega) (hN.at.below hb)
    rw [hll] at hlen hat
    have Hstr := hide hstr
    have hnd' : (l'.map nmA).Nodup := (hperm.map nmA).nodup_iff.2 hnd
    have Hnd := hide hnd'
    have hok' : ∀ (k : Nat) (x : ByteArray × Int), l'[k]? = some x → nameOk x.1 = true := fun k x hx => by
      rw [List.all_eq_true] at hok
      have := hok x (hperm.mem_iff.1 (List.mem_of_getElem? hx))
      unfold atOk at this
      rw [Bool.and_eq_true] at this
      exact this.1
    have Hok := hide hok'
    clear hok hok' hnd hnd' hperm hstr hN hfx hnew
    go_wp2_with (first
      | (go_at_call 15; refine (hlen _ (Below.refl _ _)).mono ?_; rintro e w3 ⟨rfl, rfl⟩)
      | (go_at_call 16; refine (hat _ (Below.refl _ _)).mono ?_; rintro e w4 ⟨q, cap', rfl, hNa, b4⟩; have HNa := hide hNa.of; have B4 := hide b4; clear hNa b4))
    go_loopw [7, 8, 34] (fun kd ls i wr => ∃ k : Nat, k ≤ l.length ∧ i = .int .i64 k ∧ kd = .int .i64 (kindOf (l'.take k) s) ∧ ls = .string (lastN l' k) ∧ Below w4.heap.size w4 wr) (fun _ _ i _ => l.length - (intOf i).toNat)
    case atStart => exact ⟨0, by omega, rfl, rfl, rfl, Below.refl _ _⟩
    case round =>
      obtain ⟨k, hk, rfl, rfl, rfl, hbel⟩ := hrel
      have b24 := hide (below_sub (unhide B4) hbel)
      by_cases hlt : k < l.length
      · obtain ⟨bb, off, rfl, hbb, hAt⟩ := unhide HNa (by omega)
        obtain ⟨x, hx, _⟩ := get_at (l := l') (k := k) (by omega)
        have ki0 : (0 : Int) ≤ (k : Int) := by omega
        have ki1 : (k : Int) < (l.length : Int) := by omega
        obtain ⟨g0, g1⟩ := hAt.below hbel hbb k x hx
        have hnx := unhide Hok k x hx
        obtain ⟨l1, l2⟩ := less_ne (last_less (unhide Hstr) hnx hx)
        have Hln := hide (last_next hx)
        obtain ⟨w0, hw0⟩ : ∃ w0, w0 = wr.alloc (.cells #[.string x.1, .int .i64 x.2] 26) := ⟨_, rfl⟩
        have hb0 : Below wr.heap.size wr w0 := by rw [hw0]; exact (Below.refl _ _).alloc (Nat.le_refl _) _
        have hbw := hide (below_sub hbel hb0)
        have y0 : ∀ n os, (grow (redrawn w0 n) os).cell? ⟨wr.heap.size, 0, none⟩ = some (.string x.1) := cell_regrown (by subst hw0; go_simp)
        have y1 : ∀ n os, (grow (redrawn w0 n) os).cell? ⟨wr.heap.size, 1, none⟩ = some (.int .i64 x.2) := cell_regrown (by subst hw0; go_simp)
        have hkx := fun (n : Nat) (os : Array Obj) => hki (grow (redrawn w0 n) os) (below_sub (below_sub (unhide b24) hb0) (below_regrown w0 n os)) x.1
        have hnm := fun (W : World) => (name_any x.1 W).mono (R' := fun e w' => e = .returned (.bool true) ∧ Below W.heap.size W w') (fun e w' ⟨he, hw⟩ => ⟨by rw [he, hnx], by rw [hw]; exact Below.refl _ _⟩)
        rw [kindOf_at (unhide Hnd) hx] at hkx
        have hkk : (x.2 != x.2) = false := by simp
        have Hx := hide hx
        clear hx hnx hb0
        cases hq : (x.1.toList == s.toList) with
        | true =>
          have Hst := hide (kind_step_yes (unhide Hnd) (unhide Hx) hq)
          go_wp2
          rw [← hw0]
          clear hw0
          refine wp_region_quiet_below (by assumption) (by kernel_rfl) ?_
          repeat (quiet_step (first
            | (go_at_fn 17; refine Calls.regrown_of (hkx _ _))
            | (go_at_fn 23; refine Calls.regrown_of (hnm _))))
          refine wpQuiet_nil ?_
          intro _ hw'
          obtain ⟨⟨dq, osq⟩, hw''⟩ := hw'
          subst hw''
          go_wp2
          go_roundw
          case rel => exact ⟨k + 1, by omega, by go_num, by rw [unhide Hst], by rw [unhide Hln], below_sub (unhide hbw) (below_regrown _ _ _)⟩
          case measure => simp [intOf]; omega
        | false =>
          have Hst := hide (kind_step_no (unhide Hx) hq)
          go_wp2
          rw [← hw0]
          clear hw0
          refine wp_region_quiet_below (by assumption) (by kernel_rfl) ?_
          repeat (quiet_step (first
            | (go_at_fn 17; refine Calls.regrown_of (hkx _ _))
            | (go_at_fn 23; refine Calls.regrown_of (hnm _))))
          refine wpQuiet_nil ?_
          intro _ hw'
          obtain ⟨⟨dq, osq⟩, hw''⟩ := hw'
          subst hw''
          go_wp2
          go_roundw
          case rel => exact ⟨k + 1, by omega, by go_num, by rw [unhide Hst], by rw [unhide Hln], below_sub (unhide hbw) (below_regrown _ _ _)⟩
          case measure => simp [intOf]; omega
      · obtain rfl : k = l.length := by omega
        have hks := hki wr (unhide b24) s
        rw [List.take_of_length_le (by omega)]
        generalize kindOf l' s = r at hks ⊢
        have hrr : (r == r) = true := by simp
        go_wp2_with (first | (go_at_call 17; refine hks.mono ?_; rintro e w5 ⟨rfl, b5⟩))
        go_ret
        exact ⟨rfl, below_sub (below_sub (unhide B2) (unhide b24)) b5⟩
end Go.Proofs.Ytojeihchkdkkgab

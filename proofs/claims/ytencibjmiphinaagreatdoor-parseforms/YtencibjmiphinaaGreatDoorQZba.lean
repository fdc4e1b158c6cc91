/- Lists of attributes and of pairs in memory, and what Get, Kind and Len return of them, for every list. -/
import Derived.Test.YtencibjmiphinaaGreatDoorQZaz
import Derived.Test.YtencibjmiphinaaGreatDoorQZaf
import Derived.Test.YtencibjmiphinaaGreatDoorQSameNode
namespace Go.Proofs.YtencibjmiphinaaGreatDoor.Sc
open Go.RowKit

/-- The block b holds the attributes l from off on. -/
def AtsAt (w : World) (b off : Nat) (l : List (ByteArray × Int)) : Prop :=
  ∀ (j : Nat) (x : ByteArray × Int), l[j]? = some x → w.cell? ⟨b, off + j * 2, none⟩ = some (.string x.1) ∧ w.cell? ⟨b, off + j * 2 + 1, none⟩ = some (.int .i64 x.2)
/-- A slice that begins at p holds the attributes l. -/
def AtsOf (w : World) (p : Option Addr) (l : List (ByteArray × Int)) : Prop :=
  0 < l.length → ∃ b off, p = some ⟨b, off, none⟩ ∧ b < w.heap.size ∧ AtsAt w b off l
/-- The block b holds the pairs l from off on. -/
def PrsAt (w : World) (b off : Nat) (l : List (ByteArray × Int × Int × ByteArray)) : Prop :=
  ∀ (j : Nat) (x : ByteArray × Int × Int × ByteArray), l[j]? = some x → w.cell? ⟨b, off + j * 4, none⟩ = some (.string x.1) ∧ w.cell? ⟨b, off + j * 4 + 1, none⟩ = some (.int .i64 x.2.1) ∧ w.cell? ⟨b, off + j * 4 + 2, none⟩ = some (.int .i64 x.2.2.1) ∧ w.cell? ⟨b, off + j * 4 + 3, none⟩ = some (.string x.2.2.2)
def PrsOf (w : World) (p : Option Addr) (l : List (ByteArray × Int × Int × ByteArray)) : Prop :=
  0 < l.length → ∃ b off, p = some ⟨b, off, none⟩ ∧ b < w.heap.size ∧ PrsAt w b off l
theorem AtsAt.below {B : Nat} {w w' : World} {b off : Nat} {l : List (ByteArray × Int)} (h : AtsAt w b off l) (hb : Below B w w') (hB : b < B) : AtsAt w' b off l := fun j x hj =>
  ⟨(hb.cell (by exact hB)).trans (h j x hj).1, (hb.cell (by exact hB)).trans (h j x hj).2⟩
theorem PrsAt.below {B : Nat} {w w' : World} {b off : Nat} {l : List (ByteArray × Int × Int × ByteArray)} (h : PrsAt w b off l) (hb : Below B w w') (hB : b < B) : PrsAt w' b off l := fun j x hj =>
  ⟨(hb.cell (by exact hB)).trans (h j x hj).1, (hb.cell (by exact hB)).trans (h j x hj).2.1, (hb.cell (by exact hB)).trans (h j x hj).2.2.1, (hb.cell (by exact hB)).trans (h j x hj).2.2.2⟩
theorem AtsOf.below {w w' : World} {p : Option Addr} {l : List (ByteArray × Int)} (h : AtsOf w p l) (hb : Below w.heap.size w w') : AtsOf w' p l := fun h0 => by
  obtain ⟨b, off, rfl, hB, hA⟩ := h h0
  exact ⟨b, off, rfl, Nat.lt_of_lt_of_le hB hb.size, hA.below hb hB⟩
theorem PrsOf.below {w w' : World} {p : Option Addr} {l : List (ByteArray × Int × Int × ByteArray)} (h : PrsOf w p l) (hb : Below w.heap.size w w') : PrsOf w' p l := fun h0 => by
  obtain ⟨b, off, rfl, hB, hA⟩ := h h0
  exact ⟨b, off, rfl, Nat.lt_of_lt_of_le hB hb.size, hA.below hb hB⟩
theorem AtsOf.nil (w : World) (p : Option Addr) : AtsOf w p [] := fun h => absurd h (by simp)
theorem PrsOf.nil (w : World) (p : Option Addr) : PrsOf w p [] := fun h => absurd h (by simp)
theorem get_at {α : Type} {l : List α} {k : Nat} (h : k < l.length) : ∃ x, l[k]? = some x ∧ l.drop k = x :: l.drop (k + 1) := ⟨l[k], List.getElem?_eq_getElem h, List.drop_eq_getElem_cons h⟩

/-- The kind of the first attribute of the name; 0: none. -/
def kindOf : List (ByteArray × Int) → ByteArray → Int
  | [], _ => 0
  | x :: r, s => if x.1.toList == s.toList then x.2 else kindOf r s
/-- The first pair of the name. -/
def getOf : List (ByteArray × Int × Int × ByteArray) → ByteArray → Option (Int × Int × ByteArray)
  | [], _ => none
  | x :: r, s => if x.1.toList == s.toList then some x.2 else getOf r s
theorem kind_yes {l : List (ByteArray × Int)} {s : ByteArray} {k : Nat} {x : ByteArray × Int} (hk : kindOf l s = kindOf (l.drop k) s) (hd : l.drop k = x :: l.drop (k + 1)) (h : (x.1.toList == s.toList) = true) : kindOf l s = x.2 := by
  rw [hk, hd]; unfold kindOf; rw [if_pos h]
theorem kind_no {l : List (ByteArray × Int)} {s : ByteArray} {k : Nat} {x : ByteArray × Int} (hk : kindOf l s = kindOf (l.drop k) s) (hd : l.drop k = x :: l.drop (k + 1)) (h : (x.1.toList == s.toList) = false) : kindOf l s = kindOf (l.drop (k + 1)) s := by
  rw [hk, hd]; conv => lhs; unfold kindOf; rw [if_neg (by simp [h])]
theorem kind_end {l : List (ByteArray × Int)} {s : ByteArray} {k : Nat} (hk : kindOf l s = kindOf (l.drop k) s) (h : ¬ k < l.length) : kindOf l s = 0 := by
  rw [hk, List.drop_of_length_le (by omega)]; rfl
theorem get_yes {l : List (ByteArray × Int × Int × ByteArray)} {s : ByteArray} {k : Nat} {x : ByteArray × Int × Int × ByteArray} (hk : getOf l s = getOf (l.drop k) s) (hd : l.drop k = x :: l.drop (k + 1)) (h : (x.1.toList == s.toList) = true) : getOf l s = some x.2 := by
  rw [hk, hd]; unfold getOf; rw [if_pos h]
theorem get_no {l : List (ByteArray × Int × Int × ByteArray)} {s : ByteArray} {k : Nat} {x : ByteArray × Int × Int × ByteArray} (hk : getOf l s = getOf (l.drop k) s) (hd : l.drop k = x :: l.drop (k + 1)) (h : (x.1.toList == s.toList) = false) : getOf l s = getOf (l.drop (k + 1)) s := by
  rw [hk, hd]; conv => lhs; unfold getOf; rw [if_neg (by simp [h])]
theorem get_end {l : List (ByteArray × Int × Int × ByteArray)} {s : ByteArray} {k : Nat} (hk : getOf l s = getOf (l.drop k) s) (h : ¬ k < l.length) : getOf l s = none := by
  rw [hk, List.drop_of_length_le (by omega)]; rfl

/-- The schema at b holds the attributes l. -/
def SchAt (w : World) (b : Nat) (l : List (ByteArray × Int)) : Prop :=
  b < w.heap.size ∧ ∃ p cap, w.cell? ⟨b, 0, none⟩ = some (.slice p l.length cap) ∧ AtsOf w p l ∧ (p = none → l.length = 0 ∧ cap = 0)
theorem SchAt.below {w w' : World} {b : Nat} {l : List (ByteArray × Int)} (h : SchAt w b l) (hb : Below w.heap.size w w') : SchAt w' b l := by
  obtain ⟨h0, p, cap, hc, hA, hp⟩ := h
  exact ⟨Nat.lt_of_lt_of_le h0 hb.size, p, cap, (hb.cell (by exact h0)).trans hc, hA.below hb, hp⟩

set_option maxHeartbeats 1000000 in
theorem kind_any (b : Nat) (l : List (ByteArray × Int)) (s : ByteArray) (w : World) (hm : l.length ≤ 140737488355328) (hS : SchAt w b l) :
    Calls Tryz.prog 68 #[.pointer (some ⟨b, 0, none⟩), .string s] w fun e w' => e = .returned (.int .i64 (kindOf l s)) ∧ Below w.heap.size w w' := by
  obtain ⟨h0, p, cap, hc, hA, _⟩ := hS
  have HA := hide hA
  clear hA
  go_enter Tryz.func68, Tryz.ntmps68
  go_wp2
  go_loopw [12] (fun i wr => ∃ k : Nat, k ≤ l.length ∧ i = .int .i64 k ∧ Below w.heap.size w wr ∧ kindOf l s = kindOf (l.drop k) s) (fun i _ => l.length - (intOf i).toNat)
  case atStart => exact ⟨0, by omega, rfl, Below.refl _ _, by simp⟩
  case round =>
    obtain ⟨k, hk, rfl, hbel, heq⟩ := hrel
    have Heq := hide heq
    clear heq
    by_cases hlt : k < l.length
    · obtain ⟨bb, off, rfl, hbb, hAt⟩ := unhide HA (by omega)
      obtain ⟨x, hx, hd⟩ := get_at hlt
      have Hd := hide hd
      clear hd
      have ki0 : (0 : Int) ≤ (k : Int) := by omega
      have ki1 : (k : Int) < (l.length : Int) := by omega
      obtain ⟨g0, g1⟩ := hAt.below hbel hbb k x hx
      have Hx := hide hx
      clear hx
      cases hq : (x.1.toList == s.toList) with
      | true =>
        have Hy := hide (kind_yes (unhide Heq) (unhide Hd) hq)
        go_wp2
        go_ret
        exact ⟨ret_int (unhide Hy).symm, hbel.alloc hbel.size _⟩
      | false =>
        have Hy := hide (kind_no (unhide Heq) (unhide Hd) hq)
        go_wp2
        go_roundw
        case rel => exact ⟨k + 1, by omega, by go_num, hbel.alloc hbel.size _, unhide Hy⟩
        case measure => simp [intOf]; omega
    · obtain rfl : k = l.length := by omega
      have Hy := hide (kind_end (unhide Heq) hlt)
      go_wp2
      go_ret
      exact ⟨ret_int (unhide Hy).symm, hbel⟩

set_option maxHeartbeats 1000000 in
theorem refKind_any (p : Option Addr) (cap : Nat) (l : List (ByteArray × Int)) (s : ByteArray) (w : World) (hm : l.length ≤ 140737488355328) (hA : AtsOf w p l) :
    Calls Tryz.prog 34 #[.slice p l.length cap, .string s] w fun e w' => e = .returned (.int .i64 (kindOf l s)) ∧ Below w.heap.size w w' := by
  have HA := hide hA
  clear hA
  go_enter Tryz.func34, Tryz.ntmps34
  go_wp2
  go_loopw [5] (fun i wr => ∃ k : Nat, k ≤ l.length ∧ i = .int .i64 k ∧ Below w.heap.size w wr ∧ kindOf l s = kindOf (l.drop k) s) (fun i _ => l.length - (intOf i).toNat)
  case atStart => exact ⟨0, by omega, rfl, Below.refl _ _, by simp⟩
  case round =>
    obtain ⟨k, hk, rfl, hbel, heq⟩ := hrel
    have Heq := hide heq
    clear heq
    by_cases hlt : k < l.length
    · obtain ⟨bb, off, rfl, hbb, hAt⟩ := unhide HA (by omega)
      obtain ⟨x, hx, hd⟩ := get_at hlt
      have Hd := hide hd
      clear hd
      have ki0 : (0 : Int) ≤ (k : Int) := by omega
      have ki1 : (k : Int) < (l.length : Int) := by omega
      obtain ⟨g0, g1⟩ := hAt.below hbel hbb k x hx
      have Hx := hide hx
      clear hx
      cases hq : (x.1.toList == s.toList) with
      | true =>
        have Hy := hide (kind_yes (unhide Heq) (unhide Hd) hq)
        go_wp2
        go_ret
        exact ⟨ret_int (unhide Hy).symm, hbel⟩
      | false =>
        have Hy := hide (kind_no (unhide Heq) (unhide Hd) hq)
        go_wp2
        go_roundw
        case rel => exact ⟨k + 1, by omega, by go_num, hbel, unhide Hy⟩
        case measure => simp [intOf]; omega
    · obtain rfl : k = l.length := by omega
      have Hy := hide (kind_end (unhide Heq) hlt)
      go_wp2
      go_ret
      exact ⟨ret_int (unhide Hy).symm, hbel⟩

end Go.Proofs.YtencibjmiphinaaGreatDoor.Sc
namespace Go.Proofs.YtencibjmiphinaaGreatDoor
open Go.RowKit Go.Sort

def askd (k : Int) : Int := if k = 1 ∨ k = 3 then 1 else 2
mutual
/-- Each predicate asks for its attribute's kind. -/
def fitN (ats : List (ByteArray × Int)) : Nd → Bool
  | .mk kind attr _ _ _ _ op ks => if op = 1 then Sc.kindOf ats attr == askd kind else fitL ats ks
def fitL (ats : List (ByteArray × Int)) : List Nd → Bool
  | [] => true
  | x :: xs => fitN ats x && fitL ats xs
end
theorem fitL_take {ats : List (ByteArray × Int)} {l : List Nd} {k : Nat} {x : Nd} (h : l[k]? = some x) : fitL ats (l.take (k + 1)) = (fitL ats (l.take k) && fitN ats x) := by
  induction l generalizing k with
  | nil => simp at h
  | cons y l ih =>
    cases k with
    | zero => cases h; simp [fitL]
    | succ k =>
      have h' : l[k]? = some x := by simpa using h
      simp only [List.take_succ_cons, fitL, ih h', Bool.and_assoc]
theorem fitL_no {ats : List (ByteArray × Int)} {l : List Nd} {x : Nd} (h : x ∈ l) (hx : fitN ats x = false) : fitL ats l = false := by
  induction l with
  | nil => simp at h
  | cons y l ih =>
    rcases List.mem_cons.1 h with rfl | h
    · simp [fitL, hx]
    · simp [fitL, ih h]
theorem asked_any (k : Int) (w : World) : Calls Tryz.prog 69 #[.int .i64 k] w fun e w' => e = .returned (.int .i64 (askd k)) ∧ w' = w := by
  by_cases h1 : k = 1
  · have e1 : askd k = 1 := by simp [askd, h1]
    rw [e1]
    go_enter Tryz.func69, Tryz.ntmps69
    go_wp2
    go_ret
    exact ⟨rfl, rfl⟩
  · by_cases h3 : k = 3
    · have e1 : askd k = 1 := by simp [askd, h3]
      rw [e1]
      go_enter Tryz.func69, Tryz.ntmps69
      go_wp2
      go_ret
      exact ⟨rfl, rfl⟩
    · have e1 : askd k = 2 := by simp [askd, h3, h1]
      rw [e1]
      have b1 : (k == 1) = false := by simp [h1]
      have b3 : (k == 3) = false := by simp [h3]
      clear h1 h3 e1
      go_enter Tryz.func69, Tryz.ntmps69
      go_wp2
      go_ret
      exact ⟨rfl, rfl⟩
set_option maxHeartbeats 2000000 in
theorem fits_leaf (b : Nat) (ats : List (ByteArray × Int)) (hm : ats.length ≤ 140737488355328) (kind : Int) (attr : ByteArray) (qi : Option Addr) (ni ci : Nat) (qw : Option Addr) (nw cw : Nat) (lo hi : Int) (qk : Option Addr) (nk ck : Nat) (w : World) (hS : Sc.SchAt w b ats) :
    Calls Tryz.prog 39 #[.pointer (some ⟨b, 0, none⟩), .agg #[.int .i64 kind, .string attr, .slice qi ni ci, .slice qw nw cw, .int .i64 lo, .int .i64 hi, .int .i64 1, .slice qk nk ck]] w fun e w' => e = .returned (.bool (Sc.kindOf ats attr == askd kind)) ∧ RowKit.Below w.heap.size w w' := by
  have mixed : Tryz.prog.follows .mixedOrders = true := by kernel_rfl
  have en68 : ∀ args w, (callFunc 68 args).run Tryz.prog w = .ok (.enter 68 args) w := enters_of Tryz.func68 (by kernel_rfl) rfl
  have en69 : ∀ args w, (callFunc 69 args).run Tryz.prog w = .ok (.enter 69 args) w := enters_of Tryz.func69 (by kernel_rfl) rfl
  obtain ⟨W, HW⟩ : ∃ W, w.alloc (.cells #[.int .i64 kind, .string attr, .slice qi ni ci, .slice qw nw cw, .int .i64 lo, .int .i64 hi, .int .i64 1, .slice qk nk ck] 29) = W := ⟨_, rfl⟩
  have hB : RowKit.Below w.heap.size w W := by rw [← HW]; exact (RowKit.Below.refl _ _).alloc (Nat.le_refl _) _
  have hbx : W.heap[w.heap.size]? = some (.cells #[.int .i64 kind, .string attr, .slice qi ni ci, .slice qw nw cw, .int .i64 lo, .int .i64 hi, .int .i64 1, .slice qk nk ck] 29) := by rw [← HW]; exact box_nw _ _
  obtain ⟨c0, c1, c2, c3, c4, c5, c6, c7⟩ := of8' hbx
  have q68 := fun (n : Nat) (os : Array Obj) => Sc.kind_any b ats attr (grow (redrawn W n) os) hm ((hS.below hB).below (below_regrown W n os))
  have q69 := fun (n : Nat) (os : Array Obj) => (asked_any kind (grow (redrawn W n) os)).mono (R' := fun e w' => e = .returned (.int .i64 (askd kind)) ∧ RowKit.Below (grow (redrawn W n) os).heap.size (grow (redrawn W n) os) w') fun e w' h => ⟨h.1, by rw [h.2]; exact RowKit.Below.refl _ _⟩
  have k0 : ∀ n os, (grow (redrawn W n) os).cell? ⟨w.heap.size, 0, none⟩ = some _ := cell_regrown c0
  have k1 : ∀ n os, (grow (redrawn W n) os).cell? ⟨w.heap.size, 1, none⟩ = some _ := cell_regrown c1
  have HB := hide hB
  clear hS hB hbx c2 c3 c4 c5 c7
  go_enter Tryz.func39, Tryz.ntmps39
  go_wp2
  refine wp_region_quiet_below (by assumption) (by kernel_rfl) ?_
  repeat (go_big_quiet_step (first
    | (go_at_fn 68; refine Calls.regrown_of (q68 _ _))
    | (go_at_fn 69; refine Calls.regrown_of (q69 _ _))))
  refine wpQuiet_nil ?_
  intro _ hw'
  obtain ⟨⟨dq, osq⟩, hw''⟩ := hw'
  subst hw''
  go_wp2
  go_ret
  exact ⟨rfl, below_sub (unhide HB) (below_regrown _ _ _)⟩
set_option maxHeartbeats 2000000 in
theorem fits_any (b : Nat) (ats : List (ByteArray × Int)) (hm : ats.length ≤ 140737488355328) : ∀ (t : Nd) (v : Nv) (w : World), NdIn w v t → Sc.SchAt w b ats → sizeN t ≤ 1000000000 →
    Calls Tryz.prog 39 #[.pointer (some ⟨b, 0, none⟩), v.val] w fun e w' => e = .returned (.bool (fitN ats t)) ∧ RowKit.Below w.heap.size w w' := by
  intro t
  induction t using Nd.ind with
  | h kind attr ints words lo hi op kids ih =>
    intro v w hin hS hsz
    obtain ⟨qi, ci, qw, cw, qk, ck, rfl, hi1, hw1, hk⟩ := hin.parts
    by_cases hop : op = 1
    · subst hop
      have hx : fitN ats (.mk kind attr ints words lo hi 1 kids) = (Sc.kindOf ats attr == askd kind) := by simp only [fitN, if_true]
      rw [hx]
      exact fits_leaf b ats hm kind attr _ _ _ _ _ _ lo hi _ _ _ w hS
    · have hx : fitN ats (.mk kind attr ints words lo hi op kids) = fitL ats kids := by simp only [fitN, if_neg hop]
      rw [hx]
      simp only [sizeN] at hsz
      have hlen := len_size kids
      have IH := hide ih
      have HK := hide hk
      have HS := hide hS
      have a0 : (kids.length : Int) ≤ 1000000000 := by omega
      have hop' : (op == 1) = false := by simp [hop]
      clear ih hk hin hi1 hw1 hx hS hop
      simp only [Nv.val]
      go_enter Tryz.func39, Tryz.ntmps39
      go_wp2
      go_loopw [23] (fun i wr => ∃ k : Nat, k ≤ kids.length ∧ i = .int .i64 k ∧ fitL ats (kids.take k) = true ∧ RowKit.Below w.heap.size w wr) (fun i _ => kids.length - (intOf i).toNat)
      case atStart => exact ⟨0, by omega, rfl, rfl, (RowKit.Below.refl _ _).alloc (Nat.le_refl _) _⟩
      case round =>
        obtain ⟨k, hkk, rfl, hall, hbel⟩ := hrel
        by_cases hlt : k < kids.length
        · obtain ⟨x, hx, hxd⟩ := get_at hlt
          clear hxd
          obtain ⟨b', off, v', hq, hin, g0, g1, g2, g3, g4, g5, g6, g7⟩ := (unhide HK).on hx hbel
          subst hq
          have hxm : x ∈ kids := List.mem_of_getElem? hx
          have hxs := sizeL_mem hxm
          have ki0 : (0 : Int) ≤ (k : Int) := by omega
          have ki1 : (k : Int) < (kids.length : Int) := by omega
          have HIN := hide hin
          have HC := hide (unhide IH x hxm v')
          simp only [Nv.val] at HC
          have HB := hide hbel
          cases hf : fitN ats x with
          | true =>
            have HN := hide (show fitL ats (kids.take (k + 1)) = true by rw [fitL_take hx, hall, hf]; rfl)
            have HF := hide hf
            clear hin hx hbel hxm hall hf
            go_wp2_with (go_at_call 39; refine (unhide HC _ (by exact (unhide HIN).keep ((RowKit.Below.refl _ _).alloc (Nat.le_refl _) _)) ((unhide HS).below ((unhide HB).alloc (unhide HB).size _)) (by omega)).mono ?_; rintro e w1 ⟨rfl, hb1⟩; rw [unhide HF])
            exact ⟨⟨k + 1, by omega, by go_num, unhide HN, ((unhide HB).alloc (unhide HB).size _).trans (hb1.mono (by simp; have := (unhide HB).size; omega))⟩, by simp [intOf]; omega⟩
          | false =>
            have HN := hide (fitL_no hxm hf)
            have HF := hide hf
            clear hin hx hbel hxm hall hf
            go_wp2_with (go_at_call 39; refine (unhide HC _ (by exact (unhide HIN).keep ((RowKit.Below.refl _ _).alloc (Nat.le_refl _) _)) ((unhide HS).below ((unhide HB).alloc (unhide HB).size _)) (by omega)).mono ?_; rintro e w1 ⟨rfl, hb1⟩; rw [unhide HF])
            go_ret
            exact ⟨ret_bool (unhide HN).symm, ((unhide HB).alloc (unhide HB).size _).trans (hb1.mono (by simp; have := (unhide HB).size; omega))⟩
        · have ki1 : ¬ (k : Int) < (kids.length : Int) := by omega
          have HE := hide (List.take_of_length_le (l := kids) (i := k) (by omega))
          have HA := hide hall
          clear hall
          go_wp2
          go_ret
          exact ⟨ret_bool (by rw [unhide HE] at HA; exact (unhide HA).symm), hbel⟩
end Go.Proofs.YtencibjmiphinaaGreatDoor

/- Lists of attributes and of pairs in memory, and what Get, Kind and Len return of them, for every list. -/
import Derived.Test.YtojeihchkdkkgabName
namespace Go.Proofs.Ytojeihchkdkkgab
open Go.RowKit

/-- The block b holds the attributes l from off on. -/
def AtsAt (w : World) (b off : Nat) (l : List (ByteArray × Int)) : Prop :=
  ∀ (j : Nat) (x : ByteArray × Int), l[j]? = some x → w.cell? ⟨b, off + j * 2, none⟩ = some (.string x.1) ∧ w.cell? ⟨b, off + j * 2 + 1, none⟩ = some (.int .i64 x.2)
/-- A slice that begins at p holds the attributes l. -/
def AtsOf (w : World) (p : Option Addr) (l : List (ByteArray × Int)) : Prop :=
  0 < l.length → ∃ b off, p = some ⟨b, off, none⟩ ∧ b < w.heap.size ∧ AtsAt w b off l
/-- The block b holds the pairs l from off on. -/
def PrsAt (w : World) (b off : Nat) (l : List (ByteArray × Int × Int × ByteArray)) : Prop :=
  ∀ (j : Nat) (x : ByteArray × Int × Int × ByteArray), l[j]? = some x → w.cell? ⟨b, off + j * 4, none⟩ = some (.string x.1) ∧ w.cell? ⟨b, off + j * 4 + 1, none⟩ = some (.int .i64 x.2.1) ∧ w.cell? ⟨b, off + j * 4 + 2, none⟩ = some (.int .i64 x.2.2.1) ∧ w.cell? ⟨b, off + j * 4 + 3, none⟩ = some (.string x.2.2.2)
def PrsOf (w : World) (p : Option Addr) (l : List (ByteArray × Int × Int × ByteArray)) : Prop :=
  0 < l.length → ∃ b off, p = some ⟨b, off, none⟩ ∧ b < w.heap.size ∧ PrsAt w b off l
theorem AtsAt.below {B : Nat} {w w' : World} {b off : Nat} {l : List (ByteArray × Int)} (h : AtsAt w b off l) (hb : Below B w w') (hB : b < B) : AtsAt w' b off l := fun j x hj =>
  ⟨(hb.cell (by exact hB)).trans (h j x hj).1, (hb.cell (by exact hB)).trans (h j x hj).2⟩
theorem PrsAt.below {B : Nat} {w w' : World} {b off : Nat} {l : List (ByteArray × Int × Int × ByteArray)} (h : PrsAt w b off l) (hb : Below B w w') (hB : b < B) : PrsAt w' b off l := fun j x hj =>
  ⟨(hb.cell (by exact hB)).trans (h j x hj).1, (hb.cell (by exact hB)).trans (h j x hj).2.1, (hb.cell (by exact hB)).trans (h j x hj).2.2.1, (hb.cell (by exact hB)).trans (h j x hj).2.2.2⟩
theorem AtsOf.below {w w' : World} {p : Option Addr} {l : List (ByteArray × Int)} (h : AtsOf w p l) (hb : Below w.heap.size w w') : AtsOf w' p l := fun h0 => by
  obtain ⟨b, off, rfl, hB, hA⟩ := h h0
  exact ⟨b, off, rfl, Nat.lt_of_lt_of_le hB hb.size, hA.below hb hB⟩
theorem PrsOf.below {w w' : World} {p : Option Addr} {l : List (ByteArray × Int × Int × ByteArray)} (h : PrsOf w p l) (hb : Below w.heap.size w w') : PrsOf w' p l := fun h0 => by
  obtain ⟨b, off, rfl, hB, hA⟩ := h h0
  exact ⟨b, off, rfl, Nat.lt_of_lt_of_le hB hb.size, hA.below hb hB⟩
theorem AtsOf.nil (w : World) (p : Option Addr) : AtsOf w p [] := fun h => absurd h (by simp)
theorem PrsOf.nil (w : World) (p : Option Addr) : PrsOf w p [] := fun h => absurd h (by simp)
theorem get_at {α : Type} {l : List α} {k : Nat} (h : k < l.length) : ∃ x, l[k]? = some x ∧ l.drop k = x :: l.drop (k + 1) := ⟨l[k], List.getElem?_eq_getElem h, List.drop_eq_getElem_cons h⟩

/-- The kind of the first attribute of the name; 0: none. -/
def kindOf : List (ByteArray × Int) → ByteArray → Int
  | [], _ => 0
  | x :: r, s => if x.1.toList == s.toList then x.2 else kindOf r s
/-- The first pair of the name. -/
def getOf : List (ByteArray × Int × Int × ByteArray) → ByteArray → Option (Int × Int × ByteArray)
  | [], _ => none
  | x :: r, s => if x.1.toList == s.toList then some x.2 else getOf r s
theorem kind_yes {l : List (ByteArray × Int)} {s : ByteArray} {k : Nat} {x : ByteArray × Int} (hk : kindOf l s = kindOf (l.drop k) s) (hd : l.drop k = x :: l.drop (k + 1)) (h : (x.1.toList == s.toList) = true) : kindOf l s = x.2 := by
  rw [hk, hd]; unfold kindOf; rw [if_pos h]
theorem kind_no {l : List (ByteArray × Int)} {s : ByteArray} {k : Nat} {x : ByteArray × Int} (hk : kindOf l s = kindOf (l.drop k) s) (hd : l.drop k = x :: l.drop (k + 1)) (h : (x.1.toList == s.toList) = false) : kindOf l s = kindOf (l.drop (k + 1)) s := by
  rw [hk, hd]; conv => lhs; unfold kindOf; rw [if_neg (by simp [h])]
theorem kind_end {l : List (ByteArray × Int)} {s : ByteArray} {k : Nat} (hk : kindOf l s = kindOf (l.drop k) s) (h : ¬ k < l.length) : kindOf l s = 0 := by
  rw [hk, List.drop_of_length_le (by omega)]; rfl
theorem get_yes {l : List (ByteArray × Int × Int × ByteArray)} {s : ByteArray} {k : Nat} {x : ByteArray × Int × Int × ByteArray} (hk : getOf l s = getOf (l.drop k) s) (hd : l.drop k = x :: l.drop (k + 1)) (h : (x.1.toList == s.toList) = true) : getOf l s = some x.2 := by
  rw [hk, hd]; unfold getOf; rw [if_pos h]
theorem get_no {l : List (ByteArray × Int × Int × ByteArray)} {s : ByteArray} {k : Nat} {x : ByteArray × Int × Int × ByteArray} (hk : getOf l s = getOf (l.drop k) s) (hd : l.drop k = x :: l.drop (k + 1)) (h : (x.1.toList == s.toList) = false) : getOf l s = getOf (l.drop (k + 1)) s := by
  rw [hk, hd]; conv => lhs; unfold getOf; rw [if_neg (by simp [h])]
theorem get_end {l : List (ByteArray × Int × Int × ByteArray)} {s : ByteArray} {k : Nat} (hk : getOf l s = getOf (l.drop k) s) (h : ¬ k < l.length) : getOf l s = none := by
  rw [hk, List.drop_of_length_le (by omega)]; rfl

/-- The schema at b holds the attributes l. -/
def SchAt (w : World) (b : Nat) (l : List (ByteArray × Int)) : Prop :=
  b < w.heap.size ∧ ∃ p cap, w.cell? ⟨b, 0, none⟩ = some (.slice p l.length cap) ∧ AtsOf w p l ∧ (p = none → l.length = 0 ∧ cap = 0)
theorem SchAt.below {w w' : World} {b : Nat} {l : List (ByteArray × Int)} (h : SchAt w b l) (hb : Below w.heap.size w w') : SchAt w' b l := by
  obtain ⟨h0, p, cap, hc, hA, hp⟩ := h
  exact ⟨Nat.lt_of_lt_of_le h0 hb.size, p, cap, (hb.cell (by exact h0)).trans hc, hA.below hb, hp⟩

set_option maxHeartbeats 1000000 in
theorem kind_any (b : Nat) (l : List (ByteArray × Int)) (s : ByteArray) (w : World) (hm : l.length ≤ 140737488355328) (hS : SchAt w b l) :
    Calls Try.prog 17 #[.pointer (some ⟨b, 0, none⟩), .string s] w fun e w' => e = .returned (.int .i64 (kindOf l s)) ∧ Below w.heap.size w w' := by
  obtain ⟨h0, p, cap, hc, hA, _⟩ := hS
  have HA := hide hA
  clear hA
  go_enter Try.func17, Try.ntmps17
  go_wp2
  go_loopw [12] (fun i wr => ∃ k : Nat, k ≤ l.length ∧ i = .int .i64 k ∧ Below w.heap.size w wr ∧ kindOf l s = kindOf (l.drop k) s) (fun i _ => l.length - (intOf i).toNat)
  case atStart => exact ⟨0, by omega, rfl, Below.refl _ _, by simp⟩
  case round =>
    obtain ⟨k, hk, rfl, hbel, heq⟩ := hrel
    have Heq := hide heq
    clear heq
    by_cases hlt : k < l.length
    · obtain ⟨bb, off, rfl, hbb, hAt⟩ := unhide HA (by omega)
      obtain ⟨x, hx, hd⟩ := get_at hlt
      have Hd := hide hd
      clear hd
      have ki0 : (0 : Int) ≤ (k : Int) := by omega
      have ki1 : (k : Int) < (l.length : Int) := by omega
      obtain ⟨g0, g1⟩ := hAt.below hbel hbb k x hx
      have Hx := hide hx
      clear hx
      cases hq : (x.1.toList == s.toList) with
      | true =>
        have Hy := hide (kind_yes (unhide Heq) (unhide Hd) hq)
        go_wp2
        go_ret
        exact ⟨ret_int (unhide Hy).symm, hbel.alloc hbel.size _⟩
      | false =>
        have Hy := hide (kind_no (unhide Heq) (unhide Hd) hq)
        go_wp2
        go_roundw
        case rel => exact ⟨k + 1, by omega, by go_num, hbel.alloc hbel.size _, unhide Hy⟩
        case measure => simp [intOf]; omega
    · obtain rfl : k = l.length := by omega
      have Hy := hide (kind_end (unhide Heq) hlt)
      go_wp2
      go_ret
      exact ⟨ret_int (unhide Hy).symm, hbel⟩

set_option maxHeartbeats 1000000 in
theorem refKind_any (p : Option Addr) (cap : Nat) (l : List (ByteArray × Int)) (s : ByteArray) (w : World) (hm : l.length ≤ 140737488355328) (hA : AtsOf w p l) :
    Calls Try.prog 18 #[.slice p l.length cap, .string s] w fun e w' => e = .returned (.int .i64 (kindOf l s)) ∧ Below w.heap.size w w' := by
  have HA := hide hA
  clear hA
  go_enter Try.func18, Try.ntmps18
  go_wp2
  go_loopw [5] (fun i wr => ∃ k : Nat, k ≤ l.length ∧ i = .int .i64 k ∧ Below w.heap.size w wr ∧ kindOf l s = kindOf (l.drop k) s) (fun i _ => l.length - (intOf i).toNat)
  case atStart => exact ⟨0, by omega, rfl, Below.refl _ _, by simp⟩
  case round =>
    obtain ⟨k, hk, rfl, hbel, heq⟩ := hrel
    have Heq := hide heq
    clear heq
    by_cases hlt : k < l.length
    · obtain ⟨bb, off, rfl, hbb, hAt⟩ := unhide HA (by omega)
      obtain ⟨x, hx, hd⟩ := get_at hlt
      have Hd := hide hd
      clear hd
      have ki0 : (0 : Int) ≤ (k : Int) := by omega
      have ki1 : (k : Int) < (l.length : Int) := by omega
      obtain ⟨g0, g1⟩ := hAt.below hbel hbb k x hx
      have Hx := hide hx
      clear hx
      cases hq : (x.1.toList == s.toList) with
      | true =>
        have Hy := hide (kind_yes (unhide Heq) (unhide Hd) hq)
        go_wp2
        go_ret
        exact ⟨ret_int (unhide Hy).symm, hbel⟩
      | false =>
        have Hy := hide (kind_no (unhide Heq) (unhide Hd) hq)
        go_wp2
        go_roundw
        case rel => exact ⟨k + 1, by omega, by go_num, hbel, unhide Hy⟩
        case measure => simp [intOf]; omega
    · obtain rfl : k = l.length := by omega
      have Hy := hide (kind_end (unhide Heq) hlt)
      go_wp2
      go_ret
      exact ⟨ret_int (unhide Hy).symm, hbel⟩

theorem len_any (b : Nat) (l : List (ByteArray × Int)) (w : World) (hS : SchAt w b l) :
    Calls Try.prog 15 #[.pointer (some ⟨b, 0, none⟩)] w fun e w' => e = .returned (.int .i64 l.length) ∧ w' = w := by
  obtain ⟨h0, p, cap, hc, _, _⟩ := hS
  go_enter Try.func15, Try.ntmps15
  go_wp2
  go_ret
  exact ⟨rfl, rfl⟩
end Go.Proofs.Ytojeihchkdkkgab

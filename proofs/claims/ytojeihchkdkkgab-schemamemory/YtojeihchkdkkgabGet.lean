/- What schema.Get and the reference's Get return, for every list of pairs and every name: the same. -/
import Derived.Test.YtojeihchkdkkgabLists
namespace Go.Proofs.Ytojeihchkdkkgab
open Go.RowKit

/-- The block b holds one value, and may be written. -/
def Box (w : World) (b : Nat) (x : Int × Int × ByteArray) : Prop :=
  w.cell? ⟨b, 0, none⟩ = some (.int .i64 x.1) ∧ w.cell? ⟨b, 1, none⟩ = some (.int .i64 x.2.1) ∧ w.cell? ⟨b, 2, none⟩ = some (.string x.2.2) ∧ (∀ o, w.frozen? ⟨b, o, none⟩ = false) ∧ b < w.heap.size
theorem Box.belowAt {B : Nat} {w w' : World} {b : Nat} {x : Int × Int × ByteArray} (h : Box w b x) (hb : Below B w w') (hB : b < B) : Box w' b x := by
  obtain ⟨h1, h2, h3, h4, h5⟩ := h
  exact ⟨(hb.cell (by exact hB)).trans h1, (hb.cell (by exact hB)).trans h2, (hb.cell (by exact hB)).trans h3, fun o => (hb.frozen (by exact hB)).trans (h4 o), Nat.lt_of_lt_of_le h5 hb.size⟩
theorem Box.below {w w' : World} {b : Nat} {x : Int × Int × ByteArray} (h : Box w b x) (hb : Below w.heap.size w w') : Box w' b x := h.belowAt hb h.2.2.2.2
def put3 (w : World) (b : Nat) (y : Int × Int × ByteArray) : World := ((w.setCell ⟨b, 0, none⟩ (.int .i64 y.1)).setCell ⟨b, 1, none⟩ (.int .i64 y.2.1)).setCell ⟨b, 2, none⟩ (.string y.2.2)
theorem below_put3 {B : Nat} (w : World) (b : Nat) (y : Int × Int × ByteArray) (h : B ≤ b) : Below B w (put3 w b y) :=
  (((Below.refl _ _).setCell h _).setCell h _).setCell h _
theorem Box.put {w : World} {b : Nat} {x : Int × Int × ByteArray} (h : Box w b x) (y : Int × Int × ByteArray) : Box (put3 w b y) b y := by
  obtain ⟨h1, h2, h3, h4, h5⟩ := h
  unfold put3
  refine ⟨?_, ?_, ?_, fun o => ?_, ?_⟩
  · go_simp
  · go_simp
  · go_simp
  · go_simp
  · simpa [World.setCell] using h5
theorem Box.new (w : World) (x : Int × Int × ByteArray) (t : TypeId) : Box (w.alloc (.cells #[.int .i64 x.1, .int .i64 x.2.1, .string x.2.2] t)) w.heap.size x := by
  refine ⟨?_, ?_, ?_, fun o => ?_, by simp⟩ <;> simp
theorem Box.alloc {w : World} {b : Nat} {x : Int × Int × ByteArray} (h : Box w b x) (o : Obj) : Box (w.alloc o) b x := h.below ((Below.refl _ _).alloc (Nat.le_refl _) _)

/-- What Get returns. -/
def getV (o : Option (Int × Int × ByteArray)) : Value :=
  match o with
  | some y => .tuple #[.agg #[.int .i64 y.1, .int .i64 y.2.1, .string y.2.2], .bool true]
  | none => .tuple #[.agg #[.int .i64 0, .int .i64 0, .string ⟨#[]⟩], .bool false]

set_option maxHeartbeats 1000000 in
theorem get_any (p : Option Addr) (cap : Nat) (l : List (ByteArray × Int × Int × ByteArray)) (s : ByteArray) (w : World) (hm : l.length ≤ 140737488355328) (hA : PrsOf w p l) :
    Calls Try.prog 21 #[.slice p l.length cap, .string s] w fun e w' => e = .returned (getV (getOf l s)) ∧ Below w.heap.size w w' := by
  have HA := hide hA
  clear hA
  go_enter Try.func21, Try.ntmps21
  go_wp2
  go_loopw [10] (fun i wr => ∃ k : Nat, k ≤ l.length ∧ i = .int .i64 k ∧ Below w.heap.size w wr ∧ Box wr w.heap.size (0, 0, ⟨#[]⟩) ∧ getOf l s = getOf (l.drop k) s) (fun i _ => l.length - (intOf i).toNat)
  case atStart => exact ⟨0, by omega, rfl, (Below.refl _ _).alloc (Nat.le_refl _) _, Box.new w (0, 0, ⟨#[]⟩) 45, by simp⟩
  case round =>
    obtain ⟨k, hk, rfl, hbel, hbox, heq⟩ := hrel
    have Heq := hide heq
    clear heq
    by_cases hlt : k < l.length
    · obtain ⟨bb, off, rfl, hbb, hAt⟩ := unhide HA (by omega)
      obtain ⟨x, hx, hd⟩ := get_at hlt
      have Hd := hide hd
      clear hd
      have ki0 : (0 : Int) ≤ (k : Int) := by omega
      have ki1 : (k : Int) < (l.length : Int) := by omega
      obtain ⟨g0, g1, g2, g3⟩ := hAt.below hbel hbb k x hx
      have Hx := hide hx
      clear hx
      cases hq : (x.1.toList == s.toList) with
      | true =>
        have Hy := hide (get_yes (unhide Heq) (unhide Hd) hq)
        have Hb := hide hbox
        obtain ⟨r0, r1, r2, fr0, sz0⟩ := hbox
        simp only at r0 r1 r2
        go_wp2
        obtain ⟨z0, z1, z2, _, _⟩ := ((unhide Hb).put x.2).alloc (.cells #[.string x.1, .int .i64 x.2.1, .int .i64 x.2.2.1, .string x.2.2.2] 52)
        unfold put3 at z0 z1 z2
        refine bodyPost_ret (v := .tuple #[.agg #[.int .i64 x.2.1, .int .i64 x.2.2.1, .string x.2.2.2], .bool true]) (by simp [results, Try.results21, go_sem, z0, z1, z2]) rfl ⟨by rw [unhide Hy]; rfl, ?_⟩
        have hq2 := hbel.trans (below_put3 wr w.heap.size x.2 (Nat.le_refl _))
        exact hq2.alloc hq2.size _
      | false =>
        have Hy := hide (get_no (unhide Heq) (unhide Hd) hq)
        have Hb := hide (hbox.alloc (.cells #[.string x.1, .int .i64 x.2.1, .int .i64 x.2.2.1, .string x.2.2.2] 52))
        clear hbox
        go_wp2
        go_roundw
        case rel => exact ⟨k + 1, by omega, by go_num, hbel.alloc hbel.size _, unhide Hb, unhide Hy⟩
        case measure => simp [intOf]; omega
    · obtain rfl : k = l.length := by omega
      have Hy := hide (get_end (unhide Heq) hlt)
      have Hb := hide hbox
      obtain ⟨r0, r1, r2, fr0, sz0⟩ := hbox
      simp only at r0 r1 r2
      go_wp2
      have hb3 := (unhide Hb).put (0, 0, ⟨#[]⟩)
      obtain ⟨z0, z1, z2, _, _⟩ := hb3
      unfold put3 at z0 z1 z2
      refine bodyPost_ret (v := .tuple #[.agg #[.int .i64 0, .int .i64 0, .string ⟨#[]⟩], .bool false]) (by simp [results, Try.results21, go_sem, r0, r1, r2]) rfl ⟨by rw [unhide Hy]; rfl, ?_⟩
      exact hbel.trans (below_put3 _ w.heap.size (0, 0, ⟨#[]⟩) (Nat.le_refl _))

set_option maxHeartbeats 1000000 in
theorem refGet_any (p : Option Addr) (cap : Nat) (l : List (ByteArray × Int × Int × ByteArray)) (s : ByteArray) (w : World) (hm : l.length ≤ 140737488355328) (hA : PrsOf w p l) :
    Calls Try.prog 22 #[.slice p l.length cap, .string s] w fun e w' => e = .returned (getV (getOf l s)) ∧ Below w.heap.size w w' := by
  have HA := hide hA
  clear hA
  go_enter Try.func22, Try.ntmps22
  go_wp2
  go_loopw [6] (fun i wr => ∃ k : Nat, k ≤ l.length ∧ i = .int .i64 k ∧ Below w.heap.size w wr ∧ Box wr w.heap.size (0, 0, ⟨#[]⟩) ∧ getOf l s = getOf (l.drop k) s) (fun i _ => l.length - (intOf i).toNat)
  case atStart => exact ⟨0, by omega, rfl, (Below.refl _ _).alloc (Nat.le_refl _) _, Box.new w (0, 0, ⟨#[]⟩) 45, by simp⟩
  case round =>
    obtain ⟨k, hk, rfl, hbel, hbox, heq⟩ := hrel
    have Heq := hide heq
    clear heq
    by_cases hlt : k < l.length
    · obtain ⟨bb, off, rfl, hbb, hAt⟩ := unhide HA (by omega)
      obtain ⟨x, hx, hd⟩ := get_at hlt
      have Hd := hide hd
      clear hd
      have ki0 : (0 : Int) ≤ (k : Int) := by omega
      have ki1 : (k : Int) < (l.length : Int) := by omega
      obtain ⟨g0, g1, g2, g3⟩ := hAt.below hbel hbb k x hx
      have Hx := hide hx
      clear hx
      cases hq : (x.1.toList == s.toList) with
      | true =>
        have Hy := hide (get_yes (unhide Heq) (unhide Hd) hq)
        have Hb := hide hbox
        obtain ⟨r0, r1, r2, fr0, sz0⟩ := hbox
        simp only at r0 r1 r2
        go_wp2
        have hb3 := (unhide Hb).put x.2
        obtain ⟨z0, z1, z2, _, _⟩ := hb3
        unfold put3 at z0 z1 z2
        refine bodyPost_ret (v := .tuple #[.agg #[.int .i64 x.2.1, .int .i64 x.2.2.1, .string x.2.2.2], .bool true]) (by simp [results, Try.results22, go_sem, r0, r1, r2]) rfl ⟨by rw [unhide Hy]; rfl, ?_⟩
        exact hbel.trans (below_put3 _ w.heap.size x.2 (Nat.le_refl _))
      | false =>
        have Hy := hide (get_no (unhide Heq) (unhide Hd) hq)
        have Hb := hide hbox
        clear hbox
        go_wp2
        go_roundw
        case rel => exact ⟨k + 1, by omega, by go_num, hbel, unhide Hb, unhide Hy⟩
        case measure => simp [intOf]; omega
    · obtain rfl : k = l.length := by omega
      have Hy := hide (get_end (unhide Heq) hlt)
      have Hb := hide hbox
      obtain ⟨r0, r1, r2, fr0, sz0⟩ := hbox
      simp only at r0 r1 r2
      go_wp2
      have hb3 := (unhide Hb).put (0, 0, ⟨#[]⟩)
      obtain ⟨z0, z1, z2, _, _⟩ := hb3
      unfold put3 at z0 z1 z2
      refine bodyPost_ret (v := .tuple #[.agg #[.int .i64 0, .int .i64 0, .string ⟨#[]⟩], .bool false]) (by simp [results, Try.results22, go_sem, r0, r1, r2]) rfl ⟨by rw [unhide Hy]; rfl, ?_⟩
      exact hbel.trans (below_put3 _ w.heap.size (0, 0, ⟨#[]⟩) (Nat.le_refl _))
end Go.Proofs.Ytojeihchkdkkgab

/- What value.Quote returns: the bytes of a text written within quotation marks, byte by byte. -/
import Derived.Test.YtcjkjhblmalbhaaLeaf
import Derived.Deep.AppendLies
namespace Go.Proofs.Ytcjkjhblmalbhaa
open Go.RowKit

theorem Try.info5 : (Try.prog.info? 5).map (fun i => (i.zero, i.size, i.bytes)) = some (some (.int .u8 0), 1, 1) := by kernel_rfl

/-- A byte as a cell. -/
def bv (b : UInt8) : Value := .int .u8 (b.toNat : Int)
/-- The slice v owns the bytes l, in blocks from B on. -/
def Row (B : Nat) (w : World) (v : Value) (l : List UInt8) : Prop := w.ownsRow B 5 1 v l.length (l.map bv)

def hexd (n : Nat) : UInt8 := if n < 10 then UInt8.ofNat (48 + n) else UInt8.ofNat (87 + n)
def needs (c : UInt8) : Bool := c == 34 || c == 92
def prints (c : UInt8) : Bool := decide (32 ≤ c.toNat) && decide (c.toNat ≤ 126)
/-- How a byte is written. -/
def esc (c : UInt8) : List UInt8 :=
  if needs c then [92, c] else if prints c then [c] else [92, 120, hexd (c.toNat / 16), hexd (c.toNat % 16)]
theorem esc_le (c : UInt8) : (esc c).length ≤ 4 := by unfold esc; split; simp; split <;> simp

theorem needs_eq (c : UInt8) : needs c = (((c.toNat : Int) == 34) || ((c.toNat : Int) == 92)) := by
  unfold needs; rw [Bool.eq_iff_iff]; simp [← UInt8.toNat_inj]; omega
theorem prints_eq (c : UInt8) : prints c = (decide (32 ≤ (c.toNat : Int)) && decide ((c.toNat : Int) ≤ 126)) := by
  unfold prints; rw [Bool.eq_iff_iff]; simp; omega
theorem bv_one (l : List UInt8) : ∀ u ∈ l.map bv, u.oneCell' = true := by
  intro u hu; obtain ⟨b, _, rfl⟩ := List.mem_map.1 hu; rfl

theorem hexAt_hi (c : UInt8) : c.toNat / 16 < 16 := by have := c.toNat_lt; omega
theorem grown_row {B : Nat} {w w1 w2 : World} {v : Value} {l : List UInt8} (hown : w.ownsRow B 5 1 v l.length (l.map bv)) (hB : B ≤ w.heap.size) (h1 : Below B w w1) (hs : w.heap.size ≤ w1.heap.size) (hg : w1.grownBy w2 v.ownBlock) : Below B w w2 :=
  h1.grown hg (by omega) (fun k hk => (hown.lt k hk).1)
theorem row_of {B : Nat} {w : World} {v : Value} {l m : List UInt8} {k : Nat} (hk : m.length = k) (h : w.ownsRow B 5 1 v (l.length + k) (l.map bv ++ m.map bv)) : Row B w v (l ++ m) := by
  unfold Row; rw [List.length_append, List.map_append, hk]; exact h

theorem hexAt : ∀ (n : Nat) (h : n < (ByteArray.mk #[48, 49, 50, 51, 52, 53, 54, 55, 56, 57, 97, 98, 99, 100, 101, 102]).size), (ByteArray.mk #[48, 49, 50, 51, 52, 53, 54, 55, 56, 57, 97, 98, 99, 100, 101, 102])[n] = hexd n := by
  intro n h
  have h16 : n < 16 := h
  match n, h, h16 with
  | 0, _, _ => rfl
  | 1, _, _ => rfl
  | 2, _, _ => rfl
  | 3, _, _ => rfl
  | 4, _, _ => rfl
  | 5, _, _ => rfl
  | 6, _, _ => rfl
  | 7, _, _ => rfl
  | 8, _, _ => rfl
  | 9, _, _ => rfl
  | 10, _, _ => rfl
  | 11, _, _ => rfl
  | 12, _, _ => rfl
  | 13, _, _ => rfl
  | 14, _, _ => rfl
  | 15, _, _ => rfl
  | n + 16, _, h => exact absurd h (by omega)

/-- What is written of a text, without its marks. -/
def escs (l : List UInt8) : List UInt8 := l.flatMap esc
def quoteL (l : List UInt8) : List UInt8 := 34 :: escs l ++ [34]
theorem escs_le (l : List UInt8) : (escs l).length ≤ 4 * l.length := by
  induction l with
  | nil => simp [escs]
  | cons c l ih => have := esc_le c; simp [escs] at *; omega
theorem escs_snoc (l : List UInt8) (c : UInt8) : escs (l ++ [c]) = escs l ++ esc c := by simp [escs]
theorem take_snoc (s : ByteArray) (k : Nat) (h : k < s.size) : s.data.toList.take (k + 1) = s.data.toList.take k ++ [s[k]] := by
  rw [List.take_succ_eq_append_getElem (by simpa using h)]; rfl

theorem ret_str {a b : List UInt8} (h : a = b) : Ending.returned (.string ⟨a.toArray⟩) = .returned (.string ⟨b.toArray⟩) := by rw [h]
theorem news1 {w : World} {c : UInt8} {t : TypeId} : ∀ (j : Nat) (u : Value), [bv c][j]? = some u → (w.alloc (.cells #[.int .u8 (c.toNat : Int)] t)).cell? ((⟨w.heap.size, 0, none⟩ : Addr).add j) = some u :=
  World.news_of_block (cs := #[.int .u8 (c.toNat : Int)]) (heap_alloc_new _ _)
theorem size_ge {B : Nat} {a w : World} (h : Below B a w) : a.heap.size ≤ w.heap.size := h.size
theorem quote_first {w w1 w2 : World} {v : Value} {o : Obj} (hg1 : w.grownBy w1 none) (hown : w2.ownsRow w.heap.size 5 1 v 1 [bv 34]) {s : Nat} (hg2 : (w1.alloc o).grownBy w2 (Value.slice (some ⟨w.heap.size, 0, none⟩) 0 s).ownBlock) :
    Row w.heap.size w2 v (34 :: escs []) ∧ Below w.heap.size w w2 := by
  refine ⟨hown, ?_⟩
  have h1 : Below w.heap.size w w1 := (Below.refl _ _).grown hg1 (Nat.le_refl _) (fun k hk => by cases hk)
  have := h1.size
  exact (h1.alloc this _).grown hg2 (by simp; omega) (fun k hk => by simp [Value.ownBlock] at hk; omega)

end Go.Proofs.Ytcjkjhblmalbhaa

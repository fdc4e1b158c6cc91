/- Calls with literals; disks of one file and of two. -/
import Derived.Test.YtoncnfncgmaknaaOldRen
namespace Go.Proofs.Ytoncnfncgmaknaa.Old
open Go.RowKit Go.Sort Go.Shelf

abbrev nA : ByteArray := ⟨#[97]⟩
abbrev nB : ByteArray := ⟨#[98]⟩
abbrev nC : ByteArray := ⟨#[99]⟩
abbrev nF : ByteArray := ⟨#[102]⟩
theorem okA : nameOk nA = true := by decide
theorem okB' : nameOk nB = true := by decide
theorem okC : nameOk nC = true := by decide
theorem okF : nameOk nF = true := by decide
theorem neAB : nA ≠ nB := by decide
theorem neAC : nA ≠ nC := by decide
/-- Bytes in a new block. -/
theorem slAB (w : World) (l : List UInt8) (hl : l.length ≤ 100) : SlOf encB 1 (w.alloc (.cells (l.map bv).toArray 5)) (some ⟨w.heap.size, 0, none⟩) l.length l := by
  refine ⟨(fun h => by cases h), Nat.le_refl _, by unfold maxLen; omega, fun _ => ⟨w.heap.size, 0, rfl, by simp, fun j u hj => ?_⟩⟩
  rw [Nat.zero_add, cellA]
  rw [flatB] at hj
  simpa using hj
def iv (x : Int) : Value := .int .i64 x
theorem flatI (l : List Int) : (flatK encI 1 l.toArray).toList = l.map iv := by
  apply List.ext_getElem?
  intro j
  by_cases hj : j < l.length
  · obtain ⟨x, hx, _⟩ := get_at hj
    have := flat_at (enc := encI) (k := 1) hx 0 (by omega)
    rw [Nat.mul_one, Nat.add_zero] at this
    rw [this, List.getElem?_map, hx]; rfl
  · rw [List.getElem?_eq_none (by simp [flatK]; omega), List.getElem?_eq_none (by simp; omega)]
theorem slAI (w : World) (l : List Int) (hl : l.length ≤ 100) : SlOf encI 1 (w.alloc (.cells (l.map iv).toArray 3)) (some ⟨w.heap.size, 0, none⟩) l.length l := by
  refine ⟨(fun h => by cases h), Nat.le_refl _, by unfold maxLen; omega, fun _ => ⟨w.heap.size, 0, rfl, by simp, fun j u hj => ?_⟩⟩
  rw [Nat.zero_add, cellA]
  rw [flatI] at hj
  simpa using hj
theorem grow_some {s : Dk} {nm : ByteArray} {fl : Fl} (h : s.get nm = some fl) (data : List UInt8) : growS s nm data = { s with get := upd s.get nm (some ⟨fl.bytes ++ data, fl.lasts⟩) } := by unfold growS; rw [h]
theorem grow_none {s : Dk} {nm : ByteArray} (h : s.get nm = none) (data : List UInt8) : growS s nm data = { s with get := upd s.get nm (some ⟨data, 0⟩), n := s.n + 1 } := by unfold growS; rw [h]
/-- A disk of one file. -/
def one (nm : ByteArray) (bs : List UInt8) (l n acts : Nat) (off : Bool) (named : Nat) (part : Int) : Dk := ⟨upd (fun _ => none) nm (some ⟨bs, l⟩), n, acts, off, named, part⟩
theorem one_get (nm : ByteArray) (bs : List UInt8) (l n acts : Nat) (off : Bool) (named : Nat) (part : Int) : (one nm bs l n acts off named part).get nm = some ⟨bs, l⟩ := by
  simp only [one, upd_same]
theorem one_other {nm x : ByteArray} (h : x ≠ nm) (bs : List UInt8) (l n acts : Nat) (off : Bool) (named : Nat) (part : Int) : (one nm bs l n acts off named part).get x = none := by
  simp only [one, upd_ne _ _ h]
theorem names_one {α : Type} {f : ByteArray → Option α} {l : List ByteArray} {nm : ByteArray} (h : NamesOf f l) (hf : ∀ x, (f x).isSome = true ↔ x = nm) : l = [nm] := by
  have hm : ∀ x, x ∈ l ↔ x = nm := fun x => (h.2 x).trans (hf x)
  match l, h, hm with
  | [], _, hm => have := (hm nm).2 rfl; cases this
  | [a], _, hm => rw [(hm a).1 (by simp)]
  | a :: b :: r, h, hm =>
    exfalso
    have e1 := (hm a).1 (by simp)
    have e2 := (hm b).1 (by simp)
    exact names_ne h (i := 0) (j := 1) (by omega) rfl rfl (e1.trans e2.symm)
theorem one_some (nm : ByteArray) (bs : List UInt8) (l n acts : Nat) (off : Bool) (named : Nat) (part : Int) (x : ByteArray) : ((one nm bs l n acts off named part).get x).isSome = true ↔ x = nm := by
  by_cases e : x = nm
  · subst e; rw [one_get]; simp
  · rw [one_other e]; simp [e]
/-- What is found of a disk of one file. -/
theorem crash_one {B : Nat} {nm : ByteArray} {bs : List UInt8} {l n acts : Nat} {off : Bool} {named : Nat} {part : Int} {cs : List Int} {e : Ending} {w' : World} (h : CrashR B (one nm bs l n acts off named part) cs e w') :
    ∃ gf, e = .returned (.pointer (some ⟨gf, 0, none⟩)) ∧ DkAt B w' gf (one nm (foundF ⟨bs, l⟩ (chAt cs 0)).bytes (foundF ⟨bs, l⟩ (chAt cs 0)).lasts 1 0 false 0 0) := by
  obtain ⟨gf, ls, get', he, hn, hfg, hd⟩ := h
  obtain rfl := names_one hn (one_some nm bs l n acts off named part)
  refine ⟨gf, he, ?_⟩
  have h1 := hfg.1 0 nm ⟨bs, l⟩ (by simp) rfl (one_get _ _ _ _ _ _ _ _)
  have h2 : get' = upd (fun _ => none) nm (some (foundF ⟨bs, l⟩ (chAt cs 0))) := by
    funext x
    by_cases e : x = nm
    · subst e; rw [upd_same]; exact h1
    · rw [upd_ne _ _ e]
      exact hfg.2 x (by simpa using e)
  subst h2
  exact hd
/-- Append of bytes that were just laid out. -/
theorem app_lit (data : List UInt8) (hl : data.length ≤ 100) {B : Nat} {W : World} {g : Nat} {s : Dk} (hd : DkAt B W g s) (hB : B ≤ W.heap.size) {nm : ByteArray} (ho : s.off = false) (hk : nameOk nm = true) (h1 : s.named ≠ 1) (ha : s.acts ≤ 4611686018427387904) (hn : s.n < maxLen) (hl0 : ∀ fl, s.get nm = some fl → fl.bytes.length + data.length ≤ 140737488355328) :
    Calls Try.prog 8 #[.pointer (some ⟨g, 0, none⟩), .string nm, .slice (some ⟨W.heap.size, 0, none⟩) data.length data.length] (W.alloc (.cells (data.map bv).toArray 5)) fun e w' => e = .returned (.int .i64 0) ∧ DkAt B w' g (growS { s with named := s.named - 1, acts := s.acts + 1 } nm data) ∧ Below B W w' := by
  have hb : Below W.heap.size W (W.alloc (.cells (data.map bv).toArray 5)) := (Below.refl _ _).alloc (Nat.le_refl _) _
  refine (append_yes (hd.below hb) (Nat.le_trans hB hb.size) ho hk h1 ha hn _ _ data (slAB W data hl) hl0 (by omega)).mono ?_
  rintro e w' ⟨h1, h2, h3⟩
  exact ⟨h1, h2, (hb.mono hB).trans h3⟩
theorem app_down_lit (data : List UInt8) (hl : data.length ≤ 100) {B : Nat} {W : World} {g : Nat} {s : Dk} (hd : DkAt B W g s) (hB : B ≤ W.heap.size) {nm : ByteArray} (ho : s.off = false) (hk : nameOk nm = true) (h1 : s.named = 1) (hn : s.n < maxLen) (hl0 : ∀ fl, s.get nm = some fl → fl.bytes.length + data.length ≤ 140737488355328) :
    Calls Try.prog 8 #[.pointer (some ⟨g, 0, none⟩), .string nm, .slice (some ⟨W.heap.size, 0, none⟩) data.length data.length] (W.alloc (.cells (data.map bv).toArray 5)) fun e w' => e = .returned (.int .i64 40) ∧ DkAt B w' g (growS { s with off := true } nm (data.take (max s.part 0).toNat)) ∧ Below B W w' := by
  have hb : Below W.heap.size W (W.alloc (.cells (data.map bv).toArray 5)) := (Below.refl _ _).alloc (Nat.le_refl _) _
  refine (append_down (hd.below hb) (Nat.le_trans hB hb.size) ho hk h1 hn _ _ data (slAB W data hl) hl0 (by omega)).mono ?_
  rintro e w' ⟨h1, h2, h3⟩
  exact ⟨h1, h2, (hb.mono hB).trans h3⟩
/-- Crash with choices that were just laid out. -/
theorem crash_lit (cs : List Int) (hl : cs.length ≤ 100) {B : Nat} {W : World} {g : Nat} {s : Dk} (hd : DkAt B W g s) (hB : B ≤ W.heap.size) (hn : s.n ≤ 1000000000) (hl0 : ∀ nm fl, s.get nm = some fl → nm.size ≤ 32 ∧ fl.bytes.length ≤ 140737488355328) :
    Calls Try.prog 13 #[.pointer (some ⟨g, 0, none⟩), .slice (some ⟨W.heap.size, 0, none⟩) cs.length cs.length] (W.alloc (.cells (cs.map iv).toArray 3)) fun e w' => CrashR (W.heap.size + 1) s cs e w' ∧ DkAt B w' g { s with off := true } ∧ Below B W w' := by
  have hb : Below W.heap.size W (W.alloc (.cells (cs.map iv).toArray 3)) := (Below.refl _ _).alloc (Nat.le_refl _) _
  have hsz : (W.alloc (.cells (cs.map iv).toArray 3)).heap.size = W.heap.size + 1 := by simp
  have hgl : g < W.heap.size := by
    obtain ⟨m, h, q, c, hi⟩ := hd
    exact (Array.getElem?_eq_some_iff.1 hi.box).1
  have := crash_any (hd.below hb) (Nat.le_trans hB hb.size) hn hl0 _ _ cs (slAI W cs hl) (by omega) (by intro _ b off e; injection e with e; injection e with e; omega)
  rw [hsz] at this
  refine this.mono ?_
  rintro e w' ⟨h1, h2, h3⟩
  exact ⟨h1, h2, (hb.mono hB).trans h3⟩
end Go.Proofs.Ytoncnfncgmaknaa.Old

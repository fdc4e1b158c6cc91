/- Calls with literals; disks of one file and of two. -/
import Derived.Test.YtonhagoeajhacaaJh
namespace Go.Proofs.Ytonhagoeajhacaa.Old
open Go.RowKit Go.Sort Go.Shelf

abbrev nA : ByteArray := ⟨#[97]⟩
abbrev nB : ByteArray := ⟨#[98]⟩
abbrev nC : ByteArray := ⟨#[99]⟩
abbrev nF : ByteArray := ⟨#[102]⟩
theorem okA : nameOk nA = true := by decide
theorem okB' : nameOk nB = true := by decide
theorem okC : nameOk nC = true := by decide
theorem okF : nameOk nF = true := by decide
theorem neAB : nA ≠ nB := by decide
theorem neAC : nA ≠ nC := by decide
/-- Bytes in a new block. -/
theorem slAB (w : World) (l : List UInt8) (hl : l.length ≤ 100) : SlOf encB 1 (w.alloc (.cells (l.map bv).toArray 5)) (some ⟨w.heap.size, 0, none⟩) l.length l := by
  refine ⟨(fun h => by cases h), Nat.le_refl _, by unfold maxLen; omega, fun _ => ⟨w.heap.size, 0, rfl, by simp, fun j u hj => ?_⟩⟩
  rw [Nat.zero_add, cellA]
  rw [flatB] at hj
  simpa using hj
def iv (x : Int) : Value := .int .i64 x
theorem flatI (l : List Int) : (flatK encI 1 l.toArray).toList = l.map iv := by
  apply List.ext_getElem?
  intro j
  by_cases hj : j < l.length
  · obtain ⟨x, hx, _⟩ := get_at hj
    have := flat_at (enc := encI) (k := 1) hx 0 (by omega)
    rw [Nat.mul_one, Nat.add_zero] at this
    rw [this, List.getElem?_map, hx]; rfl
  · rw [List.getElem?_eq_none (by simp [flatK]; omega), List.getElem?_eq_none (by simp; omega)]
theorem slAI (w : World) (l : List Int) (hl : l.length ≤ 100) : SlOf encI 1 (w.alloc (.cells (l.map iv).toArray 3)) (some ⟨w.heap.size, 0, none⟩) l.length l := by
  refine ⟨(fun h => by cases h), Nat.le_refl _, by unfold maxLen; omega, fun _ => ⟨w.heap.size, 0, rfl, by simp, fun j u hj => ?_⟩⟩
  rw [Nat.zero_add, cellA]
  rw [flatI] at hj
  simpa using hj
theorem grow_some {s : Dk} {nm : ByteArray} {fl : Fl} (h : s.get nm = some fl) (data : List UInt8) : growS s nm data = { s with get := upd s.get nm (some ⟨fl.bytes ++ data, fl.lasts⟩) } := by unfold growS; rw [h]
theorem grow_none {s : Dk} {nm : ByteArray} (h : s.get nm = none) (data : List UInt8) : growS s nm data = { s with get := upd s.get nm (some ⟨data, 0⟩), n := s.n + 1 } := by unfold growS; rw [h]
/-- A disk of one file. -/
def one (nm : ByteArray) (bs : List UInt8) (l n acts : Nat) (off : Bool) (named : Nat) (part : Int) : Dk := ⟨upd (fun _ => none) nm (some ⟨bs, l⟩), n, acts, off, named, part⟩
theorem one_get (nm : ByteArray) (bs : List UInt8) (l n acts : Nat) (off : Bool) (named : Nat) (part : Int) : (one nm bs l n acts off named part).get nm = some ⟨bs, l⟩ := by
  simp only [one, upd_same]
theorem one_other {nm x : ByteArray} (h : x ≠ nm) (bs : List UInt8) (l n acts : Nat) (off : Bool) (named : Nat) (part : Int) : (one nm bs l n acts off named part).get x = none := by
  simp only [one, upd_ne _ _ h]
theorem names_one {α : Type} {f : ByteArray → Option α} {l : List ByteArray} {nm : ByteArray} (h : NamesOf f l) (hf : ∀ x, (f x).isSome = true ↔ x = nm) : l = [nm] := by
  have hm : ∀ x, x ∈ l ↔ x = nm := fun x => (h.2 x).trans (hf x)
  match l, h, hm with
  | [], _, hm => have := (hm nm).2 rfl; cases this
  | [a], _, hm => rw [(hm a).1 (by simp)]
  | a :: b :: r, h, hm =>
    exfalso
    have e1 := (hm a).1 (by simp)
    have e2 := (hm b).1 (by simp)
    exact names_ne h (i := 0) (j := 1) (by omega) rfl rfl (e1.trans e2.symm)
theorem one_some (nm : ByteArray) (bs : List UInt8) (l n acts : Nat) (off : Bool) (named : Nat) (part : Int) (x : ByteArray) : ((one nm bs l n acts off named part).get x).isSome = true ↔ x = nm := by
  by_cases e : x = nm
  · subst e; rw [one_get]; simp
  · rw [one_other e]; simp [e]
/-- What is found of a disk of one file. -/
theorem crash_one {B : Nat} {nm : ByteArray} {bs : List UInt8} {l n acts : Nat} {off : Bool} {named : Nat} {part : Int} {cs : List Int} {e : Ending} {w' : World} (h : CrashR B (one nm bs l n acts off named part) cs e w') :
    ∃ gf, e = .returned (.pointer (some ⟨gf, 0, none⟩)) ∧ DkAt B w' gf (one nm (foundF ⟨bs, l⟩ (chAt cs 0)).bytes (foundF ⟨bs, l⟩ (chAt cs 0)).lasts 1 0 false 0 0) := by
  obtain ⟨gf, ls, get', he, hn, hfg, hd⟩ := h
  obtain rfl := names_one hn (one_some nm bs l n acts off named part)
  refine ⟨gf, he, ?_⟩
  have h1 := hfg.1 0 nm ⟨bs, l⟩ (by simp) rfl (one_get _ _ _ _ _ _ _ _)
  have h2 : get' = upd (fun _ => none) nm (some (foundF ⟨bs, l⟩ (chAt cs 0))) := by
    funext x
    by_cases e : x = nm
    · subst e; rw [upd_same]; exact h1
    · rw [upd_ne _ _ e]
      exact hfg.2 x (by simpa using e)
  subst h2
  exact hd
/-- Append of bytes that were just laid out. -/
theorem app_lit (data : List UInt8) (hl : data.length ≤ 100) {B : Nat} {W : World} {g : Nat} {s : Dk} (hd : DkAt B W g s) (hB : B ≤ W.heap.size) {nm : ByteArray} (ho : s.off = false) (hk : nameOk nm = true) (h1 : s.named ≠ 1) (ha : s.acts ≤ 4611686018427387904) (hn : s.n < maxLen) (hl0 : ∀ fl, s.get nm = some fl → fl.bytes.length + data.length ≤ 140737488355328) :
    Calls Try.prog 7 #[.pointer (some ⟨g, 0, none⟩), .string nm, .slice (some ⟨W.heap.size, 0, none⟩) data.length data.length] (W.alloc (.cells (data.map bv).toArray 5)) fun e w' => e = .returned (.int .i64 0) ∧ DkAt B w' g (growS { s with named := s.named - 1, acts := s.acts + 1 } nm data) ∧ Below B W w' := by
  have hb : Below W.heap.size W (W.alloc (.cells (data.map bv).toArray 5)) := (Below.refl _ _).alloc (Nat.le_refl _) _
  refine (append_yes (hd.below hb) (Nat.le_trans hB hb.size) ho hk h1 ha hn _ _ data (slAB W data hl) hl0 (by omega)).mono ?_
  rintro e w' ⟨h1, h2, h3⟩
  exact ⟨h1, h2, (hb.mono hB).trans h3⟩
theorem app_down_lit (data : List UInt8) (hl : data.length ≤ 100) {B : Nat} {W : World} {g : Nat} {s : Dk} (hd : DkAt B W g s) (hB : B ≤ W.heap.size) {nm : ByteArray} (ho : s.off = false) (hk : nameOk nm = true) (h1 : s.named = 1) (hn : s.n < maxLen) (hl0 : ∀ fl, s.get nm = some fl → fl.bytes.length + data.length ≤ 140737488355328) :
    Calls Try.prog 7 #[.pointer (some ⟨g, 0, none⟩), .string nm, .slice (some ⟨W.heap.size, 0, none⟩) data.length data.length] (W.alloc (.cells (data.map bv).toArray 5)) fun e w' => e = .returned (.int .i64 40) ∧ DkAt B w' g (growS { s with off := true } nm (data.take (max s.part 0).toNat)) ∧ Below B W w' := by
  have hb : Below W.heap.size W (W.alloc (.cells (data.map bv).toArray 5)) := (Below.refl _ _).alloc (Nat.le_refl _) _
  refine (append_down (hd.below hb) (Nat.le_trans hB hb.size) ho hk h1 hn _ _ data (slAB W data hl) hl0 (by omega)).mono ?_
  rintro e w' ⟨h1, h2, h3⟩
  exact ⟨h1, h2, (hb.mono hB).trans h3⟩
/-- Crash with choices that were just laid out. -/
theorem crash_lit (cs : List Int) (hl : cs.length ≤ 100) {B : Nat} {W : World} {g : Nat} {s : Dk} (hd : DkAt B W g s) (hB : B ≤ W.heap.size) (hn : s.n ≤ 1000000000) (hl0 : ∀ nm fl, s.get nm = some fl → nm.size ≤ 32 ∧ fl.bytes.length ≤ 140737488355328) :
    Calls Try.prog 11 #[.pointer (some ⟨g, 0, none⟩), .slice (some ⟨W.heap.size, 0, none⟩) cs.length cs.length] (W.alloc (.cells (cs.map iv).toArray 3)) fun e w' => CrashR (W.heap.size + 1) s cs e w' ∧ DkAt B w' g { s with off := true } ∧ Below B W w' := by
  have hb : Below W.heap.size W (W.alloc (.cells (cs.map iv).toArray 3)) := (Below.refl _ _).alloc (Nat.le_refl _) _
  have hsz : (W.alloc (.cells (cs.map iv).toArray 3)).heap.size = W.heap.size + 1 := by simp
  have hgl : g < W.heap.size := by
    obtain ⟨m, h, q, c, hi⟩ := hd
    exact (Array.getElem?_eq_some_iff.1 hi.box).1
  have := crash_any (hd.below hb) (Nat.le_trans hB hb.size) hn hl0 _ _ cs (slAI W cs hl) (by omega) (by intro _ b off e; injection e with e; injection e with e; omega)
  rw [hsz] at this
  refine this.mono ?_
  rintro e w' ⟨h1, h2, h3⟩
  exact ⟨h1, h2, (hb.mono hB).trans h3⟩
end Go.Proofs.Ytonhagoeajhacaa.Old
namespace Go.Proofs.Ytonhagoeajhacaa.Old
open Go.RowKit Go.Sort Go.Shelf

theorem names_nodup {α : Type} {f : ByteArray → Option α} {l : List ByteArray} (h : NamesOf f l) : l.Nodup := h.1.imp fun {x y} hlt e => by subst e; exact List.lt_irrefl _ hlt
theorem names_unique {α : Type} {f : ByteArray → Option α} {l l' : List ByteArray} (h : NamesOf f l) (h' : NamesOf f l') : l = l' :=
  List.Perm.eq_of_pairwise (le := fun x y : ByteArray => x.data.toList < y.data.toList) (fun _ _ _ _ h1 h2 => absurd h2 (List.lt_asymm h1)) h.1 h'.1 ((List.perm_ext_iff_of_nodup (names_nodup h) (names_nodup h')).2 fun x => (h.2 x).trans (h'.2 x).symm)
def two : Dk := ⟨upd (upd (fun _ => none) nA (some ⟨[1, 2, 3, 4], 4⟩)) nB (some ⟨[7], 0⟩), 2, 0, true, 1, 1⟩
theorem two_A : two.get nA = some ⟨[1, 2, 3, 4], 4⟩ := by simp only [two, upd_ne _ _ neAB, upd_same]
theorem two_B : two.get nB = some ⟨[7], 0⟩ := by simp only [two, upd_same]
theorem two_no {x : ByteArray} (h1 : x ≠ nA) (h2 : x ≠ nB) : two.get x = none := by simp only [two, upd_ne _ _ h1, upd_ne _ _ h2]
theorem AB_lt : nA.data.toList < nB.data.toList := by decide
theorem names_AB {α : Type} {f : ByteArray → Option α} (ha : (f nA).isSome = true) (hb : (f nB).isSome = true) (hn : ∀ x, x ≠ nA → x ≠ nB → f x = none) : NamesOf f [nA, nB] := by
  refine ⟨List.Pairwise.cons (fun y hy => by obtain rfl : y = nB := (by simpa using hy); exact AB_lt) (List.Pairwise.cons (fun y hy => by cases hy) List.Pairwise.nil), fun x => ?_⟩
  by_cases e1 : x = nA
  · subst e1; simp [ha]
  · by_cases e2 : x = nB
    · subst e2; simp [hb]
    · rw [hn x e1 e2]; simp [e1, e2]
theorem crash_two {B : Nat} {cs : List Int} {e : Ending} {w' : World} (h : CrashR B two cs e w') :
    ∃ gf get', e = .returned (.pointer (some ⟨gf, 0, none⟩)) ∧ get' nA = some (foundF ⟨[1, 2, 3, 4], 4⟩ (chAt cs 0)) ∧ get' nB = some (foundF ⟨[7], 0⟩ (chAt cs 1)) ∧ (∀ x, x ≠ nA → x ≠ nB → get' x = none) ∧ DkAt B w' gf ⟨get', 2, 0, false, 0, 0⟩ := by
  obtain ⟨gf, ls, get', he, hn, hfg, hd⟩ := h
  obtain rfl := names_unique hn (names_AB (by rw [two_A]; rfl) (by rw [two_B]; rfl) (fun x h1 h2 => two_no h1 h2))
  exact ⟨gf, get', he, hfg.1 0 nA _ (by simp) rfl two_A, hfg.1 1 nB _ (by simp) rfl two_B, fun x h1 h2 => hfg.2 x (by simp [h1, h2]), hd⟩
theorem f1 : foundF ⟨[1, 2, 3, 4, 5], 3⟩ (chAt [-2] 0) = ⟨[1, 2, 3, 4], 4⟩ := by rfl
theorem f2 : foundF ⟨[1, 2, 3, 4], 4⟩ (chAt [0, 1] 0) = ⟨[1, 2, 3, 4], 4⟩ := by rfl
theorem f3 : foundF ⟨[7], 0⟩ (chAt [0, 1] 1) = ⟨[7], 1⟩ := by rfl
theorem one_len {nm : ByteArray} {bs : List UInt8} {l n acts : Nat} {off : Bool} {named : Nat} {part : Int} {d : Nat} (hb : bs.length + d ≤ 140737488355328) : ∀ fl, (one nm bs l n acts off named part).get nm = some fl → fl.bytes.length + d ≤ 140737488355328 := fun fl h => by
  rw [one_get] at h; injection h with h; subst h; exact hb
theorem one_all {nm : ByteArray} {bs : List UInt8} {l n acts : Nat} {off : Bool} {named : Nat} {part : Int} (hs : nm.size ≤ 32) (hb : bs.length ≤ 140737488355328) : ∀ k fl, (one nm bs l n acts off named part).get k = some fl → k.size ≤ 32 ∧ fl.bytes.length ≤ 140737488355328 := fun k fl h => by
  by_cases e : k = nm
  · subst e; exact ⟨hs, one_len (d := 0) hb fl h⟩
  · rw [one_other e] at h; cases h
theorem one_grow (nm : ByteArray) (bs : List UInt8) (l n acts : Nat) (off : Bool) (named : Nat) (part : Int) (data : List UInt8) : growS { one nm bs l n acts off named part with named := named - 1, acts := acts + 1 } nm data = one nm (bs ++ data) l n (acts + 1) off (named - 1) part := by
  rw [grow_some (fl := ⟨bs, l⟩) (by simp only [one, upd_same])]
  simp only [one, upd_upd]
theorem one_sync (nm : ByteArray) (bs : List UInt8) (l n acts : Nat) (off : Bool) (named : Nat) (part : Int) : ({ one nm bs l n acts off named part with get := upd (one nm bs l n acts off named part).get nm (some (lastF ⟨bs, l⟩)), named := (one nm bs l n acts off named part).named - 1, acts := (one nm bs l n acts off named part).acts + 1 } : Dk) = one nm bs bs.length n (acts + 1) off (named - 1) part := by
  simp only [one, upd_upd, lastF]
theorem empty_grow (nm : ByteArray) (data : List UInt8) : growS { empty with named := empty.named - 1, acts := empty.acts + 1 } nm data = one nm data 0 1 1 false 0 0 := by
  rw [grow_none rfl]; rfl
set_option maxHeartbeats 4000000 in
set_option maxRecDepth 100000 in
theorem fixed_any (w : World) : Calls Try.prog 4 #[] w fun e w' => e = .returned (.bool true) ∧ Below w.heap.size w w' := by
  have hN := new_any w
  have a1 : ∀ (g B : Nat) (W : World), DkAt B W g empty → B ≤ W.heap.size → Calls Try.prog 7 #[.pointer (some ⟨g, 0, none⟩), .string ⟨#[97]⟩, .slice (some ⟨W.heap.size, 0, none⟩) 3 3] (W.alloc (.cells #[.int .u8 1, .int .u8 2, .int .u8 3] 5)) fun e w' => e = .returned (.int .i64 0) ∧ DkAt B w' g (one nA [1, 2, 3] 0 1 1 false 0 0) ∧ Below B W w' := fun g B W h hB => by
    have := app_lit [1, 2, 3] (by decide) h hB (nm := nA) rfl okA (by decide) (by decide) (by decide) (fun fl h => by cases h)
    rw [empty_grow] at this
    exact this
  have a2 : ∀ (g B : Nat) (W : World), DkAt B W g (one nA [1, 2, 3] 0 1 1 false 0 0) → B ≤ W.heap.size → Calls Try.prog 8 #[.pointer (some ⟨g, 0, none⟩), .string ⟨#[97]⟩] W fun e w' => e = .returned (.int .i64 0) ∧ DkAt B w' g (one nA [1, 2, 3] 3 1 2 false 0 0) ∧ Below B W w' := fun g B W h hB => by
    have := sync_yes h hB (nm := nA) rfl okA (one_get _ _ _ _ _ _ _ _) (by decide) (by decide)
    rw [one_sync] at this
    exact this
  have a3 : ∀ (g B : Nat) (W : World), DkAt B W g (one nA [1, 2, 3] 3 1 2 false 0 0) → B ≤ W.heap.size → Calls Try.prog 7 #[.pointer (some ⟨g, 0, none⟩), .string ⟨#[97]⟩, .slice (some ⟨W.heap.size, 0, none⟩) 2 2] (W.alloc (.cells #[.int .u8 4, .int .u8 5] 5)) fun e w' => e = .returned (.int .i64 0) ∧ DkAt B w' g (one nA [1, 2, 3, 4, 5] 3 1 3 false 0 0) ∧ Below B W w' := fun g B W h hB => by
    have := app_lit [4, 5] (by decide) h hB (nm := nA) rfl okA (by decide) (by decide) (by decide) (one_len (by decide))
    rw [show ({ one nA [1, 2, 3] 3 1 2 false 0 0 with named := (one nA [1, 2, 3] 3 1 2 false 0 0).named - 1, acts := (one nA [1, 2, 3] 3 1 2 false 0 0).acts + 1 } : Dk) = { one nA [1, 2, 3] 3 1 2 false 0 0 with named := 0 - 1, acts := 2 + 1 } from rfl, one_grow] at this
    exact this
  have a4 : ∀ (g B : Nat) (W : World), DkAt B W g (one nA [1, 2, 3, 4, 5] 3 1 3 false 0 0) → Calls Try.prog 9 #[.pointer (some ⟨g, 0, none⟩), .string ⟨#[97]⟩] W fun e w' => e = .returned (.int .i64 2) ∧ Below W.heap.size W w' := fun g B W h => loose_yes h (nm := nA) rfl okA (one_get _ _ _ _ _ _ _ _) (by decide)
  have a5 : ∀ (g B : Nat) (W : World), DkAt B W g (one nA [1, 2, 3, 4, 5] 3 1 3 false 0 0) → Calls Try.prog 10 #[.pointer (some ⟨g, 0, none⟩)] W fun e w' => e = .returned (.int .i64 3) ∧ w' = W := fun g B W h => acts_any h
  have a6 : ∀ (g B : Nat) (W : World), DkAt B W g (one nA [1, 2, 3, 4, 5] 3 1 3 false 0 0) → Calls Try.prog 8 #[.pointer (some ⟨g, 0, none⟩), .string ⟨#[99]⟩] W fun e w' => e = .returned (.int .i64 41) ∧ Below W.heap.size W w' := fun g B W h => by
    have he : errE (one nA [1, 2, 3, 4, 5] 3 1 3 false 0 0) nC = 41 := by
      unfold errE
      rw [one_other (fun e => neAC e.symm), okC]
      rfl
    have := sync_no h (nm := nC) (by rw [he]; decide)
    rw [he] at this
    exact this
  have a7 : ∀ (g B : Nat) (W : World), DkAt B W g (one nA [1, 2, 3, 4, 5] 3 1 3 false 0 0) → B ≤ W.heap.size → Calls Try.prog 11 #[.pointer (some ⟨g, 0, none⟩), .slice (some ⟨W.heap.size, 0, none⟩) 1 1] (W.alloc (.cells #[.int .i64 (-2)] 3)) fun e w' => (∃ gf, e = .returned (.pointer (some ⟨gf, 0, none⟩)) ∧ DkAt (W.heap.size + 1) w' gf (one nA [1, 2, 3, 4] 4 1 0 false 0 0)) ∧ DkAt B w' g { one nA [1, 2, 3, 4, 5] 3 1 3 false 0 0 with off := true } ∧ Below B W w' := fun g B W h hB => by
    refine (crash_lit [-2] (by decide) h hB (by decide) (one_all (by decide) (by decide))).mono ?_
    rintro e w' ⟨h1, h2, h3⟩
    obtain ⟨gf, he, hd⟩ := crash_one h1
    rw [f1] at hd
    exact ⟨⟨gf, he, hd⟩, h2, h3⟩
  have a8 : ∀ (g B : Nat) (W : World), DkAt B W g { one nA [1, 2, 3, 4, 5] 3 1 3 false 0 0 with off := true } → Calls Try.prog 12 #[.pointer (some ⟨g, 0, none⟩)] W fun e w' => e = .returned (.bool true) ∧ w' = W := fun g B W h => off_any h
  have a8' : ∀ (g B : Nat) (W : World), DkAt B W g (one nA [1, 2, 3, 4] 4 1 0 false 0 0) → Calls Try.prog 12 #[.pointer (some ⟨g, 0, none⟩)] W fun e w' => e = .returned (.bool false) ∧ w' = W := fun g B W h => off_any h
  have a9 : ∀ (g B : Nat) (W : World), DkAt B W g (one nA [1, 2, 3, 4] 4 1 0 false 0 0) → Calls Try.prog 13 #[.pointer (some ⟨g, 0, none⟩), .string ⟨#[97]⟩] W fun e w' => (∃ q' c', e = .returned (.tuple #[.slice q' 4 c', .int .i64 0])) ∧ Below W.heap.size W w' := fun g B W h => (read_yes h (nm := nA) rfl okA (one_get _ _ _ _ _ _ _ _) (by decide)).mono (by rintro e w' ⟨⟨q', c', he, _⟩, hb⟩; exact ⟨⟨q', c', he⟩, hb⟩)
  have a10 : ∀ (g B : Nat) (W : World), DkAt B W g (one nA [1, 2, 3, 4] 4 1 0 false 0 0) → B ≤ W.heap.size → Calls Try.prog 14 #[.pointer (some ⟨g, 0, none⟩), .int .i64 1, .int .i64 1] W fun e w' => e = .returned (.int .i64 0) ∧ DkAt B w' g (one nA [1, 2, 3, 4] 4 1 0 false 1 1) ∧ Below B W w' := fun g B W h hB => arm_yes h hB 1 1 (by decide) rfl
  have a11 : ∀ (g B : Nat) (W : World), DkAt B W g (one nA [1, 2, 3, 4] 4 1 0 false 1 1) → B ≤ W.heap.size → Calls Try.prog 7 #[.pointer (some ⟨g, 0, none⟩), .string ⟨#[98]⟩, .slice (some ⟨W.heap.size, 0, none⟩) 2 2] (W.alloc (.cells #[.int .u8 7, .int .u8 8] 5)) fun e w' => e = .returned (.int .i64 40) ∧ DkAt B w' g two ∧ Below B W w' := fun g B W h hB => by
    have := app_down_lit [7, 8] (by decide) h hB (nm := nB) rfl okB' rfl (by decide) (fun fl h => by rw [one_other (fun e => neAB e.symm)] at h; cases h)
    rw [grow_none (by simp only [one, upd_ne _ _ (fun e => neAB e.symm)])] at this
    exact this
  have a12 : ∀ (g B : Nat) (W : World), DkAt B W g two → B ≤ W.heap.size → Calls Try.prog 11 #[.pointer (some ⟨g, 0, none⟩), .slice (some ⟨W.heap.size, 0, none⟩) 2 2] (W.alloc (.cells #[.int .i64 0, .int .i64 1] 3)) fun e w' => (∃ gf get', e = .returned (.pointer (some ⟨gf, 0, none⟩)) ∧ (get' nA = some ⟨[1, 2, 3, 4], 4⟩ ∧ get' nB = some ⟨[7], 1⟩ ∧ ∀ x, x ≠ nA → x ≠ nB → get' x = none) ∧ DkAt (W.heap.size + 1) w' gf ⟨get', 2, 0, false, 0, 0⟩) ∧ Below B W w' := fun g B W h hB => by
    refine (crash_lit [0, 1] (by decide) h hB (by decide) ?_).mono ?_
    · intro k fl hk
      by_cases e1 : k = nA
      · subst e1; rw [two_A] at hk; injection hk with hk; subst hk; exact ⟨by decide, by decide⟩
      · by_cases e2 : k = nB
        · subst e2; rw [two_B] at hk; injection hk with hk; subst hk; exact ⟨by decide, by decide⟩
        · rw [two_no e1 e2] at hk; cases hk
    · rintro e w' ⟨h1, h2, h3⟩
      obtain ⟨gf, get', he, ga, gb, gn, hd⟩ := crash_two h1
      rw [f2] at ga
      rw [f3] at gb
      exact ⟨⟨gf, get', he, ⟨ga, gb, gn⟩, hd⟩, h3⟩
  have a13 : ∀ (get' : ByteArray → Option Fl), get' nA = some ⟨[1, 2, 3, 4], 4⟩ ∧ get' nB = some ⟨[7], 1⟩ ∧ (∀ x, x ≠ nA → x ≠ nB → get' x = none) → ∀ (g B : Nat) (W : World), DkAt B W g ⟨get', 2, 0, false, 0, 0⟩ → Calls Try.prog 15 #[.pointer (some ⟨g, 0, none⟩)] W fun e w' => (∃ q c, e = .returned (.slice q 2 c)) ∧ Below W.heap.size W w' := fun get' hg g B W h => by
    refine (names_any h (show 2 ≤ 1000000000 by decide) rfl).mono ?_
    rintro e w' ⟨⟨q, c, l, he, _, hn, _⟩, hb⟩
    obtain rfl := names_unique hn (names_AB (by show (get' nA).isSome = true; rw [hg.1]; rfl) (by show (get' nB).isSome = true; rw [hg.2.1]; rfl) hg.2.2)
    exact ⟨⟨q, c, he⟩, hb⟩
  have a14 : ∀ (get' : ByteArray → Option Fl), get' nB = some ⟨[7], 1⟩ → ∀ (g B : Nat) (W : World), DkAt B W g ⟨get', 2, 0, false, 0, 0⟩ → B ≤ W.heap.size → Calls Try.prog 16 #[.pointer (some ⟨g, 0, none⟩), .string ⟨#[98]⟩, .string ⟨#[97]⟩] W fun e w' => e = .returned (.int .i64 0) ∧ DkAt B w' g ⟨upd (upd get' nB none) nA (some ⟨[7], 1⟩), 3, 1, false, 0, 0⟩ ∧ Below B W w' := fun get' hg g B W h hB => rename_yes h hB (nm := nB) (to := nA) rfl okB' okA hg (show 0 ≠ 1 by decide) (show 0 ≤ 4611686018427387904 by decide) (show 2 < maxLen by decide)
  have a15 : ∀ (get' : ByteArray → Option Fl) (g B : Nat) (W : World), DkAt B W g ⟨upd (upd get' nB none) nA (some ⟨[7], 1⟩), 3, 1, false, 0, 0⟩ → Calls Try.prog 17 #[.pointer (some ⟨g, 0, none⟩), .string ⟨#[98]⟩] W fun e w' => e = .returned (.int .i64 41) ∧ Below W.heap.size W w' := fun get' g B W h => by
    have he : errE ⟨upd (upd get' nB none) nA (some ⟨[7], 1⟩), 3, 1, false, 0, 0⟩ nB = 41 := by
      unfold errE
      simp only [upd_ne _ _ (fun e : nB = nA => neAB e.symm), upd_same, okB']
      rfl
    have := remove_no h (nm := nB) (by rw [he]; decide)
    rw [he] at this
    exact this
  have a16 : ∀ (get' : ByteArray → Option Fl) (g B : Nat) (W : World), DkAt B W g ⟨upd (upd get' nB none) nA (some ⟨[7], 1⟩), 3, 1, false, 0, 0⟩ → Calls Try.prog 13 #[.pointer (some ⟨g, 0, none⟩), .string ⟨#[97]⟩] W fun e w' => (∃ b off c', e = .returned (.tuple #[.slice (some ⟨b, off, none⟩) 1 c', .int .i64 0]) ∧ w'.cell? ⟨b, off, none⟩ = some (.int .u8 7)) ∧ Below W.heap.size W w' := fun get' g B W h => by
    refine (read_yes h (nm := nA) (fl := ⟨[7], 1⟩) rfl okA (by simp only [upd_same]) (by decide)).mono ?_
    rintro e w' ⟨⟨q', c', he, ho⟩, hb⟩
    obtain ⟨b, off, hq, _, hc⟩ := byteAt ho.ls (j := 0) (x := 7) rfl
    subst hq
    exact ⟨⟨b, off, c', he, hc⟩, hb⟩
  go_enter Try.func4, Try.ntmps4
  go_wp2_with (first
    | (go_at_call 5; refine hN.mono ?_; rintro e w1 ⟨rfl, d1, b1⟩; have D1 := hide d1; have B1 := hide b1; have z1 := b1.size; clear d1 b1)
    | (go_at_call 7; (with_reducible refine (a1 _ _ w1 (unhide D1) z1).mono ?_); rintro e w2 ⟨rfl, d2, b2⟩; have D2 := hide d2; have B2 := hide ((unhide B1).trans b2); have z2 := (unhide B2).size; clear d2 b2)
    | (go_at_call 8; (with_reducible refine (a2 _ _ w2 (unhide D2) z2).mono ?_); rintro e w3 ⟨rfl, d3, b3⟩; have D3 := hide d3; have B3 := hide ((unhide B2).trans b3); have z3 := (unhide B3).size; clear d3 b3)
    | (go_at_call 7; (with_reducible refine (a3 _ _ w3 (unhide D3) z3).mono ?_); rintro e w4 ⟨rfl, d4, b4⟩; have D4 := hide d4; have B4 := hide ((unhide B3).trans b4); have z4 := (unhide B4).size; clear d4 b4)
    | (go_at_call 9; (with_reducible refine (a4 _ _ w4 (unhide D4)).mono ?_); rintro e w5 ⟨rfl, b5⟩; have D5 := hide ((unhide D4).below b5); have B5 := hide ((unhide B4).trans (b5.mono z4)); have z5 := (unhide B5).size; clear b5)
    | (go_at_call 10; (with_reducible refine (a5 _ _ w5 (unhide D5)).mono ?_); rintro e w6 ⟨rfl, hw6⟩; obtain rfl := hw6.symm)
    | (go_at_call 8; (with_reducible refine (a6 _ _ w5 (unhide D5)).mono ?_); rintro e w7 ⟨rfl, b7⟩; have D7 := hide ((unhide D5).below b7); have B7 := hide ((unhide B5).trans (b7.mono z5)); have z7 := (unhide B7).size; clear b7)
    | (go_at_call 11; (with_reducible refine (a7 _ _ w7 (unhide D7) z7).mono ?_); rintro e w8 ⟨⟨gc, rfl, c8⟩, d8, b8⟩; have C8 := hide c8; have D8 := hide d8; have B8 := hide ((unhide B7).trans b8); have z8 := (unhide B8).size; have zb : w7.heap.size + 1 ≤ w8.heap.size := (by obtain ⟨m, h, q, c, hi⟩ := c8; exact Nat.le_trans hi.bg (Nat.le_of_lt (Array.getElem?_eq_some_iff.1 hi.box).1)); clear c8 d8 b8)
    | (go_at_call 12; (with_reducible refine (a8 _ _ w8 (unhide D8)).mono ?_); rintro e w9 ⟨rfl, hw9⟩; obtain rfl := hw9.symm)
    | (go_at_call 12; (with_reducible refine (a8' _ _ w8 (unhide C8)).mono ?_); rintro e w9 ⟨rfl, hw9⟩; obtain rfl := hw9.symm)
    | (go_at_call 13; (with_reducible refine (a9 _ _ w8 (unhide C8)).mono ?_); rintro e w10 ⟨⟨q10, c10, rfl⟩, b10⟩; have C10 := hide ((unhide C8).below b10); have B10 := hide ((unhide B8).trans (b10.mono z8)); have z10 := (unhide B10).size; have zc := Nat.le_trans zb b10.size; clear b10)
    | (go_at_call 14; (with_reducible refine (a10 _ _ w10 (unhide C10) zc).mono ?_); rintro e w11 ⟨rfl, c11, b11⟩; have C11 := hide c11; have B11 := hide ((unhide B10).trans (b11.mono (by omega))); have zd := Nat.le_trans zc b11.size; clear c11 b11)
    | (go_at_call 7; (with_reducible refine (a11 _ _ w11 (unhide C11) zd).mono ?_); rintro e w12 ⟨rfl, c12, b12⟩; have C12 := hide c12; have B12 := hide ((unhide B11).trans (b12.mono (by omega))); have ze := Nat.le_trans zd b12.size; clear c12 b12)
    | (go_at_call 11; (with_reducible refine (a12 _ _ w12 (unhide C12) ze).mono ?_); rintro e w13 ⟨⟨gf, gt, rfl, hgt, f13⟩, b13⟩; have F13 := hide f13; have HGT := hide hgt; have B13 := hide ((unhide B12).trans (b13.mono (by omega))); have z13 := (unhide B13).size; have zf : w12.heap.size + 1 ≤ w13.heap.size := (by obtain ⟨m, h, q, c, hi⟩ := f13; exact Nat.le_trans hi.bg (Nat.le_of_lt (Array.getElem?_eq_some_iff.1 hi.box).1)); have z12 := (unhide B12).size; clear f13 b13 hgt)
    | (go_at_call 15; (with_reducible refine (a13 gt (unhide HGT) _ _ w13 (unhide F13)).mono ?_); rintro e w14 ⟨⟨q14, c14, rfl⟩, b14⟩; have F14 := hide ((unhide F13).below b14); have B14 := hide ((unhide B13).trans (b14.mono z13)); have zg := Nat.le_trans zf b14.size; clear b14)
    | (go_at_call 16; (with_reducible refine (a14 gt (unhide HGT).2.1 _ _ w14 (unhide F14) zg).mono ?_); rintro e w15 ⟨rfl, f15, b15⟩; have F15 := hide f15; have B15 := hide ((unhide B14).trans (b15.mono (by omega))); have z15 := (unhide B15).size; clear f15 b15)
    | (go_at_call 17; (with_reducible refine (a15 gt _ _ w15 (unhide F15)).mono ?_); rintro e w16 ⟨rfl, b16⟩; have F16 := hide ((unhide F15).below b16); have B16 := hide ((unhide B15).trans (b16.mono z15)); have z16 := (unhide B16).size; clear b16)
    | (go_at_call 13; (with_reducible refine (a16 gt _ _ w16 (unhide F16)).mono ?_); rintro e w17 ⟨⟨b, off, c17, rfl, hc17⟩, b17⟩; have B17 := hide ((unhide B16).trans (b17.mono z16)); clear b17))
  go_ret
  exact ⟨rfl, unhide B17⟩
end Go.Proofs.Ytonhagoeajhacaa.Old

/- One call on both disks: what is carried between the two. -/
import Derived.Test.YtonhagoeajhacaaD4
namespace Go.Proofs.Ytonhagoeajhacaa
open Go.RowKit Go.Sort Go.Shelf

structure Pk (B1 P1 : Nat → Prop) (V : World) (d g : Nat) (B P : Nat → Prop) (W : World) (s : Dk) (r : Rk) : Prop where
  j : J B P W d g s r
  fr : Fr B1 g V W
  bb : ∀ i, B1 i → B i
  pp : ∀ i, P i → i < V.heap.size → P1 i
section
variable {B1 P1 : Nat → Prop} {V : World} {d g : Nat} {B P : Nat → Prop} {W W' : World} {s s0 s' : Dk} {r r0 r' : Rk} {Z : Nat}
theorem Pk.start (h : J B1 P1 V d g s r) : Pk B1 P1 V d g B1 P1 V s r := ⟨h, Kpt.refl _ _, fun _ h => h, fun _ h _ => h⟩
theorem Pk.below (h : Pk B1 P1 V d g B P W s r) (hb : Below W.heap.size W W') : Pk B1 P1 V d g B P W' s r := ⟨h.j.below hb, h.fr.trans (Fr.below (B := B) hb) h.bb, h.bb, h.pp⟩
theorem Pk.drew (h : Pk B1 P1 V d g B P W s r) : Pk B1 P1 V d g B P W.drew s r := h.below (Below.refl _ _).drew
theorem Pk.disk (h : Pk B1 P1 V d g B P W s r) (he : DkEnd B W d s' W') : Pk B1 P1 V d g B P W' s' r := ⟨h.j.disk he, h.fr.trans (Fr.disk he) h.bb, h.bb, h.pp⟩
theorem Pk.refs (h : Pk B1 P1 V d g B P W s r) (he : REnd P W g r' W') : Pk B1 P1 V d g (more B W W') (more P W W') W' s r' := by
  refine ⟨h.j.refs he, h.fr.trans (Fr.refs (B := B) he) h.bb, fun i hi => Or.inl (h.bb i hi), fun i hi hl => ?_⟩
  rcases hi with hi | hi
  · exact h.pp i hi hl
  · have := h.fr.size; omega
theorem Pk.cellsB (h : Pk B1 P1 V d g B P W s r) {b : Nat} (hb : B1 b) (hne : b ≠ g) (hl : b < V.heap.size) : W.heap[b]? = V.heap[b]? := h.fr.block b ⟨hb, hne⟩ hl
theorem Pk.sl {α : Type} [Inhabited α] {enc : α → List Value} {k : Nat} {A : Nat} {q : Option Addr} {c : Nat} {l : List α} (h : Pk B1 P1 V d g B P W s r) (hs : SlIn enc k (· < A) V q c l) (hA : ∀ i, i < A → B1 i) (hAg : A ≤ g) : SlIn enc k (· < A) W q c l := hs.kept h.fr.size fun i hi hl => h.fr.block i ⟨hA i hi, by have : i < A := hi; omega⟩ hl
theorem Pk.own {α : Type} [Inhabited α] {enc : α → List Value} {e : TypeId} {k B0 : Nat} {q : Option Addr} {c : Nat} {l : List α} (h : Pk B1 P1 V d g B P W s r) (ho : OwnK enc e k B0 V q c l) (hb : ∀ p, q = some p → B1 p.block ∧ p.block ≠ g) : OwnK enc e k B0 W q c l := by
  refine ⟨ho.1, ?_⟩
  rcases ho.2 with h0 | ⟨b, cp, cur, hv, hB, hblk, hr⟩
  · exact Or.inl h0
  · refine Or.inr ⟨b, cp, cur, hv, hB, (h.fr.block b ?_ (Array.getElem?_eq_some_iff.1 hblk).1).trans hblk, hr⟩
    injection hv with h1
    exact hb _ h1
theorem pk7 (h : Pk B1 P1 V d g B P W s r0) (hr : Rel s r Z) (hZ : Z ≤ 500000000) (ha : s.acts ≤ 500) (hn : s.n ≤ 500) (nm : ByteArray) (p : Option Addr) (k : Nat) (data : List UInt8) (hdt : SlOf encB 1 W p k data) (hl : data.length ≤ 100000000) :
    Calls Try.prog 7 #[.pointer (some ⟨d, 0, none⟩), .string nm, .slice p data.length k] W fun e w' => e = .returned (.int .i64 (appE s nm)) ∧ Pk B1 P1 V d g B P w' (appS s nm data) r0 :=
  (app_det h.j.dk h.j.sub (by omega) (by omega) (fun nm fl hf => by have := (hr.f.fit hf).2.2; omega) nm p k data hdt (by omega)).mono fun _ _ ⟨h1, h2⟩ => ⟨h1, h.disk h2⟩
theorem pk8 (h : Pk B1 P1 V d g B P W s r0) (ha : s.acts ≤ 500) (nm : ByteArray) :
    Calls Try.prog 8 #[.pointer (some ⟨d, 0, none⟩), .string nm] W fun e w' => e = .returned (.int .i64 (synE s nm)) ∧ Pk B1 P1 V d g B P w' (synS s nm) r0 :=
  (syn_det h.j.dk h.j.sub (by omega) nm).mono fun _ _ ⟨h1, h2⟩ => ⟨h1, h.disk h2⟩
theorem pk17 (h : Pk B1 P1 V d g B P W s r0) (ha : s.acts ≤ 500) (nm : ByteArray) :
    Calls Try.prog 17 #[.pointer (some ⟨d, 0, none⟩), .string nm] W fun e w' => e = .returned (.int .i64 (synE s nm)) ∧ Pk B1 P1 V d g B P w' (remS s nm) r0 :=
  (rem_det h.j.dk h.j.sub (by omega) nm).mono fun _ _ ⟨h1, h2⟩ => ⟨h1, h.disk h2⟩
theorem pk16 (h : Pk B1 P1 V d g B P W s r0) (ha : s.acts ≤ 500) (hn : s.n ≤ 500) (nm tt : ByteArray) :
    Calls Try.prog 16 #[.pointer (some ⟨d, 0, none⟩), .string nm, .string tt] W fun e w' => e = .returned (.int .i64 (renE s nm tt)) ∧ Pk B1 P1 V d g B P w' (renS s nm tt) r0 :=
  (ren_det h.j.dk h.j.sub (by omega) (by omega) nm tt).mono fun _ _ ⟨h1, h2⟩ => ⟨h1, h.disk h2⟩
theorem pk14 (h : Pk B1 P1 V d g B P W s r0) (n m : Int) (hn : n ≤ 9223372036854775807) :
    Calls Try.prog 14 #[.pointer (some ⟨d, 0, none⟩), .int .i64 n, .int .i64 m] W fun e w' => e = .returned (.int .i64 (armE s)) ∧ Pk B1 P1 V d g B P w' (armS s n m) r0 :=
  (arm_det h.j.dk h.j.sub n m hn).mono fun _ _ ⟨h1, h2⟩ => ⟨h1, h.disk h2⟩
def PkR (B1 P1 : Nat → Prop) (V : World) (d g : Nat) (s0 s' : Dk) (Z N : Nat) (w' : World) : Prop := ∃ B' P' r', Pk B1 P1 V d g B' P' w' s0 r' ∧ Rel s' r' Z ∧ r'.fs.length ≤ N
theorem Pk.end (h : Pk B1 P1 V d g B P W s0 r) {N : Nat} (he : RfEnd P W g s' Z N W') : PkR B1 P1 V d g s0 s' Z N W' := by
  obtain ⟨r', h1, h2, h3⟩ := he
  exact ⟨_, _, r', h.refs h3, h1, h2⟩
theorem pk18 (h : Pk B1 P1 V d g B P W s0 r) (hr : Rel s r Z) (hZ : Z ≤ 500000000) (ha : s.acts ≤ 500) (hl : r.fs.length ≤ 500) (nm : ByteArray) (p : Option Addr) (k : Nat) (data : List UInt8) (hd : SlOf encB 1 W p k data) (hpg : 0 < data.length → ∀ a, p = some a → a.block ≠ g) (hdl : data.length ≤ 100000000) :
    Calls Try.prog 18 #[.pointer (some ⟨g, 0, none⟩), .string nm, .slice p data.length k] W fun e w' => e = .returned (.int .i64 (appE s nm)) ∧ PkR B1 P1 V d g s0 (appS s nm data) (Z + data.length) (r.fs.length + 1) w' := by
  obtain ⟨q, c, hi⟩ := h.j.ref
  exact (rapp_det hi hr (by omega) (by omega) (by omega) nm p k data hd hpg (by omega)).mono fun _ _ ⟨h1, h2⟩ => ⟨h1, h.end h2⟩
theorem pk19 (h : Pk B1 P1 V d g B P W s0 r) (hr : Rel s r Z) (ha : s.acts ≤ 500) (hl : r.fs.length ≤ 500) (nm : ByteArray) :
    Calls Try.prog 19 #[.pointer (some ⟨g, 0, none⟩), .string nm] W fun e w' => e = .returned (.int .i64 (synE s nm)) ∧ PkR B1 P1 V d g s0 (synS s nm) Z (r.fs.length + 1) w' := by
  obtain ⟨q, c, hi⟩ := h.j.ref
  exact (rsyn_det hi hr (by omega) (by omega) nm).mono fun _ _ ⟨h1, h2⟩ => ⟨h1, h.end h2⟩
theorem pk21 (h : Pk B1 P1 V d g B P W s0 r) (hr : Rel s r Z) (ha : s.acts ≤ 500) (hl : r.fs.length ≤ 500) (nm : ByteArray) :
    Calls Try.prog 21 #[.pointer (some ⟨g, 0, none⟩), .string nm] W fun e w' => e = .returned (.int .i64 (synE s nm)) ∧ PkR B1 P1 V d g s0 (remS s nm) Z (r.fs.length + 1) w' := by
  obtain ⟨q, c, hi⟩ := h.j.ref
  exact (rrem_det hi hr (by omega) (by omega) nm).mono fun _ _ ⟨h1, h2⟩ => ⟨h1, h.end h2⟩
theorem pk20 (h : Pk B1 P1 V d g B P W s0 r) (hr : Rel s r Z) (ha : s.acts ≤ 500) (hl : r.fs.length ≤ 500) (nm tt : ByteArray) :
    Calls Try.prog 20 #[.pointer (some ⟨g, 0, none⟩), .string nm, .string tt] W fun e w' => e = .returned (.int .i64 (renE s nm tt)) ∧ PkR B1 P1 V d g s0 (renS s nm tt) Z (r.fs.length + 1) w' := by
  obtain ⟨q, c, hi⟩ := h.j.ref
  exact (rren_det hi hr (by omega) (by omega) nm tt).mono fun _ _ ⟨h1, h2⟩ => ⟨h1, h.end h2⟩
theorem pk22 (h : Pk B1 P1 V d g B P W s0 r) (hr : Rel s r Z) (n m : Int) (hn : n ≤ 9223372036854775807) :
    Calls Try.prog 22 #[.pointer (some ⟨g, 0, none⟩), .int .i64 n, .int .i64 m] W fun e w' => e = .returned (.int .i64 (armE s)) ∧ PkR B1 P1 V d g s0 (armS s n m) Z (r.fs.length + 1) w' := by
  obtain ⟨q, c, hi⟩ := h.j.ref
  exact (rarm_det hi hr n m hn).mono fun _ _ ⟨h1, h2⟩ => ⟨h1, h.end h2⟩
end
/-- What a call leaves of the counts. -/
structure Cnt (s s' : Dk) : Prop where
  n : s'.n ≤ s.n + 1
  acts : s'.acts ≤ s.acts + 1
theorem cnt_app (s : Dk) (nm : ByteArray) (data : List UInt8) : Cnt s (appS s nm data) := by
  unfold appS
  split
  · split
    · obtain ⟨g1, g2, g3, g4⟩ := grow_rest { s with off := true } nm (data.take (max s.part 0).toNat)
      exact ⟨g1, by rw [g4]; exact Nat.le_succ _⟩
    · obtain ⟨g1, g2, g3, g4⟩ := grow_rest { s with named := s.named - 1, acts := s.acts + 1 } nm data
      exact ⟨g1, by rw [g4]; exact Nat.le_refl _⟩
  · exact ⟨Nat.le_succ _, Nat.le_succ _⟩
theorem cnt_syn (s : Dk) (nm : ByteArray) : Cnt s (synS s nm) := by
  unfold synS
  split
  · split
    · exact ⟨Nat.le_succ _, Nat.le_succ _⟩
    · exact ⟨Nat.le_succ _, Nat.le_refl _⟩
  · exact ⟨Nat.le_succ _, Nat.le_succ _⟩
theorem cnt_rem (s : Dk) (nm : ByteArray) : Cnt s (remS s nm) := by
  unfold remS
  split
  · split
    · exact ⟨Nat.le_succ _, Nat.le_succ _⟩
    · exact ⟨Nat.le_succ _, Nat.le_refl _⟩
  · exact ⟨Nat.le_succ _, Nat.le_succ _⟩
theorem cnt_ren (s : Dk) (nm tt : ByteArray) : Cnt s (renS s nm tt) := by
  unfold renS
  split
  · split
    · exact ⟨Nat.le_succ _, Nat.le_succ _⟩
    · exact ⟨Nat.le_refl _, Nat.le_refl _⟩
  · exact ⟨Nat.le_succ _, Nat.le_succ _⟩
theorem cnt_arm (s : Dk) (n m : Int) : Cnt s (armS s n m) := by
  unfold armS
  split
  · exact ⟨Nat.le_succ _, Nat.le_succ _⟩
  · exact ⟨Nat.le_succ _, Nat.le_succ _⟩
/-- How a call of the statement's do ends. -/
def DoR (A : Nat) (w : World) (s : Dk) (r : Rk) (Z : Nat) (e : Ending) (w' : World) : Prop := ∃ (B' P' : Nat → Prop) (d' g' : Nat) (s' : Dk) (r' : Rk), e = .returned (.tuple #[.pointer (some ⟨d', 0, none⟩), .pointer (some ⟨g', 0, none⟩), .bool true]) ∧ J B' P' w' d' g' s' r' ∧ Rel s' r' Z ∧ Cnt s s' ∧ r'.fs.length ≤ r.fs.length + 1 ∧ (∀ i, i < A → B' i) ∧ A ≤ g' ∧ Below A w w'
theorem J.turn {B P : Nat → Prop} {w w' : World} {d g b : Nat} {s : Dk} {r : Rk} (h : J B P w d g s r) (hg : w.grownBy w' (some b)) (hB : B b) (hP : ¬ P b) (hne : b ≠ g) : J B P w' d g s r := by
  obtain ⟨q, c, hi⟩ := h.ref
  refine ⟨h.sub.trans hg.size, h.dk.lies fun i hi2 hl => hg.block i hl (by intro e; injection e with e; exact hi2 (e ▸ hB)), h.bg, h.pb, q, c, hi.kept hg.size fun i hi2 hl => hg.block i hl (by intro e; injection e with e; subst e; rcases hi2 with h1 | h1; exact hP h1; exact hne h1)⟩
theorem take_left {α : Type} (l : List α) (x : α) : (l ++ [x]).take l.length = l := by simp
/-- How a call of do stands ahead of its last look. -/
def FinR (A : Nat) (w Y : World) (d g : Nat) (s : Dk) (r : Rk) (Z : Nat) (W : World) : Prop := ∃ (B' P' : Nat → Prop) (s' : Dk) (r' : Rk), J B' P' W d g s' r' ∧ Rel s' r' Z ∧ Cnt s s' ∧ r'.fs.length ≤ r.fs.length + 1 ∧ (∀ i, i < A → B' i) ∧ W.heap[w.heap.size]? = Y.heap[w.heap.size]? ∧ Below A w W
theorem makeB (n : Nat) (h : n ≤ 140737488355328) : ∃ cur : Array Value, cur.size = n * 1 ∧ ∀ W : World, (Instr.makeSlice 30 (.int .i64 0) (.int .i64 (n : Int))).run Try.prog W = .ok (.slice (some ⟨W.heap.size, 0, none⟩) 0 n) (W.alloc (.cells cur 5)) := by
  obtain ⟨i0, hi, hz0, hz1, hz2⟩ := info_parts Try.info5
  refine ⟨madeCells (Value.cells (.int .u8 0)) (n * i0.size), by rw [size_madeCells, hz1], fun W => ?_⟩
  have := run_make (P := Try.prog) W 30 5 i0 _ Try.underlying30 hi hz0 .i64 .i64 0 (n : Int) (Int.le_refl _) (by omega) (by rw [hz2]; omega) (by omega)
  simpa only [Int.toNat_zero, Int.toNat_natCast] using this
theorem ownB {B : Nat} {w : World} {n : Nat} {cur : Array Value} (hB : B ≤ w.heap.size) (hn : n ≤ maxLen) (hs : cur.size = n * 1) : OwnK encB 5 1 B (w.alloc (.cells cur 5)) (some ⟨w.heap.size, 0, none⟩) n [] := by
  have : (flatK encB 1 ([] : List UInt8).toArray).toList = [] := by simp [flatK]
  unfold OwnK; rw [this]; exact World.ownsRow_made w cur n hB hn hs
theorem srcB1 {w : World} {b : Nat} (h : w.heap[b]? = some (.cells #[.int .u8 199] 5 (0, 0))) : SrcK encB 1 w (some ⟨b, 0, none⟩) 1 [(199 : UInt8)] := by
  refine LsOf.src (fun e => by cases e) (LsOf.one (Array.getElem?_eq_some_iff.1 h).1 fun c hc => ?_)
  obtain rfl : c = 0 := by omega
  unfold World.cell?
  rw [h]
  rfl
theorem OwnB {B : Nat} {w : World} {q : Option Addr} {cap : Nat} {l : List UInt8} (h : OwnK encB 5 1 B w q cap (l ++ [199])) : ∃ g, q = some ⟨g, 0, none⟩ := by
  rcases h.2 with ⟨h0, _⟩ | ⟨g, cp, cur, hv, _⟩
  · injection h0 with _ h0; simp at h0
  · injection hv with h1; exact ⟨g, h1⟩
end Go.Proofs.Ytonhagoeajhacaa

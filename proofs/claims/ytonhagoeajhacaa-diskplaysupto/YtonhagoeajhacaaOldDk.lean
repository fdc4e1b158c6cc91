/- A disk in memory: its box, its map, its files. -/
import Derived.Test.YtonhagoeajhacaaBase
import Derived.StringKeys
namespace Go.Proofs.Ytonhagoeajhacaa.Old
open Go.RowKit Go.Sort Go.ChangeMaps Go.MapKept
open Go.Maps (Keyed)

/-- How a file's pointer reads. -/
def Rp : Value → Option (DataW Unit × List MemPlace)
  | .pointer (some ⟨g, 0, none⟩) => some (.lit (.int .i64 (g : Int)), [])
  | .pointer none => some (.nil, [])
  | _ => none
def ptr : Option Nat → Value
  | none => .pointer none
  | some g => .pointer (some ⟨g, 0, none⟩)
theorem Rp_inv {v : Value} {g : Int} {ps : List MemPlace} (h : Rp v = some (.lit (.int .i64 g), ps)) : ∃ n : Nat, g = (n : Int) ∧ v = .pointer (some ⟨n, 0, none⟩) := by
  unfold Rp at h
  split at h
  · injection h with h; injection h with h1 h2; injection h1 with h1; injection h1 with _ h1; exact ⟨_, h1.symm, rfl⟩
  · injection h with h; injection h with h1 h2; cases h1
  · cases h
theorem keyS : Keyed Try.prog  9 := Maps.string_keyed Try.underlying9
theorem key_of {s : ByteArray} (h : s.size ≤ maxLen) : keyOf Try.prog  9 (.string s) = some (.string s.data.toList) := Go.WideMaps.keyOf_string_mk Try.underlying9 h
theorem ba_ext {s t : ByteArray} (h : s.data.toList = t.data.toList) : s = t := by
  cases s; cases t
  simp only at h
  rw [Array.toList_inj.1 h]
/-- Block m is a map of names to files. -/
def FM (w : World) (m n : Nat) (f : ByteArray → Option Nat) : Prop :=
  ∃ D : DataW Unit, w.ownsMap Try.prog  9 Rp m n D ∧ ∀ nm zd, D.atKey (.string nm.data.toList) zd = match f nm with | none => zd | some g => .lit (.int .i64 (g : Int))
theorem FM.made (w : World) : FM (w.alloc (.map #[] 0)) w.heap.size 0 (fun _ => none) := ⟨.map [], World.ownsMap_made w _ _ _, fun _ _ => rfl⟩
theorem FM.lt {w : World} {m n : Nat} {f : ByteArray → Option Nat} (h : FM w m n f) : m < w.heap.size := by obtain ⟨D, h1, _⟩ := h; exact h1.lt
theorem FM.kept {w w' : World} {m n : Nat} {f : ByteArray → Option Nat} {row : Option Nat} (h : FM w m n f) (hg : w.grownBy w' row) (hne : some m ≠ row) : FM w' m n f := by
  obtain ⟨D, h1, h2⟩ := h; exact ⟨D, h1.kept hg hne, h2⟩
theorem FM.below {w w' : World} {m n : Nat} {f : ByteArray → Option Nat} (h : FM w m n f) (hb : Below w.heap.size w w') : FM w' m n f := by
  refine h.kept (row := none) ⟨hb.os, hb.tape, hb.output, hb.size, fun i hi _ => hb.block i hi⟩ (by simp)
theorem FM.look {w : World} {m n : Nat} {f : ByteArray → Option Nat} (h : FM w m n f) {nm : ByteArray} (hs : nm.size ≤ maxLen) : (Instr.lookup 44 (.map (some m)) (.string nm) false).run Try.prog w = .ok (ptr (f nm)) w := by
  obtain ⟨D, ⟨es, clock, hb, F, _, rfl⟩, h2⟩ := h
  have hz : (zeroValue 63).run Try.prog w = .ok (.pointer none) w := Try.zeroValue63 w
  rcases Maps.fit_look false keyS Try.underlying44 hz hb F (key_of hs) with ⟨hrun, _, hat⟩ | ⟨e0, y, _, _, hrun, hRv, hat, _⟩
  · cases hf : f nm with
    | none => exact hrun
    | some g =>
      have h3 := h2 nm (.nil : DataW Unit)
      rw [hf, hat] at h3
      cases h3
  · cases hf : f nm with
    | none =>
      have h3 := h2 nm (.nil : DataW Unit)
      have h4 := h2 nm (.lit (.bool true) : DataW Unit)
      rw [hf, hat] at h3 h4
      rw [h3] at h4
      cases h4
    | some g =>
      have h3 := h2 nm (.nil : DataW Unit)
      rw [hf, hat] at h3
      obtain ⟨y1, y2⟩ := y
      simp only at h3
      subst h3
      obtain ⟨k, hk, hv⟩ := Rp_inv hRv
      obtain rfl : g = k := by omega
      rw [hv] at hrun
      exact hrun
/-- One name more, or another file under it. -/
def upd {α : Type} (f : ByteArray → Option α) (nm : ByteArray) (x : Option α) : ByteArray → Option α := fun k => if k = nm then x else f k
theorem upd_same {α : Type} (f : ByteArray → Option α) (nm : ByteArray) (x : Option α) : upd f nm x nm = x := if_pos rfl
theorem upd_ne {α : Type} (f : ByteArray → Option α) {nm k : ByteArray} (x : Option α) (h : k ≠ nm) : upd f nm x k = f k := if_neg h
theorem lit_ne {a b : ByteArray} (h : a ≠ b) : Lit.string a.data.toList ≠ Lit.string b.data.toList := fun e => h (by injection e with e; exact ba_ext e)
theorem FM.put {w : World} {m n : Nat} {f : ByteArray → Option Nat} (h : FM w m n f) (hn : n < maxLen) {nm : ByteArray} (hs : nm.size ≤ maxLen) (g : Nat) :
    ∃ w', (Instr.mapUpdate 44 (.map (some m)) (.string nm) (.pointer (some ⟨g, 0, none⟩))).run Try.prog w = .ok () w' ∧ FM w' m (n + 1) (upd f nm (some g)) ∧ w.grownBy w' (some m) := by
  obtain ⟨D, h1, h2⟩ := h
  obtain ⟨w', hr, h3, h4⟩ := h1.update keyS Try.underlying44 hn (key_of hs) (show Rp (.pointer (some ⟨g, 0, none⟩)) = some (.lit (.int .i64 (g : Int)), []) from rfl)
  refine ⟨w', hr, ⟨_, h3, fun k zd => ?_⟩, h4⟩
  by_cases e : k = nm
  · subst e
    rw [upd_same, Maps.atKey_put_same (h1.isMap) (keyS.key (key_of hs))]
  · rw [upd_ne _ _ e, Maps.atKey_put_other (lit_ne e), h2]
theorem FM.del {w : World} {m n : Nat} {f : ByteArray → Option Nat} (h : FM w m n f) {nm : ByteArray} (hs : nm.size ≤ maxLen) (ty : TypeId) :
    ∃ w', (Builtin.delete_ #[44, 9] ty #[.map (some m), .string nm]).run Try.prog w = .ok (.tuple #[]) w' ∧ FM w' m n (upd f nm none) ∧ w.grownBy w' (some m) := by
  obtain ⟨D, h1, h2⟩ := h
  obtain ⟨w', hr, h3, h4⟩ := h1.drop keyS Try.underlying44 (key_of hs) ty
  refine ⟨w', hr, ⟨_, h3, fun k zd => ?_⟩, h4.grown⟩
  by_cases e : k = nm
  · subst e
    rw [upd_same, Maps.atKey_del_same]
  · rw [upd_ne _ _ e, Maps.atKey_del_other (lit_ne e), h2]
/-- A file; a disk, as told. -/
structure Fl where
  bytes : List UInt8
  lasts : Nat
structure Dk where
  get : ByteArray → Option Fl
  n : Nat
  acts : Nat
  off : Bool
  named : Nat
  part : Int
def FlAt (B : Nat) (w : World) (h : Nat) (q : Option Addr) (c : Nat) (fl : Fl) : Prop :=
  B ≤ h ∧ w.heap[h]? = some (.cells #[.slice q fl.bytes.length c, .int .i64 (fl.lasts : Int)] 67 (0, 0)) ∧ OwnK encB 5 1 B w q c fl.bytes ∧ fl.lasts ≤ fl.bytes.length
structure DkIn (B : Nat) (w : World) (g : Nat) (s : Dk) (m : Nat) (h : ByteArray → Nat) (q : ByteArray → Option Addr) (c : ByteArray → Nat) : Prop where
  bg : B ≤ g
  bm : B ≤ m
  small : s.named ≤ 9223372036854775807
  box : w.heap[g]? = some (.cells #[.int .i64 (s.acts : Int), .bool s.off, .int .i64 (s.named : Int), .int .i64 s.part, .map (some m)] 46 (0, 0))
  map : FM w m s.n (fun nm => (s.get nm).map fun _ => h nm)
  file : ∀ nm fl, s.get nm = some fl → FlAt B w (h nm) (q nm) (c nm) fl
  apart : ∀ nm nm' fl fl', s.get nm = some fl → s.get nm' = some fl' → nm ≠ nm' → h nm ≠ h nm' ∧ ∀ p p', q nm = some p → q nm' = some p' → p.block ≠ p'.block
def DkAt (B : Nat) (w : World) (g : Nat) (s : Dk) : Prop := ∃ m h q c, DkIn B w g s m h q c
theorem FlAt.below {B : Nat} {w w' : World} {h c : Nat} {q : Option Addr} {fl : Fl} (hf : FlAt B w h q c fl) (hb : Below w.heap.size w w') : FlAt B w' h q c fl :=
  ⟨hf.1, (hb.block h (Array.getElem?_eq_some_iff.1 hf.2.1).1).trans hf.2.1, hf.2.2.1.below hb, hf.2.2.2⟩
theorem DkIn.below {B : Nat} {w w' : World} {g m : Nat} {s : Dk} {h : ByteArray → Nat} {q : ByteArray → Option Addr} {c : ByteArray → Nat} (hd : DkIn B w g s m h q c) (hb : Below w.heap.size w w') : DkIn B w' g s m h q c :=
  ⟨hd.bg, hd.bm, hd.small, (hb.block g (Array.getElem?_eq_some_iff.1 hd.box).1).trans hd.box, hd.map.below hb, fun nm fl hf => (hd.file nm fl hf).below hb, hd.apart⟩
theorem DkAt.below {B : Nat} {w w' : World} {g : Nat} {s : Dk} (hd : DkAt B w g s) (hb : Below w.heap.size w w') : DkAt B w' g s := by
  obtain ⟨m, h, q, c, hi⟩ := hd; exact ⟨m, h, q, c, hi.below hb⟩
/-- A row of the call's own stays while another block is written. -/
theorem own_other {B : Nat} {w w' : World} {q : Option Addr} {cap : Nat} {l : List UInt8} {r : Nat} (h : OwnK encB 5 1 B w q cap l) (hg : w.grownBy w' (some r)) (hne : ∀ p, q = some p → p.block ≠ r) : OwnK encB 5 1 B w' q cap l := by
  refine ⟨h.1, ?_⟩
  rcases h.2 with h0 | ⟨g, cp, cur, hv, hB, hblk, hr⟩
  · exact Or.inl h0
  · refine Or.inr ⟨g, cp, cur, hv, hB, (hg.block g (Array.getElem?_eq_some_iff.1 hblk).1 ?_).trans hblk, hr⟩
    injection hv with h1
    intro e
    injection e with e
    exact hne _ h1 (by simp only; exact e)
/-- What a row's block holds: cells of bytes. -/
theorem own_cells {B : Nat} {w : World} {q : Option Addr} {cap : Nat} {l : List UInt8} (h : OwnK encB 5 1 B w q cap l) {p : Addr} (hp : q = some p) : ∃ cur, w.heap[p.block]? = some (.cells cur 5 (0, 0)) := by
  subst hp
  rcases h.2 with ⟨h0, _⟩ | ⟨g, cp, cur, hv, hB, hblk, hr⟩
  · injection h0 with h0; cases h0
  · injection hv with h1
    injection h1 with h1
    subst h1
    exact ⟨cur, hblk⟩
theorem FM.is_map {w : World} {m n : Nat} {f : ByteArray → Option Nat} (h : FM w m n f) : ∃ es cl, w.heap[m]? = some (.map es cl) := by
  obtain ⟨D, ⟨es, cl, hb, _⟩, _⟩ := h; exact ⟨es, cl, hb⟩
/-- The box alone is written. -/
theorem DkIn.turn {B : Nat} {w w' : World} {g m : Nat} {s s' : Dk} {h : ByteArray → Nat} {q : ByteArray → Option Addr} {c : ByteArray → Nat} (hd : DkIn B w g s m h q c) (hg : w.grownBy w' (some g)) (he : s'.get = s.get) (hn : s'.n = s.n) (hsm : s'.named ≤ 9223372036854775807)
    (hb : w'.heap[g]? = some (.cells #[.int .i64 (s'.acts : Int), .bool s'.off, .int .i64 (s'.named : Int), .int .i64 s'.part, .map (some m)] 46 (0, 0))) : DkIn B w' g s' m h q c := by
  refine ⟨hd.bg, hd.bm, hsm, hb, ?_, ?_, by rw [he]; exact hd.apart⟩
  · rw [he, hn]
    refine hd.map.kept hg ?_
    intro e
    injection e with e
    subst e
    obtain ⟨es, cl, hm⟩ := hd.map.is_map
    rw [hd.box] at hm
    cases hm
  · intro nm fl hf
    rw [he] at hf
    obtain ⟨f1, f2, f3, f4⟩ := hd.file nm fl hf
    refine ⟨f1, (hg.block _ (Array.getElem?_eq_some_iff.1 f2).1 ?_).trans f2, own_other f3 hg ?_, f4⟩
    · intro e
      injection e with e
      rw [e, hd.box] at f2
      injection f2 with f2
      injection f2 with _ f2
      cases f2
    · intro p hp e
      obtain ⟨cur, hc⟩ := own_cells f3 hp
      rw [e, hd.box] at hc
      injection hc with hc
      injection hc with _ hc
      cases hc
end Go.Proofs.Ytonhagoeajhacaa.Old

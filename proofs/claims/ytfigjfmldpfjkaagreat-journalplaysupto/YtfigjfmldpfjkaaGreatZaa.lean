/- A disk in memory: its box, its map, its files. -/
import Derived.Test.YtfigjfmldpfjkaaGreatBase
import Derived.StringKeys
import Derived.Lib.SliceRun
namespace Go.Proofs.YtfigjfmldpfjkaaGreat
open Go.RowKit Go.Sort Go.ChangeMaps Go.MapKept
open Go.Maps (Keyed)

/-- How a file's pointer reads. -/
def Rp : Value → Option (DataW Unit × List MemPlace)
  | .pointer (some ⟨g, 0, none⟩) => some (.lit (.int .i64 (g : Int)), [])
  | .pointer none => some (.nil, [])
  | _ => none
def ptr : Option Nat → Value
  | none => .pointer none
  | some g => .pointer (some ⟨g, 0, none⟩)
theorem Rp_inv {v : Value} {g : Int} {ps : List MemPlace} (h : Rp v = some (.lit (.int .i64 g), ps)) : ∃ n : Nat, g = (n : Int) ∧ v = .pointer (some ⟨n, 0, none⟩) := by
  unfold Rp at h
  split at h
  · injection h with h; injection h with h1 h2; injection h1 with h1; injection h1 with _ h1; exact ⟨_, h1.symm, rfl⟩
  · injection h with h; injection h with h1 h2; cases h1
  · cases h
theorem keyS : Keyed Tryz.prog  9 := Maps.string_keyed Tryz.underlying9
theorem key_of {s : ByteArray} (h : s.size ≤ maxLen) : keyOf Tryz.prog  9 (.string s) = some (.string s.data.toList) := Go.WideMaps.keyOf_string_mk Tryz.underlying9 h
theorem ba_ext {s t : ByteArray} (h : s.data.toList = t.data.toList) : s = t := by
  cases s; cases t
  simp only at h
  rw [Array.toList_inj.1 h]
/-- Block m is a map of names to files. -/
def FM (w : World) (m n : Nat) (f : ByteArray → Option Nat) : Prop :=
  ∃ D : DataW Unit, w.ownsMap Tryz.prog  9 Rp m n D ∧ ∀ nm zd, D.atKey (.string nm.data.toList) zd = match f nm with | none => zd | some g => .lit (.int .i64 (g : Int))
theorem FM.made (w : World) : FM (w.alloc (.map #[] 0)) w.heap.size 0 (fun _ => none) := ⟨.map [], World.ownsMap_made w _ _ _, fun _ _ => rfl⟩
theorem FM.lt {w : World} {m n : Nat} {f : ByteArray → Option Nat} (h : FM w m n f) : m < w.heap.size := by obtain ⟨D, h1, _⟩ := h; exact h1.lt
theorem FM.kept {w w' : World} {m n : Nat} {f : ByteArray → Option Nat} {row : Option Nat} (h : FM w m n f) (hg : w.grownBy w' row) (hne : some m ≠ row) : FM w' m n f := by
  obtain ⟨D, h1, h2⟩ := h; exact ⟨D, h1.kept hg hne, h2⟩
theorem FM.below {w w' : World} {m n : Nat} {f : ByteArray → Option Nat} (h : FM w m n f) (hb : Below w.heap.size w w') : FM w' m n f := by
  refine h.kept (row := none) ⟨hb.os, hb.tape, hb.output, hb.size, fun i hi _ => hb.block i hi⟩ (by simp)
theorem FM.look {w : World} {m n : Nat} {f : ByteArray → Option Nat} (h : FM w m n f) {nm : ByteArray} (hs : nm.size ≤ maxLen) : (Instr.lookup 49 (.map (some m)) (.string nm) false).run Tryz.prog w = .ok (ptr (f nm)) w := by
  obtain ⟨D, ⟨es, clock, hb, F, _, rfl⟩, h2⟩ := h
  have hz : (zeroValue 88).run Tryz.prog w = .ok (.pointer none) w := Tryz.zeroValue88 w
  rcases Maps.fit_look false keyS Tryz.underlying49 hz hb F (key_of hs) with ⟨hrun, _, hat⟩ | ⟨e0, y, _, _, hrun, hRv, hat, _⟩
  · cases hf : f nm with
    | none => exact hrun
    | some g =>
      have h3 := h2 nm (.nil : DataW Unit)
      rw [hf, hat] at h3
      cases h3
  · cases hf : f nm with
    | none =>
      have h3 := h2 nm (.nil : DataW Unit)
      have h4 := h2 nm (.lit (.bool true) : DataW Unit)
      rw [hf, hat] at h3 h4
      rw [h3] at h4
      cases h4
    | some g =>
      have h3 := h2 nm (.nil : DataW Unit)
      rw [hf, hat] at h3
      obtain ⟨y1, y2⟩ := y
      simp only at h3
      subst h3
      obtain ⟨k, hk, hv⟩ := Rp_inv hRv
      obtain rfl : g = k := by omega
      rw [hv] at hrun
      exact hrun
/-- One name more, or another file under it. -/
def upd {α : Type} (f : ByteArray → Option α) (nm : ByteArray) (x : Option α) : ByteArray → Option α := fun k => if k = nm then x else f k
theorem upd_same {α : Type} (f : ByteArray → Option α) (nm : ByteArray) (x : Option α) : upd f nm x nm = x := if_pos rfl
theorem upd_ne {α : Type} (f : ByteArray → Option α) {nm k : ByteArray} (x : Option α) (h : k ≠ nm) : upd f nm x k = f k := if_neg h
theorem lit_ne {a b : ByteArray} (h : a ≠ b) : Lit.string a.data.toList ≠ Lit.string b.data.toList := fun e => h (by injection e with e; exact ba_ext e)
theorem FM.put {w : World} {m n : Nat} {f : ByteArray → Option Nat} (h : FM w m n f) (hn : n < maxLen) {nm : ByteArray} (hs : nm.size ≤ maxLen) (g : Nat) :
    ∃ w', (Instr.mapUpdate 49 (.map (some m)) (.string nm) (.pointer (some ⟨g, 0, none⟩))).run Tryz.prog w = .ok () w' ∧ FM w' m (n + 1) (upd f nm (some g)) ∧ w.grownBy w' (some m) := by
  obtain ⟨D, h1, h2⟩ := h
  obtain ⟨w', hr, h3, h4⟩ := h1.update keyS Tryz.underlying49 hn (key_of hs) (show Rp (.pointer (some ⟨g, 0, none⟩)) = some (.lit (.int .i64 (g : Int)), []) from rfl)
  refine ⟨w', hr, ⟨_, h3, fun k zd => ?_⟩, h4⟩
  by_cases e : k = nm
  · subst e
    rw [upd_same, Maps.atKey_put_same (h1.isMap) (keyS.key (key_of hs))]
  · rw [upd_ne _ _ e, Maps.atKey_put_other (lit_ne e), h2]
theorem FM.del {w : World} {m n : Nat} {f : ByteArray → Option Nat} (h : FM w m n f) {nm : ByteArray} (hs : nm.size ≤ maxLen) (ty : TypeId) :
    ∃ w', (Builtin.delete_ #[49, 9] ty #[.map (some m), .string nm]).run Tryz.prog w = .ok (.tuple #[]) w' ∧ FM w' m n (upd f nm none) ∧ w.grownBy w' (some m) := by
  obtain ⟨D, h1, h2⟩ := h
  obtain ⟨w', hr, h3, h4⟩ := h1.drop keyS Tryz.underlying49 (key_of hs) ty
  refine ⟨w', hr, ⟨_, h3, fun k zd => ?_⟩, h4.grown⟩
  by_cases e : k = nm
  · subst e
    rw [upd_same, Maps.atKey_del_same]
  · rw [upd_ne _ _ e, Maps.atKey_del_other (lit_ne e), h2]
/-- A file; a disk, as told. -/
structure Fl where
  bytes : List UInt8
  lasts : Nat
structure Dk where
  get : ByteArray → Option Fl
  n : Nat
  acts : Nat
  off : Bool
  named : Nat
  part : Int
/-- Memory that is kept: the blocks of a set. -/
structure Kpt (B : Nat → Prop) (w w' : World) : Prop where
  os : w'.os = w.os
  tape : w'.tape = w.tape
  output : w'.output = w.output
  size : w.heap.size ≤ w'.heap.size
  block : ∀ i, B i → i < w.heap.size → w'.heap[i]? = w.heap[i]?
def Sub (B : Nat → Prop) (w : World) : Prop := ∀ i, B i → i < w.heap.size
theorem Sub.trans {B : Nat → Prop} {w w' : World} (h : Sub B w) (hs : w.heap.size ≤ w'.heap.size) : Sub B w' := fun i hi => Nat.lt_of_lt_of_le (h i hi) hs
theorem Kpt.trans {B : Nat → Prop} {w w1 w2 : World} (h : Kpt B w w1) (h2 : Kpt B w1 w2) : Kpt B w w2 :=
  ⟨h2.os.trans h.os, h2.tape.trans h.tape, h2.output.trans h.output, Nat.le_trans h.size h2.size, fun i hi hs => (h2.block i hi (Nat.lt_of_lt_of_le hs h.size)).trans (h.block i hi hs)⟩
theorem Kpt.of {B : Nat → Prop} {w w' : World} (h : Below w.heap.size w w') : Kpt B w w' := ⟨h.os, h.tape, h.output, h.size, fun i _ hs => h.block i hs⟩
theorem Kpt.refl (B : Nat → Prop) (w : World) : Kpt B w w := Kpt.of (Below.refl _ _)
theorem Kpt.mono {B B' : Nat → Prop} {w w' : World} (h : Kpt B w w') (hs : ∀ i, B' i → B i) : Kpt B' w w' := ⟨h.os, h.tape, h.output, h.size, fun i hi => h.block i (hs i hi)⟩
theorem Kpt.below {C : Nat} {B : Nat → Prop} {w w' : World} (h : Kpt B w w') (hC : ∀ i, i < C → B i ∧ i < w.heap.size) : Below C w w' := ⟨h.os, h.tape, h.output, h.size, fun i hi => h.block i (hC i hi).1 (hC i hi).2⟩
def FlAt (B : Nat → Prop) (w : World) (h : Nat) (q : Option Addr) (c : Nat) (fl : Fl) : Prop :=
  (¬ B h ∧ ∀ p, q = some p → ¬ B p.block) ∧ w.heap[h]? = some (.cells #[.slice q fl.bytes.length c, .int .i64 (fl.lasts : Int)] 118 (0, 0)) ∧ OwnK encB 5 1 0 w q c fl.bytes ∧ fl.lasts ≤ fl.bytes.length
structure DkIn (B : Nat → Prop) (w : World) (g : Nat) (s : Dk) (m : Nat) (h : ByteArray → Nat) (q : ByteArray → Option Addr) (c : ByteArray → Nat) : Prop where
  bg : ¬ B g
  bm : ¬ B m
  small : s.named ≤ 9223372036854775807
  box : w.heap[g]? = some (.cells #[.int .i64 (s.acts : Int), .bool s.off, .int .i64 (s.named : Int), .int .i64 s.part, .map (some m)] 51 (0, 0))
  map : FM w m s.n (fun nm => (s.get nm).map fun _ => h nm)
  file : ∀ nm fl, s.get nm = some fl → FlAt B w (h nm) (q nm) (c nm) fl
  apart : ∀ nm nm' fl fl', s.get nm = some fl → s.get nm' = some fl' → nm ≠ nm' → h nm ≠ h nm' ∧ ∀ p p', q nm = some p → q nm' = some p' → p.block ≠ p'.block
def DkAt (B : Nat → Prop) (w : World) (g : Nat) (s : Dk) : Prop := ∃ m h q c, DkIn B w g s m h q c
theorem FlAt.below {B : Nat → Prop} {w w' : World} {h c : Nat} {q : Option Addr} {fl : Fl} (hf : FlAt B w h q c fl) (hb : Below w.heap.size w w') : FlAt B w' h q c fl :=
  ⟨hf.1, (hb.block h (Array.getElem?_eq_some_iff.1 hf.2.1).1).trans hf.2.1, hf.2.2.1.below hb, hf.2.2.2⟩
theorem DkIn.below {B : Nat → Prop} {w w' : World} {g m : Nat} {s : Dk} {h : ByteArray → Nat} {q : ByteArray → Option Addr} {c : ByteArray → Nat} (hd : DkIn B w g s m h q c) (hb : Below w.heap.size w w') : DkIn B w' g s m h q c :=
  ⟨hd.bg, hd.bm, hd.small, (hb.block g (Array.getElem?_eq_some_iff.1 hd.box).1).trans hd.box, hd.map.below hb, fun nm fl hf => (hd.file nm fl hf).below hb, hd.apart⟩
theorem DkAt.below {B : Nat → Prop} {w w' : World} {g : Nat} {s : Dk} (hd : DkAt B w g s) (hb : Below w.heap.size w w') : DkAt B w' g s := by
  obtain ⟨m, h, q, c, hi⟩ := hd; exact ⟨m, h, q, c, hi.below hb⟩
/-- A row of the call's own stays while another block is written. -/
theorem own_other {B : Nat} {w w' : World} {q : Option Addr} {cap : Nat} {l : List UInt8} {r : Nat} (h : OwnK encB 5 1 B w q cap l) (hg : w.grownBy w' (some r)) (hne : ∀ p, q = some p → p.block ≠ r) : OwnK encB 5 1 B w' q cap l := by
  refine ⟨h.1, ?_⟩
  rcases h.2 with h0 | ⟨g, cp, cur, hv, hB, hblk, hr⟩
  · exact Or.inl h0
  · refine Or.inr ⟨g, cp, cur, hv, hB, (hg.block g (Array.getElem?_eq_some_iff.1 hblk).1 ?_).trans hblk, hr⟩
    injection hv with h1
    intro e
    injection e with e
    exact hne _ h1 (by simp only; exact e)
/-- What a row's block holds: cells of bytes. -/
theorem own_cells {B : Nat} {w : World} {q : Option Addr} {cap : Nat} {l : List UInt8} (h : OwnK encB 5 1 B w q cap l) {p : Addr} (hp : q = some p) : ∃ cur, w.heap[p.block]? = some (.cells cur 5 (0, 0)) := by
  subst hp
  rcases h.2 with ⟨h0, _⟩ | ⟨g, cp, cur, hv, hB, hblk, hr⟩
  · injection h0 with h0; cases h0
  · injection hv with h1
    injection h1 with h1
    subst h1
    exact ⟨cur, hblk⟩
theorem FM.is_map {w : World} {m n : Nat} {f : ByteArray → Option Nat} (h : FM w m n f) : ∃ es cl, w.heap[m]? = some (.map es cl) := by
  obtain ⟨D, ⟨es, cl, hb, _⟩, _⟩ := h; exact ⟨es, cl, hb⟩
/-- The box alone is written. -/
theorem DkIn.turn {B : Nat → Prop} {w w' : World} {g m : Nat} {s s' : Dk} {h : ByteArray → Nat} {q : ByteArray → Option Addr} {c : ByteArray → Nat} (hd : DkIn B w g s m h q c) (hg : w.grownBy w' (some g)) (he : s'.get = s.get) (hn : s'.n = s.n) (hsm : s'.named ≤ 9223372036854775807)
    (hb : w'.heap[g]? = some (.cells #[.int .i64 (s'.acts : Int), .bool s'.off, .int .i64 (s'.named : Int), .int .i64 s'.part, .map (some m)] 51 (0, 0))) : DkIn B w' g s' m h q c := by
  refine ⟨hd.bg, hd.bm, hsm, hb, ?_, ?_, by rw [he]; exact hd.apart⟩
  · rw [he, hn]
    refine hd.map.kept hg ?_
    intro e
    injection e with e
    subst e
    obtain ⟨es, cl, hm⟩ := hd.map.is_map
    rw [hd.box] at hm
    cases hm
  · intro nm fl hf
    rw [he] at hf
    obtain ⟨f1, f2, f3, f4⟩ := hd.file nm fl hf
    refine ⟨f1, (hg.block _ (Array.getElem?_eq_some_iff.1 f2).1 ?_).trans f2, own_other f3 hg ?_, f4⟩
    · intro e
      injection e with e
      rw [e, hd.box] at f2
      injection f2 with f2
      injection f2 with _ f2
      cases f2
    · intro p hp e
      obtain ⟨cur, hc⟩ := own_cells f3 hp
      rw [e, hd.box] at hc
      injection hc with hc
      injection hc with _ hc
      cases hc
end Go.Proofs.YtfigjfmldpfjkaaGreat
namespace Go.Proofs.YtfigjfmldpfjkaaGreat
open Go.RowKit

theorem size_toList (s : ByteArray) : s.toList.length = s.size := by rw [ByteArray.toList_eq]; simp
theorem empty_iff (s : ByteArray) : s.toList.isEmpty = true ↔ s.size = 0 := by
  rw [List.isEmpty_iff, ← List.length_eq_zero_iff, size_toList]

def isLet (c : Int) : Bool := decide (97 ≤ c) && decide (c ≤ 122)
def isDig (c : Int) : Bool := decide (48 ≤ c) && decide (c ≤ 57)
def okB (c : Int) : Bool := isLet c || isDig c || c == 95
def byteI (s : ByteArray) (i : Nat) : Int := if h : i < s.size then (s[i].toNat : Int) else 0
theorem byteI_lt {s : ByteArray} {i : Nat} (h : i < s.size) : byteI s i = (s[i].toNat : Int) := by unfold byteI; rw [dif_pos h]
/-- Is it a name? -/
def nameOk (s : ByteArray) : Bool := decide (1 ≤ s.size) && decide (s.size ≤ 32) && isLet (byteI s 0) && (List.range s.size).all fun i => okB (byteI s i)
theorem name_no0 {s : ByteArray} (h : s.size < 1) : nameOk s = false := by unfold nameOk; simp; omega
theorem name_no32 {s : ByteArray} (h : 32 < s.size) : nameOk s = false := by unfold nameOk; simp; omega
theorem name_noL {s : ByteArray} (h : isLet (byteI s 0) = false) : nameOk s = false := by unfold nameOk; simp [h]
theorem name_noB {s : ByteArray} {i : Nat} (hi : i < s.size) (h : okB (byteI s i) = false) : nameOk s = false := by
  unfold nameOk
  rw [Bool.and_eq_false_iff]
  right
  rw [Bool.eq_false_iff]
  intro hall
  rw [List.all_eq_true] at hall
  have := hall i (by simpa using hi)
  rw [h] at this; cases this
theorem name_yes {s : ByteArray} (h1 : 1 ≤ s.size) (h2 : s.size ≤ 32) (h3 : isLet (byteI s 0) = true) (h : ∀ j, j < s.size → okB (byteI s j) = true) : nameOk s = true := by
  unfold nameOk
  rw [h3]
  simp only [Bool.and_eq_true, decide_eq_true_eq, List.all_eq_true, List.mem_range]
  exact ⟨⟨⟨h1, h2⟩, trivial⟩, h⟩

set_option maxHeartbeats 400000 in
theorem schLet_any (c : Int) (w : World) :
    Calls Tryz.prog 113 #[.int .u8 c] w fun e w' => e = .returned (.bool (isLet c)) ∧ w' = w := by
  by_cases h1 : 97 ≤ c <;> by_cases h2 : c ≤ 122
  all_goals
    go_enter Tryz.func113, Tryz.ntmps113
    go_wp2
    go_ret
    exact ⟨ret_bool (by simp [isLet, h1, h2]), rfl⟩
set_option maxHeartbeats 400000 in
theorem schDig_any (c : Int) (w : World) :
    Calls Tryz.prog 114 #[.int .u8 c] w fun e w' => e = .returned (.bool (isDig c)) ∧ w' = w := by
  by_cases h1 : 48 ≤ c <;> by_cases h2 : c ≤ 57
  all_goals
    go_enter Tryz.func114, Tryz.ntmps114
    go_wp2
    go_ret
    exact ⟨ret_bool (by simp [isDig, h1, h2]), rfl⟩

set_option maxHeartbeats 1000000 in
theorem name_any (s : ByteArray) (w : World) :
    Calls Tryz.prog 93 #[.string s] w fun e w' => e = .returned (.bool (nameOk s)) ∧ w' = w := by
  by_cases h1 : s.size < 1
  · have hn := hide (name_no0 h1)
    have i1 : (s.size : Int) < 1 := by omega
    go_enter Tryz.func93, Tryz.ntmps93
    go_wp2
    go_ret
    exact ⟨ret_bool (unhide hn).symm, rfl⟩
  · by_cases h2 : 32 < s.size
    · have hn := hide (name_no32 h2)
      have i1 : ¬ (s.size : Int) < 1 := by omega
      have i2 : (32 : Int) < (s.size : Int) := by omega
      go_enter Tryz.func93, Tryz.ntmps93
      go_wp2
      go_ret
      exact ⟨ret_bool (unhide hn).symm, rfl⟩
    · have i1 : ¬ (s.size : Int) < 1 := by omega
      have i2 : ¬ (32 : Int) < (s.size : Int) := by omega
      have hb0 := byteI_lt (s := s) (i := 0) (by omega)
      have hlt := fun (c : Int) (W : World) => schLet_any c W
      have hdg := fun (c : Int) (W : World) => schDig_any c W
      cases hl : isLet (byteI s 0) with
      | false =>
        have hn := hide (name_noL hl)
        rw [hb0] at hl
        clear hb0
        have i0 : (0 : Int) < (s.size : Int) := by omega
        go_enter Tryz.func93, Tryz.ntmps93
        go_wp2_with (first | (go_at_call 113; refine (hlt _ _).mono ?_; rintro e w' ⟨rfl, rfl⟩))
        go_ret
        exact ⟨ret_bool (unhide hn).symm, rfl⟩
      | true =>
        have Hl := hide hl
        rw [hb0] at hl
        clear hb0
        have i0 : (0 : Int) < (s.size : Int) := by omega
        go_enter Tryz.func93, Tryz.ntmps93
        go_wp2_with (first | (go_at_call 113; refine (hlt _ _).mono ?_; rintro e w' ⟨rfl, rfl⟩))
        go_loop [20] (fun i => ∃ k : Nat, k ≤ s.size ∧ i = .int .i64 k ∧ ∀ j, j < k → okB (byteI s j) = true) (fun i => s.size - (intOf i).toNat)
        case atStart => exact ⟨0, by omega, rfl, fun j hj => by omega⟩
        case round =>
          obtain ⟨k, hk, rfl, hz⟩ := hrel
          have Hz := hide hz
          clear hz
          by_cases hkl : k < s.size
          · have ki0 : (0 : Int) ≤ (k : Int) := by omega
            have ki1 : (k : Int) < (s.size : Int) := by omega
            have hbk := byteI_lt hkl
            cases hok : okB (byteI s k) with
            | true =>
              have Hok := hide hok
              rw [hbk] at hok
              have hparts : (isLet (s[k].toNat : Int) = true) ∨ (isLet (s[k].toNat : Int) = false ∧ isDig (s[k].toNat : Int) = true) ∨ (isLet (s[k].toNat : Int) = false ∧ isDig (s[k].toNat : Int) = false ∧ ((s[k].toNat : Int) != 95) = false) := by
                revert hok; unfold okB
                cases isLet (s[k].toNat : Int) <;> cases isDig (s[k].toNat : Int) <;> simp
              clear hok hbk
              rcases hparts with p1 | ⟨p1, p2⟩ | ⟨p1, p2, p3⟩
              all_goals
                go_wp2_with (first | (go_at_call 113; refine (hlt _ _).mono ?_; rintro e w' ⟨rfl, rfl⟩) | (go_at_call 114; refine (hdg _ _).mono ?_; rintro e w' ⟨rfl, rfl⟩))
                go_round
                case rel => exact ⟨k + 1, by omega, by go_num, fun j hj => by
                  by_cases e : j = k
                  · rw [e]; exact unhide Hok
                  · exact unhide Hz j (by omega)⟩
                case measure => simp [intOf]; omega
            | false =>
              have hn := hide (name_noB hkl hok)
              rw [hbk] at hok
              have hparts : isLet (s[k].toNat : Int) = false ∧ isDig (s[k].toNat : Int) = false ∧ ((s[k].toNat : Int) != 95) = true := by
                revert hok; unfold okB
                cases isLet (s[k].toNat : Int) <;> cases isDig (s[k].toNat : Int) <;> simp
              obtain ⟨p1, p2, p3⟩ := hparts
              clear hok hbk
              go_wp2_with (first | (go_at_call 113; refine (hlt _ _).mono ?_; rintro e w' ⟨rfl, rfl⟩) | (go_at_call 114; refine (hdg _ _).mono ?_; rintro e w' ⟨rfl, rfl⟩))
              go_ret
              exact ⟨ret_bool (unhide hn).symm, rfl⟩
          · obtain rfl : k = s.size := by omega
            go_wp2
            go_ret
            exact ⟨ret_bool (name_yes (by omega) (by omega) (unhide Hl) (unhide Hz)).symm, rfl⟩

theorem name_a : nameOk ⟨#[97]⟩ = true := by decide
theorem name_b : nameOk ⟨#[98]⟩ = true := by decide
theorem name_a_1 : nameOk ⟨#[97, 95, 49]⟩ = true := by decide
end Go.Proofs.YtfigjfmldpfjkaaGreat
namespace Go.Proofs.YtfigjfmldpfjkaaGreat
open Go.RowKit Go.Sort

theorem grown_le {B : Nat → Prop} {w w' : World} {r : Nat} (hg : w.grownBy w' (some r)) (hB : ¬ B r) (_ : Sub B w) : Kpt B w w' :=
  ⟨hg.os, hg.tape, hg.output, hg.size, fun k hk hs => hg.block k hs (by intro e; injection e with e; exact hB (e ▸ hk))⟩
/-- The cells of a disk's box. -/
theorem cells5 {w : World} {g : Nat} {a b c d e : Value} {t : TypeId} (h : w.heap[g]? = some (.cells #[a, b, c, d, e] t (0, 0))) : (w.cell? ⟨g, 0, none⟩ = some a ∧ w.cell? ⟨g, 1, none⟩ = some b ∧ w.cell? ⟨g, 2, none⟩ = some c ∧ w.cell? ⟨g, 3, none⟩ = some d ∧ w.cell? ⟨g, 4, none⟩ = some e) ∧ w.frozen? ⟨g, 0, none⟩ = false ∧ w.frozen? ⟨g, 1, none⟩ = false ∧ w.frozen? ⟨g, 2, none⟩ = false ∧ w.frozen? ⟨g, 3, none⟩ = false := by
  refine ⟨⟨?_, ?_, ?_, ?_, ?_⟩, frozen_free h, frozen_free h, frozen_free h, frozen_free h⟩ <;> (unfold World.cell?; rw [h]; rfl)
theorem cells2 {w : World} {g : Nat} {a b : Value} {t : TypeId} (h : w.heap[g]? = some (.cells #[a, b] t (0, 0))) : (w.cell? ⟨g, 0, none⟩ = some a ∧ w.cell? ⟨g, 1, none⟩ = some b) ∧ w.frozen? ⟨g, 0, none⟩ = false ∧ w.frozen? ⟨g, 1, none⟩ = false := by
  refine ⟨⟨?_, ?_⟩, frozen_free h, frozen_free h⟩ <;> (unfold World.cell?; rw [h]; rfl)
theorem off_any {B : Nat → Prop} {w : World} {g : Nat} {s : Dk} (hd : DkAt B w g s) : Calls Tryz.prog 14 #[.pointer (some ⟨g, 0, none⟩)] w fun e w' => e = .returned (.bool s.off) ∧ w' = w := by
  obtain ⟨m, h, q, c, hi⟩ := hd
  obtain ⟨⟨c0, c1, c2, c3, c4⟩, _⟩ := cells5 hi.box
  clear hi
  go_enter Tryz.func14, Tryz.ntmps14
  go_wp2
  go_ret
  exact ⟨rfl, rfl⟩
theorem acts_any {B : Nat → Prop} {w : World} {g : Nat} {s : Dk} (hd : DkAt B w g s) : Calls Tryz.prog 19 #[.pointer (some ⟨g, 0, none⟩)] w fun e w' => e = .returned (.int .i64 (s.acts : Int)) ∧ w' = w := by
  obtain ⟨m, h, q, c, hi⟩ := hd
  obtain ⟨⟨c0, c1, c2, c3, c4⟩, _⟩ := cells5 hi.box
  clear hi
  go_enter Tryz.func19, Tryz.ntmps19
  go_wp2
  go_ret
  exact ⟨rfl, rfl⟩
theorem done_any {B : Nat → Prop} {w : World} {g : Nat} {s : Dk} (hd : DkAt B w g s) (n : Nat) : Calls Tryz.prog 57 #[.pointer (some ⟨g, 0, none⟩), .int .i64 (n : Int)] w fun e w' => e = .returned (.int .i64 ((min (max s.part 0) (n : Int)))) ∧ w' = w := by
  obtain ⟨m, h, q, c, hi⟩ := hd
  obtain ⟨⟨c0, c1, c2, c3, c4⟩, _⟩ := cells5 hi.box
  clear hi
  go_enter Tryz.func57, Tryz.ntmps57
  go_wp2
  go_ret
  exact ⟨rfl, rfl⟩
def empty : Dk := ⟨fun _ => none, 0, 0, false, 0, 0⟩
theorem new_any (w : World) : Calls Tryz.prog 6 #[] w fun e w' => e = .returned (.pointer (some ⟨w.heap.size + 1, 0, none⟩)) ∧ DkAt (· < w.heap.size) w' (w.heap.size + 1) empty ∧ Below w.heap.size w w' := by
  have hmk : ∀ W : World, (Instr.makeMap 49 none).run Tryz.prog W = .ok (.map (some W.heap.size)) (W.alloc (.map #[] 0)) := run_makeMap 49
  go_enter Tryz.func6, Tryz.ntmps6
  go_wp2
  go_ret
  have b1 : Below w.heap.size w (w.alloc (.map #[] 0)) := (Below.refl _ _).alloc (Nat.le_refl _) _
  have b2 := b1.alloc (by simp) (.cells #[.int .i64 0, .bool false, .int .i64 0, .int .i64 0, .map (some w.heap.size)] 51)
  have hs : (w.alloc (.map #[] 0)).heap.size = w.heap.size + 1 := by simp
  refine ⟨by simp, ⟨w.heap.size, fun _ => 0, fun _ => none, fun _ => 0, ⟨(by show ¬ w.heap.size + 1 < w.heap.size; omega), Nat.lt_irrefl _, by simp [empty], ?_, ?_, ?_, ?_⟩⟩, b2⟩
  · have := heap_alloc_new (w.alloc (.map #[] 0)) (.cells #[.int .i64 0, .bool false, .int .i64 0, .int .i64 0, .map (some w.heap.size)] 51)
    rw [hs] at this
    exact this
  · exact (FM.made w).below (by rw [hs]; exact (Below.refl _ _).alloc (by simp) _)
  · intro nm fl hf; cases hf
  · intro nm nm' fl fl' hf; cases hf
theorem wrap_int (x : Int) (h1 : -9223372036854775808 ≤ x) (h2 : x ≤ 9223372036854775807) : IntKind.i64.wrap x = x := by
  have e : (2 : Int) ^ IntKind.i64.bits = 18446744073709551616 := by decide
  have e2 : (2 : Int) ^ (IntKind.i64.bits - 1) = 9223372036854775808 := by decide
  have e3 : IntKind.i64.signed = true := rfl
  simp [IntKind.wrap, e, e2, e3]
  split <;> omega
/-- An act is spent. -/
theorem spend_no {B : Nat → Prop} {w : World} {g m : Nat} {s : Dk} {h : ByteArray → Nat} {q : ByteArray → Option Addr} {c : ByteArray → Nat} (hi : DkIn B w g s m h q c) (h1 : s.named = 1) :
    Calls Tryz.prog 56 #[.pointer (some ⟨g, 0, none⟩)] w fun e w' => e = .returned (.int .i64 40) ∧ DkIn B w' g { s with off := true } m h q c ∧ w.grownBy w' (some g) := by
  obtain ⟨⟨c0, c1, c2, c3, c4⟩, z0, z1, z2, z3⟩ := cells5 hi.box
  have b2 := heap_setCell_same w g 1 _ 51 (.bool true) hi.box
  have HI := hide hi
  have H3 := hide b2
  rw [h1] at c2
  clear hi b2
  go_enter Tryz.func56, Tryz.ntmps56
  go_wp2
  go_ret
  exact ⟨rfl, (unhide HI).turn (grown_set _ _ _ _) rfl rfl (unhide HI).small (unhide H3), grown_set _ _ _ _⟩
theorem spend_yes {B : Nat → Prop} {w : World} {g m : Nat} {s : Dk} {h : ByteArray → Nat} {q : ByteArray → Option Addr} {c : ByteArray → Nat} (hi : DkIn B w g s m h q c) (h1 : s.named ≠ 1) (ha : s.acts ≤ 4611686018427387904) :
    Calls Tryz.prog 56 #[.pointer (some ⟨g, 0, none⟩)] w fun e w' => e = .returned (.int .i64 0) ∧ DkIn B w' g { s with named := s.named - 1, acts := s.acts + 1 } m h q c ∧ w.grownBy w' (some g) := by
  obtain ⟨⟨c0, c1, c2, c3, c4⟩, z0, z1, z2, z3⟩ := cells5 hi.box
  have hsm := hi.small
  have b2 := heap_setCell_same w g 2 _ 51 (.int .i64 (max ((s.named : Int) - 1) 0)) hi.box
  have b3 := heap_setCell_same _ g 0 _ 51 (.int .i64 ((s.acts : Int) + 1)) b2
  obtain ⟨⟨d0, d1, d2, d3, d4⟩, y0, y1, y2, y3⟩ := cells5 b2
  have HI := hide hi
  have H3 := hide b3
  have e1 : ((s.named : Int) == 1) = false := by simp; omega
  have e2 : IntKind.i64.wrap ((s.named : Int) - 1) = (s.named : Int) - 1 := wrap_int _ (by omega) (by omega)
  clear hi b2 b3
  go_enter Tryz.func56, Tryz.ntmps56
  go_wp2
  go_ret
  have hg : w.grownBy ((w.setCell ⟨g, 2, none⟩ (.int .i64 (max ((s.named : Int) - 1) 0))).setCell ⟨g, 0, none⟩ (.int .i64 ((s.acts : Int) + 1))) (some g) := grown_trans (grown_set _ _ _ _) (grown_set _ _ _ _)
  refine ⟨rfl, (unhide HI).turn hg rfl rfl (by show s.named - 1 ≤ _; omega) ?_, hg⟩
  have h5 := unhide H3
  simp only
  rw [show ((s.named - 1 : Nat) : Int) = max ((s.named : Int) - 1) 0 by omega, show ((s.acts + 1 : Nat) : Int) = (s.acts : Int) + 1 by omega]
  exact h5
end Go.Proofs.YtfigjfmldpfjkaaGreat
namespace Go.Proofs.YtfigjfmldpfjkaaGreat
open Go.RowKit Go.Sort

def ckE (off : Bool) (l : List ByteArray) : Int := if off then 40 else if l.all nameOk then 0 else 1
set_option maxHeartbeats 1000000 in
theorem check_any {B : Nat → Prop} {w : World} {g : Nat} {s : Dk} (hd : DkAt B w g s) (p : Option Addr) (k : Nat) (l : List ByteArray) (hl : SlOf encS 1 w p k l) (hn : l.length ≤ 100) :
    Calls Tryz.prog 55 #[.pointer (some ⟨g, 0, none⟩), .slice p l.length k] w fun e w' => e = .returned (.int .i64 (ckE s.off l)) ∧ w' = w := by
  obtain ⟨m, h, q, c, hi⟩ := hd
  obtain ⟨⟨c0, c1, c2, c3, c4⟩, _⟩ := cells5 hi.box
  clear hi
  obtain ⟨R, hR⟩ : ∃ R, ckE s.off l = R := ⟨_, rfl⟩
  rw [hR]
  unfold ckE at hR
  have HR := hide hR
  clear hR
  cases ho : s.off with
  | true =>
    rw [ho] at c1 HR
    clear hl
    go_enter Tryz.func55, Tryz.ntmps55
    go_wp2
    go_ret
    exact ⟨ret_int (by rw [← unhide HR]; rfl), rfl⟩
  | false =>
    rw [ho] at c1 HR
    go_enter Tryz.func55, Tryz.ntmps55
    go_wp2
    go_loopw [14] (fun i wr => ∃ k : Nat, k ≤ l.length ∧ i = .int .i64 (k : Int) ∧ Hid (∀ x ∈ l.take k, nameOk x = true) ∧ wr = w) (fun i _ => l.length - (intOf i).toNat)
    case atStart => exact ⟨0, Nat.zero_le _, rfl, hide (by simp), rfl⟩
    case round =>
      obtain ⟨j, hj, rfl, HA, hw⟩ := hrel
      obtain rfl := hw.symm
      by_cases hlt : j < l.length
      · obtain ⟨x, hx, _⟩ := get_at hlt
        obtain ⟨b, off, hq, hb, cx⟩ := strAt hl hx
        subst hq
        have ki0 : (0 : Int) ≤ (j : Int) := by omega
        have ki1 : (j : Int) < (l.length : Int) := by omega
        have hnm := name_any x w
        have HT := hide (take_snoc_of hx)
        have HX := hide (List.mem_of_getElem? hx)
        cases hok : nameOk x with
        | true =>
          rw [hok] at hnm
          have HO := hide hok
          clear hl hx hok
          go_wp2_with (go_at_call 93; refine hnm.mono ?_; rintro e w1 ⟨rfl, hw1⟩; obtain rfl := hw1.symm)
          go_roundw
          case rel => exact ⟨j + 1, by omega, by go_num, hide (by rw [unhide HT]; intro y hy; rcases List.mem_append.1 hy with h | h; exact unhide HA y h; obtain rfl : y = x := (by simpa using h); exact unhide HO), trivial⟩
          case measure => simp [intOf]; omega
        | false =>
          rw [hok] at hnm
          have HO := hide hok
          clear hl hx hok
          go_wp2_with (go_at_call 93; refine hnm.mono ?_; rintro e w1 ⟨rfl, hw1⟩; obtain rfl := hw1.symm)
          go_ret
          refine ⟨ret_int ?_, rfl⟩
          rw [← unhide HR, if_neg (by simp), if_neg]
          intro hall
          have := List.all_eq_true.1 hall x (unhide HX)
          rw [unhide HO] at this
          cases this
      · obtain rfl : j = l.length := by omega
        have ki1 : ¬ (l.length : Int) < (l.length : Int) := by omega
        clear hl
        go_wp2
        go_ret
        refine ⟨ret_int ?_, rfl⟩
        rw [← unhide HR, if_neg (by simp), if_pos]
        have := unhide HA
        rw [List.take_length] at this
        exact List.all_eq_true.2 this
theorem flatS (l : List ByteArray) : (flatK encS 1 l.toArray).toList = l.map Value.string := by
  apply List.ext_getElem?
  intro j
  by_cases hj : j < l.length
  · obtain ⟨x, hx, _⟩ := get_at hj
    have := flat_at (enc := encS) (k := 1) hx 0 (by omega)
    rw [Nat.mul_one, Nat.add_zero] at this
    rw [this, List.getElem?_map, hx]; rfl
  · rw [List.getElem?_eq_none (by simp [flatK]; omega), List.getElem?_eq_none (by simp; omega)]
/-- Names in a new block. -/
theorem slA (w : World) (l : List ByteArray) (hl : l.length ≤ 100) : SlOf encS 1 (w.alloc (.cells (l.map Value.string).toArray 9)) (some ⟨w.heap.size, 0, none⟩) l.length l := by
  refine ⟨(fun h => by cases h), Nat.le_refl _, by unfold maxLen; omega, fun _ => ⟨w.heap.size, 0, rfl, by simp, fun j u hj => ?_⟩⟩
  rw [Nat.zero_add, cellA]
  rw [flatS] at hj
  simpa using hj
def errE (s : Dk) (nm : ByteArray) : Int := if s.off then 40 else if nameOk nm then (if (s.get nm).isSome then 0 else 41) else 1
theorem name_size {nm : ByteArray} (h : nameOk nm = true) : nm.size ≤ 32 := by
  unfold nameOk at h
  simp only [Bool.and_eq_true, decide_eq_true_eq] at h
  exact h.1.1.2
theorem ck_one (off : Bool) (nm : ByteArray) : ckE off [nm] = if off then 40 else if nameOk nm then 0 else 1 := by
  unfold ckE; simp
theorem find_yes {B : Nat → Prop} {w : World} {g m : Nat} {s : Dk} {h : ByteArray → Nat} {q : ByteArray → Option Addr} {c : ByteArray → Nat} (hi : DkIn B w g s m h q c) {nm : ByteArray} {fl : Fl} (ho : s.off = false) (hk : nameOk nm = true) (hf : s.get nm = some fl) :
    Calls Tryz.prog 70 #[.pointer (some ⟨g, 0, none⟩), .string nm] w fun e w' => e = .returned (.tuple #[.pointer (some ⟨h nm, 0, none⟩), .int .i64 0]) ∧ Below w.heap.size w w' := by
  have hb : Below w.heap.size w (w.alloc (.cells #[.string nm] 9)) := (Below.refl _ _).alloc (Nat.le_refl _) _
  have hi2 := hi.below hb
  have hck := check_any ⟨m, h, q, c, hi2⟩ (some ⟨w.heap.size, 0, none⟩) 1 [nm] (slA w [nm] (by simp)) (by simp)
  rw [ck_one, ho, hk] at hck
  simp only [List.length_cons, List.length_nil, Nat.zero_add, Bool.false_eq_true, if_false, if_true] at hck
  have hlk := hi2.map.look (nm := nm) (by have := name_size hk; unfold maxLen; omega)
  rw [hf] at hlk
  simp only [Option.map_some, ptr] at hlk
  obtain ⟨⟨c0, c1, c2, c3, c4⟩, _⟩ := cells5 hi2.box
  have HB := hide hb
  clear hi hi2 hb
  go_enter Tryz.func70, Tryz.ntmps70
  go_wp2_with (go_at_call 55; refine hck.mono ?_; rintro e w1 ⟨rfl, hw1⟩; obtain rfl := hw1.symm)
  refine bodyPost_ret (v := .tuple #[.pointer (some ⟨h nm, 0, none⟩), .int .i64 0]) (by simp [results, Tryz.f70, go_sem]) rfl ?_
  exact ⟨rfl, unhide HB⟩
theorem find_no {B : Nat → Prop} {w : World} {g m : Nat} {s : Dk} {h : ByteArray → Nat} {q : ByteArray → Option Addr} {c : ByteArray → Nat} (hi : DkIn B w g s m h q c) {nm : ByteArray} (he : errE s nm ≠ 0) :
    Calls Tryz.prog 70 #[.pointer (some ⟨g, 0, none⟩), .string nm] w fun e w' => e = .returned (.tuple #[.pointer none, .int .i64 (errE s nm)]) ∧ Below w.heap.size w w' := by
  have hb : Below w.heap.size w (w.alloc (.cells #[.string nm] 9)) := (Below.refl _ _).alloc (Nat.le_refl _) _
  have hi2 := hi.below hb
  have hck := check_any ⟨m, h, q, c, hi2⟩ (some ⟨w.heap.size, 0, none⟩) 1 [nm] (slA w [nm] (by simp)) (by simp)
  rw [ck_one] at hck
  unfold errE at he ⊢
  have HB := hide hb
  cases ho : s.off with
  | true =>
    rw [ho] at hck
    simp only [List.length_cons, List.length_nil, Nat.zero_add, if_true] at hck ⊢
    clear hi hi2 hb he
    go_enter Tryz.func70, Tryz.ntmps70
    go_wp2_with (go_at_call 55; refine hck.mono ?_; rintro e w1 ⟨rfl, hw1⟩; obtain rfl := hw1.symm)
    refine bodyPost_ret (v := .tuple #[.pointer none, .int .i64 40]) (by simp [results, Tryz.f70, go_sem]) rfl ?_
    exact ⟨rfl, unhide HB⟩
  | false =>
    rw [ho] at hck he
    cases hk : nameOk nm with
    | false =>
      rw [hk] at hck
      simp only [List.length_cons, List.length_nil, Nat.zero_add, Bool.false_eq_true, if_false] at hck ⊢
      clear hi hi2 hb he
      go_enter Tryz.func70, Tryz.ntmps70
      go_wp2_with (go_at_call 55; refine hck.mono ?_; rintro e w1 ⟨rfl, hw1⟩; obtain rfl := hw1.symm)
      refine bodyPost_ret (v := .tuple #[.pointer none, .int .i64 1]) (by simp [results, Tryz.f70, go_sem]) rfl ?_
      exact ⟨rfl, unhide HB⟩
    | true =>
      rw [hk] at hck he
      cases hf : s.get nm with
      | some fl => rw [hf] at he; simp at he
      | none =>
        have hlk := hi2.map.look (nm := nm) (by have := name_size hk; unfold maxLen; omega)
        rw [hf] at hlk
        simp only [Option.map_none, ptr] at hlk
        obtain ⟨⟨c0, c1, c2, c3, c4⟩, _⟩ := cells5 hi2.box
        simp only [List.length_cons, List.length_nil, Nat.zero_add, Bool.false_eq_true, if_false, if_true, Option.isSome_none] at hck ⊢
        clear hi hi2 hb he
        go_enter Tryz.func70, Tryz.ntmps70
        go_wp2_with (go_at_call 55; refine hck.mono ?_; rintro e w1 ⟨rfl, hw1⟩; obtain rfl := hw1.symm)
        refine bodyPost_ret (v := .tuple #[.pointer none, .int .i64 41]) (by simp [results, Tryz.f70, go_sem]) rfl ?_
        exact ⟨rfl, unhide HB⟩
set_option maxRecDepth 100000 in
set_option maxHeartbeats 1000000 in
theorem cloneB (q : Option Addr) (c : Nat) (l : List UInt8) (w : World) (h : SlOf encB 1 w q c l) (hl : l.length ≤ 140737488355328) :
    Calls Tryz.prog 80 #[.slice q l.length c] w fun e w' => (∃ q' c', e = .returned (.slice q' l.length c') ∧ OwnK encB 5 1 w.heap.size w' q' c' l) ∧ Below w.heap.size w w' := by
  cases q with
  | none =>
    obtain ⟨h0, rfl⟩ := h.1 rfl
    obtain rfl : l = [] := List.length_eq_zero_iff.1 h0
    have heq := fun (w : World) => Lib.run_eql_slice_nil (P := Tryz.prog) w 40 5 none 0 0 0 0 Tryz.underlying40
    clear h h0
    go_enter Tryz.func80, Tryz.ntmps80
    go_wp2
    go_ret
    exact ⟨⟨none, 0, rfl, OwnK.nil _ _⟩, Below.refl _ _⟩
  | some a =>
    have HS := hide h
    have heq := fun (w : World) => Lib.run_eql_slice_nil (P := Tryz.prog) w 40 5 (some a) l.length c 0 0 Tryz.underlying40
    clear h
    go_enter Tryz.func80, Tryz.ntmps80
    go_wp2_with (at_builtin; refine wpList_app rowB rfl _ _ rfl w.heap.size (some ⟨w.heap.size, 0, none⟩) 0 [] (some a) c l 0 l.length l.length rfl rfl (by omega) rfl rfl (OwnK.made _ _ (Nat.le_refl _)) ((unhide HS).below ((Below.refl _ _).alloc (Nat.le_refl _) _)).src (by unfold maxLen; omega) (by omega) (by simp) ?_; intro q2 c2 w2 hown2 hb2 _ hg2)
    go_ret
    exact ⟨⟨q2, c2, rfl, by simpa using hown2⟩, ((Below.refl _ _).alloc (Nat.le_refl _) _).trans hb2⟩
theorem read_yes {B : Nat → Prop} {w : World} {g : Nat} {s : Dk} (hd : DkAt B w g s) {nm : ByteArray} {fl : Fl} (ho : s.off = false) (hk : nameOk nm = true) (hf : s.get nm = some fl) (hl : fl.bytes.length ≤ 140737488355328) :
    Calls Tryz.prog 67 #[.pointer (some ⟨g, 0, none⟩), .string nm] w fun e w' => (∃ q' c', e = .returned (.tuple #[.slice q' fl.bytes.length c', .int .i64 0]) ∧ OwnK encB 5 1 w.heap.size w' q' c' fl.bytes) ∧ Below w.heap.size w w' := by
  obtain ⟨m, h, q, c, hi⟩ := hd
  have hfi := find_yes hi ho hk hf
  have hfl := hi.file nm fl hf
  have hcl := fun (W : World) (hW : SlOf encB 1 W (q nm) (c nm) fl.bytes) => cloneB (q nm) (c nm) fl.bytes W hW hl
  have HF := hide hfl
  clear hi hfl
  go_enter Tryz.func67, Tryz.ntmps67
  go_wp2_with (first
    | (go_at_call 70; refine hfi.mono ?_; rintro e w1 ⟨rfl, b1⟩; have f1 := (unhide HF).below b1; obtain ⟨⟨c0, c1⟩, _⟩ := cells2 f1.2.1; have S1 := hide f1.2.2.1.ls; have B1 := hide b1; clear b1 f1)
    | (go_at_call 80; refine (hcl _ (unhide S1)).mono ?_; rintro e w2 ⟨⟨q2, c2, rfl, o2⟩, b2⟩; have O2 := hide (o2.mono (unhide B1).size); have B2 := hide (below_sub (unhide B1) b2); clear o2 b2))
  refine bodyPost_ret (v := .tuple #[.slice q2 fl.bytes.length c2, .int .i64 0]) (by simp [results, Tryz.f67, go_sem]) rfl ?_
  exact ⟨⟨q2, c2, rfl, unhide O2⟩, unhide B2⟩
theorem read_no {B : Nat → Prop} {w : World} {g : Nat} {s : Dk} (hd : DkAt B w g s) {nm : ByteArray} (he : errE s nm ≠ 0) :
    Calls Tryz.prog 67 #[.pointer (some ⟨g, 0, none⟩), .string nm] w fun e w' => e = .returned (.tuple #[.slice none 0 0, .int .i64 (errE s nm)]) ∧ Below w.heap.size w w' := by
  obtain ⟨m, h, q, c, hi⟩ := hd
  have hfi := find_no hi he
  generalize errE s nm = E at he hfi ⊢
  have hE : (E == 0) = false := by simp [he]
  clear hi he
  go_enter Tryz.func67, Tryz.ntmps67
  go_wp2_with (go_at_call 70; refine hfi.mono ?_; rintro e w1 ⟨rfl, b1⟩; have B1 := hide b1; clear b1)
  refine bodyPost_ret (v := .tuple #[.slice none 0 0, .int .i64 E]) (by simp [results, Tryz.f67, go_sem]) rfl ?_
  exact ⟨rfl, unhide B1⟩
end Go.Proofs.YtfigjfmldpfjkaaGreat
namespace Go.Proofs.YtfigjfmldpfjkaaGreat
open Go.RowKit Go.Sort

structure Rf where
  nm : ByteArray
  p : Option Addr
  c : Nat
  bs : List UInt8
  la : Nat
instance : Inhabited Rf := ⟨⟨⟨#[]⟩, none, 0, [], 0⟩⟩
def encF (f : Rf) : List Value := [.string f.nm, .slice f.p f.bs.length f.c, .int .i64 (f.la : Int)]
structure Rk where
  fs : List Rf
  acts : Nat
  off : Bool
  named : Nat
  part : Int
def ltN (x y : ByteArray) : Prop := x.data.toList < y.data.toList
instance (x y : ByteArray) : Decidable (ltN x y) := inferInstanceAs (Decidable (x.data.toList < y.data.toList))
theorem ltN_irr (x : ByteArray) : ¬ ltN x x := List.lt_irrefl _
theorem ltN_trans {x y z : ByteArray} (h : ltN x y) (h2 : ltN y z) : ltN x z := List.lt_trans h h2
theorem ltN_tri {x y : ByteArray} (h : ¬ ltN x y) (hne : x ≠ y) : ltN y x := by
  unfold ltN at *
  rcases Std.lt_trichotomy x.data.toList y.data.toList with h1 | h1 | h1
  · exact absurd h1 h
  · exfalso; apply hne; cases x; cases y; simp only at h1; rw [Array.toList_inj.1 h1]
  · exact h1
def Srt (l : List Rf) : Prop := l.Pairwise fun x y => ltN x.nm y.nm
def stp (f : Rf) (o : List Rf × Bool) (x : Rf) : List Rf × Bool :=
  let o1 := if ltN x.nm f.nm then o else if o.2 then o else (o.1 ++ [f], true)
  if x.nm = f.nm then o1 else (o1.1 ++ [x], o1.2)
def fin (f : Rf) (o : List Rf × Bool) : List Rf := if o.2 then o.1 else o.1 ++ [f]
def putR (l : List Rf) (f : Rf) : List Rf := fin f (l.foldl (stp f) ([], false))
def dropR (l : List Rf) (nm : ByteArray) : List Rf := l.filter fun x => decide (x.nm ≠ nm)
theorem fold_snoc {l : List Rf} {k : Nat} {x f : Rf} (h : l[k]? = some x) : (l.take (k + 1)).foldl (stp f) ([], false) = stp f ((l.take k).foldl (stp f) ([], false)) x := by
  rw [List.take_add_one, h]; simp [List.foldl_append]
theorem drop_snoc {l : List Rf} {k : Nat} {x : Rf} {nm : ByteArray} (h : l[k]? = some x) : dropR (l.take (k + 1)) nm = if x.nm = nm then dropR (l.take k) nm else dropR (l.take k) nm ++ [x] := by
  rw [List.take_add_one, h]
  unfold dropR
  by_cases e : x.nm = nm <;> simp [e]
theorem drop_len (l : List Rf) (nm : ByteArray) : (dropR l nm).length ≤ l.length := List.length_filter_le _ _
theorem mem_drop {l : List Rf} {nm : ByteArray} {x : Rf} : x ∈ dropR l nm ↔ x ∈ l ∧ x.nm ≠ nm := by simp [dropR]
theorem srt_drop {l : List Rf} (h : Srt l) (nm : ByteArray) : Srt (dropR l nm) := List.Pairwise.filter _ h
theorem stp_lt {f x : Rf} (o : List Rf × Bool) (h : ltN x.nm f.nm) : stp f o x = (o.1 ++ [x], o.2) := by
  have hne : x.nm ≠ f.nm := fun e => ltN_irr _ (e ▸ h)
  unfold stp; simp only [if_pos h, if_neg hne]
theorem stp_gt1 {f x : Rf} {o : List Rf × Bool} (h : ¬ ltN x.nm f.nm) (hne : x.nm ≠ f.nm) (h2 : o.2 = true) : stp f o x = (o.1 ++ [x], true) := by
  unfold stp; simp only [if_neg h, if_neg hne, h2, if_true]
theorem stp_eq1 {f x : Rf} {o : List Rf × Bool} (hne : x.nm = f.nm) (h2 : o.2 = true) : stp f o x = (o.1, true) := by
  have h : ¬ ltN x.nm f.nm := by rw [hne]; exact ltN_irr _
  unfold stp; simp only [if_neg h, if_pos hne, h2, if_true]; rw [← h2]
theorem stp_eq0 {f x : Rf} {o : List Rf × Bool} (hne : x.nm = f.nm) (h2 : o.2 = false) : stp f o x = (o.1 ++ [f], true) := by
  have h : ¬ ltN x.nm f.nm := by rw [hne]; exact ltN_irr _
  unfold stp; simp only [if_neg h, if_pos hne, h2]; simp
theorem stp_gt0 {f x : Rf} {o : List Rf × Bool} (h : ¬ ltN x.nm f.nm) (hne : x.nm ≠ f.nm) (h2 : o.2 = false) : stp f o x = (o.1 ++ [f] ++ [x], true) := by
  unfold stp; simp only [if_neg h, if_neg hne, h2]; simp
theorem mem_fold (f : Rf) (l : List Rf) : ∀ (o : List Rf × Bool) (s : List Rf), (∀ x, x ∈ o.1 ↔ (o.2 = true ∧ x = f) ∨ (x ∈ s ∧ x.nm ≠ f.nm)) → ∀ x, x ∈ (l.foldl (stp f) o).1 ↔ ((l.foldl (stp f) o).2 = true ∧ x = f) ∨ (x ∈ s ++ l ∧ x.nm ≠ f.nm) := by
  induction l with
  | nil => intro o s h x; simpa using h x
  | cons y l ih =>
    intro o s h x
    rw [List.foldl_cons, show s ++ y :: l = (s ++ [y]) ++ l by simp]
    refine ih (stp f o y) (s ++ [y]) (fun z => ?_) x
    have hz := h z
    have hap : z ∈ s ++ [y] ∧ z.nm ≠ f.nm ↔ (z ∈ s ∧ z.nm ≠ f.nm) ∨ (z = y ∧ y.nm ≠ f.nm) := by
      rw [List.mem_append, List.mem_singleton]
      constructor
      · rintro ⟨h1 | rfl, h2⟩
        · exact Or.inl ⟨h1, h2⟩
        · exact Or.inr ⟨rfl, h2⟩
      · rintro (⟨h1, h2⟩ | ⟨rfl, h2⟩)
        · exact ⟨Or.inl h1, h2⟩
        · exact ⟨Or.inr rfl, h2⟩
    rw [hap]
    clear hap ih h
    by_cases h1 : ltN y.nm f.nm
    · have hne : y.nm ≠ f.nm := fun e => ltN_irr _ (e ▸ h1)
      rw [stp_lt o h1]
      simp only [List.mem_append, List.mem_singleton, hz]
      by_cases a : z = y <;> by_cases b : z ∈ s <;> by_cases c : z = f <;> by_cases d : z.nm = f.nm <;> by_cases e : o.2 = true <;> simp_all
    · by_cases h3 : y.nm = f.nm
      · by_cases h2 : o.2 = true
        · rw [stp_eq1 h3 h2]
          simp only [hz]
          by_cases a : z = y <;> by_cases b : z ∈ s <;> by_cases c : z = f <;> by_cases d : z.nm = f.nm <;> simp_all
        · have h2' : o.2 = false := by simpa using h2
          rw [stp_eq0 h3 h2']
          simp only [List.mem_append, List.mem_singleton, hz]
          by_cases a : z = y <;> by_cases b : z ∈ s <;> by_cases c : z = f <;> by_cases d : z.nm = f.nm <;> simp_all
      · by_cases h2 : o.2 = true
        · rw [stp_gt1 h1 h3 h2]
          simp only [List.mem_append, List.mem_singleton, hz]
          by_cases a : z = y <;> by_cases b : z ∈ s <;> by_cases c : z = f <;> by_cases d : z.nm = f.nm <;> simp_all
        · have h2' : o.2 = false := by simpa using h2
          rw [stp_gt0 h1 h3 h2']
          simp only [List.mem_append, List.mem_singleton, hz]
          by_cases a : z = y <;> by_cases b : z ∈ s <;> by_cases c : z = f <;> by_cases d : z.nm = f.nm <;> simp_all
theorem mem_put {l : List Rf} {f x : Rf} : x ∈ putR l f ↔ x = f ∨ (x ∈ l ∧ x.nm ≠ f.nm) := by
  have h := mem_fold f l ([], false) [] (fun x => by simp) x
  simp only [List.nil_append] at h
  unfold putR fin
  by_cases h2 : (l.foldl (stp f) ([], false)).2 = true
  · rw [if_pos h2, h]; simp [h2]
  · rw [if_neg h2, List.mem_append, h]
    simp only [List.mem_singleton]
    constructor
    · rintro ((h | h) | h)
      · exact absurd h.1 h2
      · exact Or.inr h
      · exact Or.inl h
    · rintro (h | h)
      · exact Or.inr h
      · exact Or.inl (Or.inr h)
theorem stp_len (f : Rf) (o : List Rf × Bool) (y : Rf) : (stp f o y).1.length + (if (stp f o y).2 = true then 0 else 1) ≤ o.1.length + 1 + (if o.2 = true then 0 else 1) := by
  by_cases h1 : ltN y.nm f.nm
  · rw [stp_lt o h1]; simp only [List.length_append, List.length_singleton]; omega
  · by_cases h3 : y.nm = f.nm
    · by_cases h2 : o.2 = true
      · rw [stp_eq1 h3 h2, h2]; simp
      · have h2' : o.2 = false := by simpa using h2
        rw [stp_eq0 h3 h2', h2']; simp
    · by_cases h2 : o.2 = true
      · rw [stp_gt1 h1 h3 h2, h2]; simp
      · have h2' : o.2 = false := by simpa using h2
        rw [stp_gt0 h1 h3 h2', h2']; simp
theorem len_fold (f : Rf) (l : List Rf) : ∀ o : List Rf × Bool, (l.foldl (stp f) o).1.length + (if (l.foldl (stp f) o).2 = true then 0 else 1) ≤ o.1.length + l.length + (if o.2 = true then 0 else 1) := by
  induction l with
  | nil => intro o; exact Nat.le_refl _
  | cons y l ih =>
    intro o
    rw [List.foldl_cons]
    have h := ih (stp f o y)
    have h1 := stp_len f o y
    simp only [List.length_cons]
    omega
theorem len_put (l : List Rf) (f : Rf) : (putR l f).length ≤ l.length + 1 := by
  have h := len_fold f l ([], false)
  simp only [List.length_nil, Bool.false_eq_true, if_false] at h
  unfold putR fin
  by_cases h2 : (l.foldl (stp f) ([], false)).2 = true
  · rw [if_pos h2] at h ⊢; omega
  · rw [if_neg h2] at h ⊢; simp only [List.length_append, List.length_singleton]; omega
theorem len_take_fold (l : List Rf) (f : Rf) (k : Nat) : ((l.take k).foldl (stp f) ([], false)).1.length ≤ l.length + 1 := by
  have h := len_fold f (l.take k) ([], false)
  simp only [List.length_nil, Bool.false_eq_true, if_false, List.length_take] at h
  omega
def FI (f : Rf) (s : List Rf) (o : List Rf × Bool) : Prop := (o.2 = false ∧ o.1 = s ∧ ∀ z ∈ s, ltN z.nm f.nm) ∨ (o.2 = true ∧ Srt o.1 ∧ (∀ y ∈ o.1, y = f ∨ y ∈ s) ∧ ∃ z ∈ s, ¬ ltN z.nm f.nm)
theorem srt_snoc {l : List Rf} {x : Rf} (h : Srt l) (hx : ∀ y ∈ l, ltN y.nm x.nm) : Srt (l ++ [x]) := by
  unfold Srt at *
  rw [List.pairwise_append]
  exact ⟨h, by simp, fun a ha b hb => by rw [List.mem_singleton] at hb; rw [hb]; exact hx a ha⟩
theorem FI.step {f : Rf} {s : List Rf} {o : List Rf × Bool} {x : Rf} (h : FI f s o) (hs : Srt s) (hx : ∀ z ∈ s, ltN z.nm x.nm) : FI f (s ++ [x]) (stp f o x) := by
  rcases h with ⟨h1, h2, h3⟩ | ⟨h1, h2, h3, z, hz, h4⟩
  · by_cases hl : ltN x.nm f.nm
    · rw [stp_lt o hl]
      refine Or.inl ⟨h1, by rw [h2], fun z hz => ?_⟩
      rw [List.mem_append, List.mem_singleton] at hz
      rcases hz with hz | rfl
      · exact h3 z hz
      · exact hl
    · have hw : ∃ z ∈ s ++ [x], ¬ ltN z.nm f.nm := ⟨x, by simp, hl⟩
      have hsf : Srt (o.1 ++ [f]) := srt_snoc (h2 ▸ hs) (fun y hy => h3 y (h2 ▸ hy))
      by_cases hne : x.nm = f.nm
      · rw [stp_eq0 hne h1]
        refine Or.inr ⟨rfl, hsf, fun y hy => ?_, hw⟩
        rw [List.mem_append, List.mem_singleton] at hy
        rcases hy with hy | rfl
        · exact Or.inr (List.mem_append_left _ (h2 ▸ hy))
        · exact Or.inl rfl
      · rw [stp_gt0 hl hne h1]
        refine Or.inr ⟨rfl, srt_snoc hsf fun y hy => ?_, fun y hy => ?_, hw⟩
        · rw [List.mem_append, List.mem_singleton] at hy
          rcases hy with hy | rfl
          · exact hx y (h2 ▸ hy)
          · exact ltN_tri hl hne
        · simp only [List.mem_append, List.mem_singleton] at hy
          rcases hy with (hy | rfl) | rfl
          · exact Or.inr (List.mem_append_left _ (h2 ▸ hy))
          · exact Or.inl rfl
          · exact Or.inr (by simp)
  · have hzx := hx z hz
    have hfx : ltN f.nm x.nm := by
      by_cases e : z.nm = f.nm
      · rw [← e]; exact hzx
      · exact ltN_trans (ltN_tri h4 e) hzx
    have hl : ¬ ltN x.nm f.nm := fun e => ltN_irr _ (ltN_trans e hfx)
    have hne : x.nm ≠ f.nm := fun e => hl (by rw [e] at hfx; exact absurd hfx (ltN_irr _))
    rw [stp_gt1 hl hne h1]
    refine Or.inr ⟨rfl, srt_snoc h2 fun y hy => ?_, fun y hy => ?_, z, List.mem_append_left _ hz, h4⟩
    · rcases h3 y hy with rfl | hy
      · exact hfx
      · exact hx y hy
    · rw [List.mem_append, List.mem_singleton] at hy
      rcases hy with hy | rfl
      · rcases h3 y hy with h | h
        · exact Or.inl h
        · exact Or.inr (List.mem_append_left _ h)
      · exact Or.inr (by simp)
theorem FI.all (f : Rf) (l : List Rf) : ∀ (o : List Rf × Bool) (s : List Rf), FI f s o → Srt (s ++ l) → FI f (s ++ l) (l.foldl (stp f) o) := by
  induction l with
  | nil => intro o s h _; simpa using h
  | cons y l ih =>
    intro o s h hs
    rw [List.foldl_cons, show s ++ y :: l = (s ++ [y]) ++ l by simp]
    have hs' := hs
    unfold Srt at hs'
    rw [List.pairwise_append] at hs'
    exact ih _ _ (h.step hs'.1 fun z hz => hs'.2.2 z hz y (by simp)) (by simpa using hs)
theorem srt_put {l : List Rf} (h : Srt l) (f : Rf) : Srt (putR l f) := by
  have h2 := FI.all f l ([], false) [] (Or.inl ⟨rfl, rfl, by simp⟩) (by simpa using h)
  simp only [List.nil_append] at h2
  unfold putR fin
  rcases h2 with ⟨h1, h2, h3⟩ | ⟨h1, h2, _⟩
  · rw [h1, if_neg (by simp), h2]; exact srt_snoc h h3
  · rw [h1, if_pos rfl]; exact h2
end Go.Proofs.YtfigjfmldpfjkaaGreat
namespace Go.Proofs.YtfigjfmldpfjkaaGreat
open Go.RowKit Go.Sort

def cmpI (a b : Int) : Int := if a < b then -1 else if b < a then 1 else 0
theorem cmpI_lt {a b : Int} (h : a < b) : cmpI a b = -1 := if_pos h
theorem cmpI_gt {a b : Int} (h : b < a) : cmpI a b = 1 := by unfold cmpI; rw [if_neg (by omega), if_pos h]
theorem cmpI_eq {a b : Int} (h : ¬ a < b) (h2 : ¬ b < a) : cmpI a b = 0 := by unfold cmpI; rw [if_neg h, if_neg h2]
def cmpS (a b : List UInt8) : Int := if a < b then -1 else if a = b then 0 else 1
theorem below_drewN {B : Nat} {w w1 : World} (h : Below B w w1) (n : Nat) : Below B w (w1.drewN n) := ⟨h.os, h.tape, h.output, h.size, h.block⟩
set_option maxHeartbeats 400000 in
theorem ints_any (a b : Int) (w : World) :
    Calls Tryz.prog 116 #[.int .i64 a, .int .i64 b] w fun e w' => e = .returned (.int .i64 (cmpI a b)) ∧ w' = w := by
  by_cases h1 : a < b
  · go_enter Tryz.func116, Tryz.ntmps116
    go_wp2
    go_ret
    exact ⟨ret_int (cmpI_lt h1).symm, rfl⟩
  · by_cases h2 : b < a
    · go_enter Tryz.func116, Tryz.ntmps116
      go_wp2
      go_ret
      exact ⟨ret_int (cmpI_gt h2).symm, rfl⟩
    · go_enter Tryz.func116, Tryz.ntmps116
      go_wp2
      go_ret
      exact ⟨ret_int (cmpI_eq (by omega) (by omega)).symm, rfl⟩

theorem cmpS_cons (a b : UInt8) (x y : List UInt8) : cmpS (a :: x) (b :: y) = if a = b then cmpS x y else cmpI (a.toNat : Int) (b.toNat : Int) := by
  unfold cmpS
  by_cases h : a = b
  · subst h
    rw [if_pos rfl]
    have h1 : (a :: x < a :: y) ↔ x < y := by rw [List.cons_lt_cons_iff]; simp
    simp only [h1, List.cons.injEq, true_and]
  · rw [if_neg h]
    have hn : a.toNat ≠ b.toNat := fun e => h (UInt8.toNat_inj.1 e)
    have h1 : (a :: x < b :: y) ↔ a < b := by rw [List.cons_lt_cons_iff]; simp [h]
    have h2 : ¬ (a :: x = b :: y) := fun e => h (by injection e)
    rw [if_neg h2]
    by_cases hl : a < b
    · rw [if_pos (h1.2 hl)]
      rw [UInt8.lt_iff_toNat_lt] at hl
      rw [cmpI_lt (by omega)]
    · rw [if_neg (fun e => hl (h1.1 e))]
      rw [UInt8.lt_iff_toNat_lt] at hl
      rw [cmpI_gt (by omega)]
theorem cmpS_nil_l (m : List UInt8) : cmpS [] m = cmpI 0 m.length := by
  cases m with
  | nil => unfold cmpS; rw [if_neg (List.lt_irrefl _), if_pos rfl]; rfl
  | cons b y => unfold cmpS; rw [if_pos (List.nil_lt_cons _ _), cmpI_lt (by simp)]
theorem cmpS_nil_r (m : List UInt8) : cmpS m [] = cmpI m.length 0 := by
  cases m with
  | nil => unfold cmpS; rw [if_neg (List.lt_irrefl _), if_pos rfl]; rfl
  | cons b y => unfold cmpS; rw [if_neg (List.not_lt_nil _), if_neg (by simp), cmpI_gt (by simp)]
theorem drop_at (s : ByteArray) (k : Nat) (h : k < s.size) : s.data.toList.drop k = s[k] :: s.data.toList.drop (k + 1) := by
  rw [List.drop_eq_getElem_cons (by simpa using h)]; rfl
theorem cmpI_shift (a b k : Int) : cmpI (a - k) (b - k) = cmpI a b := by
  unfold cmpI
  by_cases h1 : a < b
  · rw [if_pos h1, if_pos (by omega)]
  · rw [if_neg h1, if_neg (by omega)]
    by_cases h2 : b < a
    · rw [if_pos h2, if_pos (by omega)]
    · rw [if_neg h2, if_neg (by omega)]
theorem texts_end (a b : ByteArray) (k : Nat) (h1 : k ≤ a.size) (h2 : k ≤ b.size) (h : ¬ (k < a.size ∧ k < b.size)) : cmpS (a.data.toList.drop k) (b.data.toList.drop k) = cmpI a.size b.size := by
  by_cases h3 : k < a.size
  · have h4 : k = b.size := by omega
    rw [List.drop_of_length_le (l := b.data.toList) (by simp; omega), cmpS_nil_r]
    rw [← cmpI_shift a.size b.size k]
    simp only [List.length_drop, Array.length_toList]
    congr 1
    · show ((a.size - k : Nat) : Int) = _; omega
    · omega
  · have h4 : k = a.size := by omega
    rw [List.drop_of_length_le (l := a.data.toList) (by simp; omega), cmpS_nil_l]
    rw [← cmpI_shift a.size b.size k]
    simp only [List.length_drop, Array.length_toList]
    congr 1
    · omega
    · show ((b.size - k : Nat) : Int) = _; omega
theorem texts_ne (a b : ByteArray) (k : Nat) (h1 : k < a.size) (h2 : k < b.size) (h : (a[k].toNat : Int) ≠ b[k].toNat) : cmpS (a.data.toList.drop k) (b.data.toList.drop k) = cmpI a[k].toNat b[k].toNat := by
  rw [drop_at a k h1, drop_at b k h2, cmpS_cons, if_neg]
  intro e; rw [e] at h; exact h rfl
theorem texts_eq (a b : ByteArray) (k : Nat) (h1 : k < a.size) (h2 : k < b.size) (h : (a[k].toNat : Int) = b[k].toNat) : cmpS (a.data.toList.drop k) (b.data.toList.drop k) = cmpS (a.data.toList.drop (k + 1)) (b.data.toList.drop (k + 1)) := by
  rw [drop_at a k h1, drop_at b k h2, cmpS_cons, if_pos]
  exact UInt8.toNat_inj.1 (by omega)

theorem wrap_byte (c : UInt8) : IntKind.i64.wrap (c.toNat : Int) = (c.toNat : Int) := by
  have := c.toNat_lt
  have e : (2 : Int) ^ IntKind.i64.bits = 18446744073709551616 := by decide
  have e2 : (2 : Int) ^ (IntKind.i64.bits - 1) = 9223372036854775808 := by decide
  simp [IntKind.wrap, e, e2]
  omega

set_option maxHeartbeats 1000000 in
theorem texts_any (a b : ByteArray) (w : World) (ha : a.size ≤ maxLen) :
    Calls Tryz.prog 96 #[.string a, .string b] w fun e w' => e = .returned (.int .i64 (cmpS a.data.toList b.data.toList)) ∧ Below w.heap.size w w' := by
  unfold maxLen at ha
  go_enter Tryz.func96, Tryz.ntmps96
  go_wp2
  go_loopw [5] (fun i wr => ∃ k : Nat, k ≤ a.size ∧ k ≤ b.size ∧ i = .int .i64 k ∧ Below w.heap.size w wr ∧ cmpS a.data.toList b.data.toList = cmpS (a.data.toList.drop k) (b.data.toList.drop k)) (fun i _ => a.size - (intOf i).toNat)
  case atStart => exact ⟨0, Nat.zero_le _, Nat.zero_le _, rfl, Below.refl _ _, by simp⟩
  case round =>
    obtain ⟨k, hka, hkb, rfl, hbel, heq⟩ := hrel
    have Heq := hide heq
    clear heq
    by_cases hlt : k < a.size ∧ k < b.size
    · obtain ⟨h1, h2⟩ := hlt
      have i0 : (0 : Int) ≤ (k : Int) := by omega
      have i1 : (k : Int) < (a.size : Int) := by omega
      have i2 : (k : Int) < (b.size : Int) := by omega
      by_cases hc : (a[k].toNat : Int) = b[k].toNat
      · have Hc := hide (texts_eq a b k h1 h2 hc)
        have hd : (((a[k].toNat : Int)) != (b[k].toNat : Int)) = false := by simp [hc]
        clear hc
        go_wp2
        go_quiet (fail)
        go_wp2
        go_roundw
        case rel => exact ⟨k + 1, by omega, by omega, by go_num, below_drewN hbel _, by rw [unhide Heq, unhide Hc]⟩
        case measure => simp [intOf]; omega
      · have Hc := hide (texts_ne a b k h1 h2 hc)
        have hd : (((a[k].toNat : Int)) != (b[k].toNat : Int)) = true := by simp [hc]
        clear hc
        go_wp2
        go_quiet (fail)
        go_wp2
        go_region_held3 (fun _ => True) (go_keep) ((go_at_call 116; refine (ints_any _ _ _).mono ?_; rintro e w' ⟨rfl, rfl⟩))
        all_goals
          go_wp2
          go_ret
          refine ⟨ret_int ?_, (below_drewN hbel _).drew⟩
          rw [unhide Heq, unhide Hc, wrap_byte, wrap_byte]

    · have Hend := hide (texts_end a b k hka hkb hlt)
      by_cases h1 : k < a.size
      · have h2 : ¬ k < b.size := fun h => hlt ⟨h1, h⟩
        clear hlt
        go_wp2_with (go_at_call 116; refine (ints_any _ _ _).mono ?_; rintro e w' ⟨rfl, rfl⟩)
        go_ret
        exact ⟨ret_int (by rw [unhide Heq, unhide Hend]), hbel⟩
      · clear hlt
        go_wp2_with (go_at_call 116; refine (ints_any _ _ _).mono ?_; rintro e w' ⟨rfl, rfl⟩)
        go_ret
        exact ⟨ret_int (by rw [unhide Heq, unhide Hend]), hbel⟩


theorem cmpS_lt {a b : ByteArray} (h : ltN a b) : cmpS a.data.toList b.data.toList = -1 := if_pos h
theorem cmpS_eq {a b : ByteArray} (h : a = b) : cmpS a.data.toList b.data.toList = 0 := by subst h; unfold cmpS; rw [if_neg (List.lt_irrefl _), if_pos rfl]
theorem cmpS_gt {a b : ByteArray} (h : ¬ ltN a b) (h2 : a ≠ b) : cmpS a.data.toList b.data.toList = 1 := by
  unfold cmpS; rw [if_neg (show ¬ a.data.toList < b.data.toList from h), if_neg]; intro e; apply h2; cases a; cases b; simp only at e; rw [Array.toList_inj.1 e]
set_option maxHeartbeats 1000000 in
theorem refName_any (s : ByteArray) (w : World) :
    Calls Tryz.prog 95 #[.string s] w fun e w' => e = .returned (.bool (nameOk s)) ∧ w' = w := by
  by_cases h1 : s.size < 1
  · have hn := hide (name_no0 h1)
    have he : s.toList.isEmpty = true := (empty_iff s).2 (by omega)
    go_enter Tryz.func95, Tryz.ntmps95
    go_wp2
    go_ret
    exact ⟨ret_bool (unhide hn).symm, rfl⟩
  · have he : s.toList.isEmpty = false := by
      cases h : s.toList.isEmpty with
      | false => rfl
      | true => have := (empty_iff s).1 h; omega
    by_cases h2 : 32 < s.size
    · have hn := hide (name_no32 h2)
      have i2 : (32 : Int) < (s.size : Int) := by omega
      go_enter Tryz.func95, Tryz.ntmps95
      go_wp2
      go_ret
      exact ⟨ret_bool (unhide hn).symm, rfl⟩
    · have i2 : ¬ (32 : Int) < (s.size : Int) := by omega
      go_enter Tryz.func95, Tryz.ntmps95
      go_wp2
      go_loop [3] (fun i => ∃ k : Nat, k ≤ s.size ∧ i = .int .i64 k ∧ (0 < k → isLet (byteI s 0) = true) ∧ ∀ j, j < k → okB (byteI s j) = true) (fun i => s.size - (intOf i).toNat)
      case atStart => exact ⟨0, by omega, rfl, fun h => by omega, fun j hj => by omega⟩
      case round =>
        obtain ⟨k, hk, rfl, hl, hz⟩ := hrel
        have Hz := hide hz
        have Hl := hide hl
        clear hz hl
        by_cases hkl : k < s.size
        · have ki0 : (0 : Int) ≤ (k : Int) := by omega
          have ki1 : (k : Int) < (s.size : Int) := by omega
          have hbk := hide (byteI_lt hkl)
          by_cases k0 : k = 0
          · subst k0
            by_cases a : (97 : Int) ≤ (s[0].toNat : Int) ∧ (s[0].toNat : Int) ≤ 122
            · obtain ⟨a1, a2⟩ := a
              have hL : isLet (byteI s 0) = true := by rw [unhide hbk]; simp [isLet, a1, a2]
              have HL := hide hL
              clear hL
              go_wp2
              go_round
              case rel => exact ⟨0 + 1, by omega, by go_num, fun _ => unhide HL, fun j hj => by
                  obtain rfl : j = 0 := by omega
                  simp [okB, unhide HL]⟩
              case measure => simp [intOf]; omega
            · have hN := hide (name_noL (s := s) (by rw [unhide hbk]; simp [isLet]; omega))
              by_cases a1 : (97 : Int) ≤ (s[0].toNat : Int)
              · have a2 : ¬ (s[0].toNat : Int) ≤ 122 := fun h => a ⟨a1, h⟩
                clear a
                go_wp2
                go_ret
                exact ⟨ret_bool (unhide hN).symm, rfl⟩
              · clear a
                go_wp2
                go_ret
                exact ⟨ret_bool (unhide hN).symm, rfl⟩
          · have kd : ((k : Int) == 0) = false := by simp; omega
            cases hok : okB (byteI s k) with
            | true =>
              have Hok := hide hok
              rw [unhide hbk] at hok
              have hparts : ((97 : Int) ≤ (s[k].toNat : Int) ∧ (s[k].toNat : Int) ≤ 122) ∨ (¬ (97 : Int) ≤ (s[k].toNat : Int) ∧ ¬ (s[k].toNat : Int) < 48 ∧ ¬ (57 : Int) < (s[k].toNat : Int)) ∨ (¬ (97 : Int) ≤ (s[k].toNat : Int) ∧ ¬ (s[k].toNat : Int) < 48 ∧ (57 : Int) < (s[k].toNat : Int) ∧ ((s[k].toNat : Int) != 95) = false) := by
                revert hok; unfold okB isLet isDig; simp; omega
              clear hok
              rcases hparts with ⟨p1, p2⟩ | ⟨p1, p2, p3⟩ | ⟨p1, p2, p3, p4⟩
              all_goals
                go_wp2
                go_round
                case rel => exact ⟨k + 1, by omega, by go_num, fun _ => unhide Hl (by omega), fun j hj => by
                  by_cases e : j = k
                  · rw [e]; exact unhide Hok
                  · exact unhide Hz j (by omega)⟩
                case measure => simp [intOf]; omega
            | false =>
              have hn := hide (name_noB hkl hok)
              rw [unhide hbk] at hok
              have hparts : (¬ (97 : Int) ≤ (s[k].toNat : Int) ∧ (s[k].toNat : Int) < 48 ∧ ((s[k].toNat : Int) != 95) = true) ∨ (¬ (97 : Int) ≤ (s[k].toNat : Int) ∧ ¬ (s[k].toNat : Int) < 48 ∧ (57 : Int) < (s[k].toNat : Int) ∧ ((s[k].toNat : Int) != 95) = true) ∨ ((97 : Int) ≤ (s[k].toNat : Int) ∧ ¬ (s[k].toNat : Int) ≤ 122 ∧ ¬ (s[k].toNat : Int) < 48 ∧ (57 : Int) < (s[k].toNat : Int) ∧ ((s[k].toNat : Int) != 95) = true) := by
                revert hok; unfold okB isLet isDig; simp; omega
              clear hok
              rcases hparts with ⟨p1, p2, p3⟩ | ⟨p1, p2, p3, p4⟩ | ⟨p1, p2, p3, p4, p5⟩
              all_goals
                go_wp2
                go_ret
                exact ⟨ret_bool (unhide hn).symm, rfl⟩
        · obtain rfl : k = s.size := by omega
          go_wp2
          go_ret
          exact ⟨ret_bool (name_yes (by omega) (by omega) (unhide Hl (by omega)) (unhide Hz)).symm, rfl⟩

end Go.Proofs.YtfigjfmldpfjkaaGreat

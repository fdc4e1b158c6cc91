/- schema.Get, slices.Contains, strings.HasPrefix and eval.Holds, for every input. -/
import Derived.Test.YtedakipjfpdajaaGreatDoorZac
import Derived.Test.YtedakipjfpdajaaGreatDoorPredA
import Derived.Lib.QuietBelow
import Derived.Shelf.Abstract
namespace Go.Proofs.YtedakipjfpdajaaGreatDoor
open Go.RowKit Go.Sort Go.Shelf

theorem box_nw (w : World) (o : Obj) : (w.alloc o).heap[w.heap.size]? = some o := by simp [World.alloc, -World.alloc_eq]
theorem of6' {w : World} {N : Nat} {a0 a1 a2 a3 a4 a5 : Value} {T : TypeId} (h : w.heap[N]? = some (.cells #[a0, a1, a2, a3, a4, a5] T (0, 0))) : w.cell? ⟨N, 0, none⟩ = some a0 ∧ w.cell? ⟨N, 1, none⟩ = some a1 ∧ w.cell? ⟨N, 2, none⟩ = some a2 ∧ w.cell? ⟨N, 3, none⟩ = some a3 ∧ w.cell? ⟨N, 4, none⟩ = some a4 ∧ w.cell? ⟨N, 5, none⟩ = some a5 := by
  refine ⟨?_, ?_, ?_, ?_, ?_, ?_⟩ <;> (unfold World.cell?; simp [h])
/-- The first pair of that name. -/
def getP (s : ByteArray) : List Pr → Option Pr
  | [] => none
  | x :: xs => if x.name.toList == s.toList then some x else getP s xs
theorem get_yes {l : List Pr} {s : ByteArray} {k : Nat} {x : Pr} (h : getP s l = getP s (l.drop k)) (hd : l.drop k = x :: l.drop (k + 1)) (hq : (x.name.toList == s.toList) = true) : getP s l = some x := by rw [h, hd]; simp [getP, hq]
theorem get_no {l : List Pr} {s : ByteArray} {k : Nat} {x : Pr} (h : getP s l = getP s (l.drop k)) (hd : l.drop k = x :: l.drop (k + 1)) (hq : (x.name.toList == s.toList) = false) : getP s l = getP s (l.drop (k + 1)) := by rw [h, hd]; simp [getP, hq]
theorem get_end {l : List Pr} {s : ByteArray} {k : Nat} (h : getP s l = getP s (l.drop k)) (hk : ¬ k < l.length) : getP s l = none := by rw [h, List.drop_eq_nil_of_le (by omega)]; rfl
def getV (o : Option Pr) : Value :=
  match o with
  | some y => .tuple #[.agg #[.int .i64 y.kind, .int .i64 y.num, .string y.word], .bool true]
  | none => .tuple #[.agg #[.int .i64 0, .int .i64 0, .string ⟨#[]⟩], .bool false]

/-- The block b holds one value, and may be written. -/
def Box (w : World) (b : Nat) (x : Int × Int × ByteArray) : Prop :=
  w.cell? ⟨b, 0, none⟩ = some (.int .i64 x.1) ∧ w.cell? ⟨b, 1, none⟩ = some (.int .i64 x.2.1) ∧ w.cell? ⟨b, 2, none⟩ = some (.string x.2.2) ∧ (∀ o, w.frozen? ⟨b, o, none⟩ = false) ∧ b < w.heap.size
theorem Box.below {w w' : World} {b : Nat} {x : Int × Int × ByteArray} (h : Box w b x) (hb : Below w.heap.size w w') : Box w' b x := by
  obtain ⟨h1, h2, h3, h4, h5⟩ := h
  exact ⟨(hb.cell (by exact h5)).trans h1, (hb.cell (by exact h5)).trans h2, (hb.cell (by exact h5)).trans h3, fun o => (hb.frozen (by exact h5)).trans (h4 o), Nat.lt_of_lt_of_le h5 hb.size⟩
def put3 (w : World) (b : Nat) (y : Int × Int × ByteArray) : World := ((w.setCell ⟨b, 0, none⟩ (.int .i64 y.1)).setCell ⟨b, 1, none⟩ (.int .i64 y.2.1)).setCell ⟨b, 2, none⟩ (.string y.2.2)
theorem below_put3 {B : Nat} (w : World) (b : Nat) (y : Int × Int × ByteArray) (h : B ≤ b) : Below B w (put3 w b y) :=
  (((Below.refl _ _).setCell h _).setCell h _).setCell h _
theorem Box.put {w : World} {b : Nat} {x : Int × Int × ByteArray} (h : Box w b x) (y : Int × Int × ByteArray) : Box (put3 w b y) b y := by
  obtain ⟨h1, h2, h3, h4, h5⟩ := h
  unfold put3
  refine ⟨?_, ?_, ?_, fun o => ?_, ?_⟩
  · go_simp
  · go_simp
  · go_simp
  · go_simp
  · simpa [World.setCell] using h5
theorem Box.new (w : World) (x : Int × Int × ByteArray) (t : TypeId) : Box (w.alloc (.cells #[.int .i64 x.1, .int .i64 x.2.1, .string x.2.2] t)) w.heap.size x := by
  refine ⟨?_, ?_, ?_, fun o => ?_, by simp⟩ <;> simp
theorem Box.alloc {w : World} {b : Nat} {x : Int × Int × ByteArray} (h : Box w b x) (o : Obj) : Box (w.alloc o) b x := h.below ((Below.refl _ _).alloc (Nat.le_refl _) _)

set_option maxHeartbeats 1000000 in
theorem get_any (p : Option Addr) (cap : Nat) (l : List Pr) (s : ByteArray) (w : World) (hm : l.length ≤ 140737488355328) (hA : SlOf encR 4 w p cap l) :
    Calls Tryz.prog 49 #[.slice p l.length cap, .string s] w fun e w' => e = .returned (getV (getP s l)) ∧ Below w.heap.size w w' := by
  have HA := hide hA
  clear hA
  go_enter Tryz.func49, Tryz.ntmps49
  go_wp2
  go_loopw [10] (fun i wr => ∃ k : Nat, k ≤ l.length ∧ i = .int .i64 k ∧ Below w.heap.size w wr ∧ Box wr w.heap.size (0, 0, ⟨#[]⟩) ∧ getP s l = getP s (l.drop k)) (fun i _ => l.length - (intOf i).toNat)
  case atStart => exact ⟨0, by omega, rfl, (Below.refl _ _).alloc (Nat.le_refl _) _, Box.new w (0, 0, ⟨#[]⟩) 40, by simp⟩
  case round =>
    obtain ⟨k, hk, rfl, hbel, hbox, heq⟩ := hrel
    have Heq := hide heq
    clear heq
    by_cases hlt : k < l.length
    · obtain ⟨x, hx, hd⟩ := get_at hlt
      obtain ⟨bb, off, rfl, hbb, g0, g1, g2, g3⟩ := pairAt ((unhide HA).below hbel) hx
      have Hd := hide hd
      clear hd
      have ki0 : (0 : Int) ≤ (k : Int) := by omega
      have ki1 : (k : Int) < (l.length : Int) := by omega
      have Hx := hide hx
      clear hx
      cases hq : (x.name.toList == s.toList) with
      | true =>
        have Hy := hide (get_yes (unhide Heq) (unhide Hd) hq)
        have Hb := hide hbox
        obtain ⟨r0, r1, r2, fr0, sz0⟩ := hbox
        simp only at r0 r1 r2
        go_wp2
        obtain ⟨z0, z1, z2, _, _⟩ := ((unhide Hb).put (x.kind, x.num, x.word)).alloc (.cells #[.string x.name, .int .i64 x.kind, .int .i64 x.num, .string x.word] 42)
        unfold put3 at z0 z1 z2
        refine bodyPost_ret (v := .tuple #[.agg #[.int .i64 x.kind, .int .i64 x.num, .string x.word], .bool true]) (by simp [results, Tryz.results49, go_sem, z0, z1, z2]) rfl ⟨by rw [unhide Hy]; rfl, ?_⟩
        have hq2 := hbel.trans (below_put3 wr w.heap.size (x.kind, x.num, x.word) (Nat.le_refl _))
        exact hq2.alloc hq2.size _
      | false =>
        have Hy := hide (get_no (unhide Heq) (unhide Hd) hq)
        have Hb := hide (hbox.alloc (.cells #[.string x.name, .int .i64 x.kind, .int .i64 x.num, .string x.word] 42))
        clear hbox
        go_wp2
        go_roundw
        case rel => exact ⟨k + 1, by omega, by go_num, hbel.alloc hbel.size _, unhide Hb, unhide Hy⟩
        case measure => simp [intOf]; omega
    · obtain rfl : k = l.length := by omega
      have Hy := hide (get_end (unhide Heq) hlt)
      have Hb := hide hbox
      obtain ⟨r0, r1, r2, fr0, sz0⟩ := hbox
      simp only at r0 r1 r2
      go_wp2
      have hb3 := (unhide Hb).put (0, 0, ⟨#[]⟩)
      obtain ⟨z0, z1, z2, _, _⟩ := hb3
      unfold put3 at z0 z1 z2
      refine bodyPost_ret (v := .tuple #[.agg #[.int .i64 0, .int .i64 0, .string ⟨#[]⟩], .bool false]) (by simp [results, Tryz.results49, go_sem, r0, r1, r2]) rfl ⟨by rw [unhide Hy]; rfl, ?_⟩
      exact hbel.trans (below_put3 _ w.heap.size (0, 0, ⟨#[]⟩) (Nat.le_refl _))

/-- Is it among them? -/
def hasI (v : Int) (l : List Int) : Bool := l.any (fun x => v == x)
def hasS (v : ByteArray) (l : List ByteArray) : Bool := l.any (fun x => v.toList == x.toList)
theorem any_yes {α : Type} {f : α → Bool} {l : List α} {k : Nat} {x : α} (hx : l[k]? = some x) (h : f x = true) : l.any f = true := List.any_eq_true.2 ⟨x, List.mem_of_getElem? hx, h⟩
theorem any_none {α : Type} {f : α → Bool} {l : List α} (h : ∀ (j : Nat) (x : α), j < l.length → l[j]? = some x → f x = false) : l.any f = false := by
  apply List.any_eq_false.2
  intro x hx
  obtain ⟨j, hj, rfl⟩ := List.getElem_of_mem hx
  simp [h j _ hj (List.getElem?_eq_getElem hj)]
set_option maxRecDepth 100000 in
set_option maxHeartbeats 1000000 in
theorem indexI (q : Option Addr) (c : Nat) (l : List Int) (v : Int) (w : World) (hl : l.length ≤ 140737488355328) (h : SlOf encI 1 w q c l) :
    Calls Tryz.prog 91 #[.slice q l.length c, .int .i64 v] w fun e w' => (∃ n : Int, e = .returned (.int .i64 n) ∧ decide (0 ≤ n) = hasI v l) ∧ Below w.heap.size w w' := by
  have HA := hide h
  clear h
  go_enter Tryz.func91, Tryz.ntmps91
  go_wp2
  go_loopw [8] (fun i wr => ∃ k : Nat, k ≤ l.length ∧ i = .int .i64 k ∧ Below w.heap.size w wr ∧ (∀ (j : Nat) (x : Int), j < k → l[j]? = some x → (v == x) = false)) (fun i _ => l.length - (intOf i).toNat)
  case atStart => exact ⟨0, by omega, rfl, Below.refl _ _, fun j x hj => by omega⟩
  case round =>
    obtain ⟨k, hk, rfl, hbel, hno⟩ := hrel
    have HNo := hide hno
    clear hno
    by_cases hlt : k < l.length
    · obtain ⟨x, hx, hd⟩ := get_at hlt
      clear hd
      obtain ⟨bb, off, rfl, hbb, g0⟩ := intsAt ((unhide HA).below hbel) hx
      have ki0 : (0 : Int) ≤ (k : Int) := by omega
      have ki1 : (k : Int) < (l.length : Int) := by omega
      have Hx := hide hx
      clear hx
      cases hq : (v == x) with
      | true =>
        go_wp2
        go_ret
        exact ⟨⟨_, rfl, by rw [show hasI v l = true from any_yes (unhide Hx) hq]; simp⟩, hbel⟩
      | false =>
        have HN2 : Hid (∀ (j : Nat) (y : Int), j < k + 1 → l[j]? = some y → (v == y) = false) := hide (fun j y hj hy => by
          by_cases e : j = k
          · subst e; rw [unhide Hx] at hy; cases hy; exact hq
          · exact unhide HNo j y (by omega) hy)
        go_wp2
        go_roundw
        case rel => exact ⟨k + 1, by omega, by go_num, hbel, unhide HN2⟩
        case measure => simp [intOf]; omega
    · have ki1 : ¬ (k : Int) < (l.length : Int) := by omega
      have HE := hide (show hasI v l = false from any_none (fun j x hj hx => unhide HNo j x (by omega) hx))
      go_wp2
      go_ret
      exact ⟨⟨_, rfl, by rw [unhide HE]; decide⟩, hbel⟩
theorem containsI (q : Option Addr) (c : Nat) (l : List Int) (v : Int) (w : World) (hl : l.length ≤ 140737488355328) (h : SlOf encI 1 w q c l) :
    Calls Tryz.prog 50 #[.slice q l.length c, .int .i64 v] w fun e w' => e = .returned (.bool (hasI v l)) ∧ Below w.heap.size w w' := by
  have hi := indexI q c l v w hl h
  clear h
  go_enter Tryz.func50, Tryz.ntmps50
  go_wp2_with (go_at_call 91; refine hi.mono ?_; rintro e w1 ⟨⟨n, rfl, hn⟩, b1⟩; have HN := hide hn; have B1 := hide b1; clear hn b1)
  all_goals
    go_ret
    exact ⟨ret_bool (by rw [← unhide HN]), unhide B1⟩
set_option maxRecDepth 100000 in
set_option maxHeartbeats 1000000 in
theorem indexS (q : Option Addr) (c : Nat) (l : List ByteArray) (v : ByteArray) (w : World) (hl : l.length ≤ 140737488355328) (h : SlOf encS 1 w q c l) :
    Calls Tryz.prog 92 #[.slice q l.length c, .string v] w fun e w' => (∃ n : Int, e = .returned (.int .i64 n) ∧ decide (0 ≤ n) = hasS v l) ∧ Below w.heap.size w w' := by
  have HA := hide h
  clear h
  go_enter Tryz.func92, Tryz.ntmps92
  go_wp2
  go_loopw [8] (fun i wr => ∃ k : Nat, k ≤ l.length ∧ i = .int .i64 k ∧ Below w.heap.size w wr ∧ (∀ (j : Nat) (x : ByteArray), j < k → l[j]? = some x → (v.toList == x.toList) = false)) (fun i _ => l.length - (intOf i).toNat)
  case atStart => exact ⟨0, by omega, rfl, Below.refl _ _, fun j x hj => by omega⟩
  case round =>
    obtain ⟨k, hk, rfl, hbel, hno⟩ := hrel
    have HNo := hide hno
    clear hno
    by_cases hlt : k < l.length
    · obtain ⟨x, hx, hd⟩ := get_at hlt
      clear hd
      obtain ⟨bb, off, rfl, hbb, g0⟩ := wordsAt ((unhide HA).below hbel) hx
      have ki0 : (0 : Int) ≤ (k : Int) := by omega
      have ki1 : (k : Int) < (l.length : Int) := by omega
      have Hx := hide hx
      clear hx
      cases hq : (v.toList == x.toList) with
      | true =>
        go_wp2
        go_ret
        exact ⟨⟨_, rfl, by rw [show hasS v l = true from any_yes (unhide Hx) hq]; simp⟩, hbel⟩
      | false =>
        have HN2 : Hid (∀ (j : Nat) (y : ByteArray), j < k + 1 → l[j]? = some y → (v.toList == y.toList) = false) := hide (fun j y hj hy => by
          by_cases e : j = k
          · subst e; rw [unhide Hx] at hy; cases hy; exact hq
          · exact unhide HNo j y (by omega) hy)
        go_wp2
        go_roundw
        case rel => exact ⟨k + 1, by omega, by go_num, hbel, unhide HN2⟩
        case measure => simp [intOf]; omega
    · have ki1 : ¬ (k : Int) < (l.length : Int) := by omega
      have HE := hide (show hasS v l = false from any_none (fun j x hj hx => unhide HNo j x (by omega) hx))
      go_wp2
      go_ret
      exact ⟨⟨_, rfl, by rw [unhide HE]; decide⟩, hbel⟩
theorem containsS (q : Option Addr) (c : Nat) (l : List ByteArray) (v : ByteArray) (w : World) (hl : l.length ≤ 140737488355328) (h : SlOf encS 1 w q c l) :
    Calls Tryz.prog 51 #[.slice q l.length c, .string v] w fun e w' => e = .returned (.bool (hasS v l)) ∧ Below w.heap.size w w' := by
  have hi := indexS q c l v w hl h
  clear h
  go_enter Tryz.func51, Tryz.ntmps51
  go_wp2_with (go_at_call 92; refine hi.mono ?_; rintro e w1 ⟨⟨n, rfl, hn⟩, b1⟩; have HN := hide hn; have B1 := hide b1; clear hn b1)
  all_goals
    go_ret
    exact ⟨ret_bool (by rw [← unhide HN]), unhide B1⟩
def prefB (s p : ByteArray) : Bool := decide (p.size ≤ s.size) && ((s.extract 0 p.size).toList == p.toList)
set_option maxHeartbeats 1000000 in
theorem hasPrefix_lite (s p : ByteArray) (w : World) : Calls Tryz.prog 93 #[.string s, .string p] w fun e w' => e = .returned (.bool (prefB s p)) ∧ Below w.heap.size w w' := by
  by_cases hl : p.size ≤ s.size
  · have h1 : (p.size : Int) ≤ (s.size : Int) := by omega
    go_enter Tryz.func93, Tryz.ntmps93
    go_wp2
    go_ret
    exact ⟨ret_bool (by simp [prefB, hl]), Below.refl _ _⟩
  · have h1 : ¬ (p.size : Int) ≤ (s.size : Int) := by omega
    go_enter Tryz.func93, Tryz.ntmps93
    go_wp2
    go_ret
    exact ⟨ret_bool (by simp [prefB, hl]), Below.refl _ _⟩
theorem hasPrefix_any (s p : ByteArray) (w : World) : Calls Tryz.prog 52 #[.string s, .string p] w fun e w' => e = .returned (.bool (prefB s p)) ∧ Below w.heap.size w w' := by
  have hi := hasPrefix_lite s p w
  generalize prefB s p = r at hi ⊢
  go_enter Tryz.func52, Tryz.ntmps52
  go_wp2_with (go_at_call 93; refine hi.mono ?_; rintro e w1 ⟨rfl, b1⟩; have B1 := hide b1; clear b1)
  go_ret
  exact ⟨rfl, unhide B1⟩
theorem heap_lt {w : World} {b : Nat} {o : Obj} (h : w.heap[b]? = some o) : b < w.heap.size := (Array.getElem?_eq_some_iff.1 h).1
theorem name_world {P : Program} {f : Nat} {args : Array Value} {w : World} {Q : Ending → World → Prop} (h : ∀ Y, Y = w → Calls P f args Y Q) : Calls P f args w Q := h w rfl
theorem of3' {w : World} {N : Nat} {a0 a1 a2 : Value} {T : TypeId} (h : w.heap[N]? = some (.cells #[a0, a1, a2] T (0, 0))) : w.cell? ⟨N, 0, none⟩ = some a0 ∧ w.cell? ⟨N, 1, none⟩ = some a1 ∧ w.cell? ⟨N, 2, none⟩ = some a2 := by
  refine ⟨?_, ?_, ?_⟩ <;> rw [Lib.cell_of_heap h] <;> rfl
/-- Does a predicate in form hold of a value? -/
def toldB (kind : Int) (ints : List Int) (words : List ByteArray) (lo hi : Int) (y : Pr) : Bool :=
  if kind = 1 then (y.kind == 1) && hasI y.num ints else if kind = 2 then (y.kind == 2) && hasS y.word words else if kind = 3 then (y.kind == 1) && (decide (lo ≤ y.num) && decide (y.num ≤ hi)) else (y.kind == 2) && prefB y.word (words.headD ⟨#[]⟩)
def holdsB (kind : Int) (attr : ByteArray) (ints : List Int) (words : List ByteArray) (lo hi : Int) (ev : List Pr) : Bool :=
  predB kind attr ints words lo hi && (match getP attr ev with
    | none => false
    | some y => decide (chkV y.kind y.num y.word = 0) && toldB kind ints words lo hi y)
theorem holdsB_no {kind : Int} {attr : ByteArray} {ints : List Int} {words : List ByteArray} {lo hi : Int} {ev : List Pr} (h : predB kind attr ints words lo hi = false) : holdsB kind attr ints words lo hi ev = false := by simp [holdsB, h]
theorem holdsB_none {kind : Int} {attr : ByteArray} {ints : List Int} {words : List ByteArray} {lo hi : Int} {ev : List Pr} (h : getP attr ev = none) : holdsB kind attr ints words lo hi ev = false := by simp [holdsB, h]
theorem holdsB_bad {kind : Int} {attr : ByteArray} {ints : List Int} {words : List ByteArray} {lo hi : Int} {ev : List Pr} {y : Pr} (h : getP attr ev = some y) (hc : chkV y.kind y.num y.word ≠ 0) : holdsB kind attr ints words lo hi ev = false := by simp [holdsB, h, hc]
theorem holdsB_told {kind : Int} {attr : ByteArray} {ints : List Int} {words : List ByteArray} {lo hi : Int} {ev : List Pr} {y : Pr} (hp : predB kind attr ints words lo hi = true) (h : getP attr ev = some y) (hc : chkV y.kind y.num y.word = 0) : holdsB kind attr ints words lo hi ev = toldB kind ints words lo hi y := by simp [holdsB, hp, h, hc]
theorem chk_or (k n : Int) (s : ByteArray) : chkV k n s = 0 ∨ chkV k n s = 1 := by unfold chkV; split <;> simp
set_option maxRecDepth 100000 in
set_option maxHeartbeats 4000000 in
theorem holds_no (kind : Int) (attr : ByteArray) (qi : Option Addr) (ci : Nat) (ints : List Int) (qw : Option Addr) (cw : Nat) (words : List ByteArray) (lo hi : Int) (qe : Option Addr) (ce : Nat) (ev : List Pr) (w : World) (h1 : SlOf encI 1 w qi ci ints) (h2 : SlOf encS 1 w qw cw words) (h3 : SlOf encR 4 w qe ce ev) (l1 : ints.length ≤ 100000000000000) (l2 : words.length ≤ 100000000000000) (_ : ev.length ≤ 100000000000000) (hpB : predB kind attr ints words lo hi = false) :
    Calls Tryz.prog 18 #[.agg #[.int .i64 kind, .string attr, .slice qi ints.length ci, .slice qw words.length cw, .int .i64 lo, .int .i64 hi], .slice qe ev.length ce] w fun e w' => e = .returned (.bool false) ∧ Below w.heap.size w w' := by
  obtain ⟨X, HX⟩ : ∃ X, w.alloc (.cells #[.int .i64 kind, .string attr, .slice qi ints.length ci, .slice qw words.length cw, .int .i64 lo, .int .i64 hi] 25) = X := ⟨_, rfl⟩
  have hX0 : X.heap[w.heap.size]? = some (.cells #[.int .i64 kind, .string attr, .slice qi ints.length ci, .slice qw words.length cw, .int .i64 lo, .int .i64 hi] 25 (0, 0)) := by rw [← HX]; exact box_nw _ _
  have hwX : Below w.heap.size w X := by rw [← HX]; exact (Below.refl _ _).alloc (Nat.le_refl _) _
  have hp := pred_any kind attr qi ci ints qw cw words lo hi X (h1.below hwX) (h2.below hwX) (by omega) (by omega)
  rw [hpB] at hp
  simp only [code, Bool.false_eq_true, if_false] at hp
  have H1 := hide h1
  have H2 := hide h2
  have H3 := hide h3
  obtain ⟨x0, x1, x2, x3, x4, x5⟩ := of6' hX0
  have HX0 := hide hX0
  have HXL := hide (heap_lt hX0)
  have HWX := hide hwX
  clear h1 h2 h3 hX0 hwX
  go_enter Tryz.func18, Tryz.ntmps18
  go_wp2_with (first
    | (go_at_call 48; refine hp.mono ?_; rintro e w1 ⟨rfl, b1⟩; have hh := (b1.block _ (unhide HXL)).trans (unhide HX0); obtain ⟨c0, c1, c2, c3, c4, c5⟩ := of6' hh; have HH1 := hide hh; have B1 := hide (below_sub (unhide HWX) b1); clear b1 hh))
  go_ret
  exact ⟨rfl, unhide B1⟩
set_option maxRecDepth 100000 in
set_option maxHeartbeats 4000000 in
theorem holds_none (kind : Int) (attr : ByteArray) (qi : Option Addr) (ci : Nat) (ints : List Int) (qw : Option Addr) (cw : Nat) (words : List ByteArray) (lo hi : Int) (qe : Option Addr) (ce : Nat) (ev : List Pr) (w : World) (h1 : SlOf encI 1 w qi ci ints) (h2 : SlOf encS 1 w qw cw words) (h3 : SlOf encR 4 w qe ce ev) (l1 : ints.length ≤ 100000000000000) (l2 : words.length ≤ 100000000000000) (l3 : ev.length ≤ 100000000000000) (hpB : predB kind attr ints words lo hi = true) (hgt : getP attr ev = none) :
    Calls Tryz.prog 18 #[.agg #[.int .i64 kind, .string attr, .slice qi ints.length ci, .slice qw words.length cw, .int .i64 lo, .int .i64 hi], .slice qe ev.length ce] w fun e w' => e = .returned (.bool false) ∧ Below w.heap.size w w' := by
  obtain ⟨X, HX⟩ : ∃ X, w.alloc (.cells #[.int .i64 kind, .string attr, .slice qi ints.length ci, .slice qw words.length cw, .int .i64 lo, .int .i64 hi] 25) = X := ⟨_, rfl⟩
  have hX0 : X.heap[w.heap.size]? = some (.cells #[.int .i64 kind, .string attr, .slice qi ints.length ci, .slice qw words.length cw, .int .i64 lo, .int .i64 hi] 25 (0, 0)) := by rw [← HX]; exact box_nw _ _
  have hwX : Below w.heap.size w X := by rw [← HX]; exact (Below.refl _ _).alloc (Nat.le_refl _) _
  have hp := pred_any kind attr qi ci ints qw cw words lo hi X (h1.below hwX) (h2.below hwX) (by omega) (by omega)
  rw [hpB] at hp
  simp only [code, if_true] at hp
  have H1 := hide h1
  have H2 := hide h2
  have H3 := hide h3
  obtain ⟨x0, x1, x2, x3, x4, x5⟩ := of6' hX0
  have HX0 := hide hX0
  have HXL := hide (heap_lt hX0)
  have HWX := hide hwX
  clear h1 h2 h3 hX0 hwX
  go_enter Tryz.func18, Tryz.ntmps18
  go_wp2_with (first
    | (go_at_call 48; refine hp.mono ?_; rintro e w1 ⟨rfl, b1⟩; have hh := (b1.block _ (unhide HXL)).trans (unhide HX0); obtain ⟨c0, c1, c2, c3, c4, c5⟩ := of6' hh; have HH1 := hide hh; have B1 := hide (below_sub (unhide HWX) b1); clear b1 hh)
    | (go_at_call 49; refine (get_any qe ce ev attr _ (by omega) ((unhide H3).below (unhide B1))).mono ?_; rw [hgt]; rintro e w2 ⟨rfl, b2⟩; simp only [getV]; have hh := (b2.block _ (heap_lt (unhide HH1))).trans (unhide HH1); obtain ⟨d0, d1, d2, d3, d4, d5⟩ := of6' hh; have HH2 := hide hh; have B2 := hide (below_sub (unhide B1) b2); clear b2 hh c0 c1 c2 c3 c4 c5))
  go_ret
  exact ⟨rfl, (unhide B2).alloc (unhide B2).size _⟩
set_option maxRecDepth 100000 in
set_option maxHeartbeats 4000000 in
theorem holds_bad (kind : Int) (attr : ByteArray) (qi : Option Addr) (ci : Nat) (ints : List Int) (qw : Option Addr) (cw : Nat) (words : List ByteArray) (lo hi : Int) (qe : Option Addr) (ce : Nat) (ev : List Pr) (w : World) (h1 : SlOf encI 1 w qi ci ints) (h2 : SlOf encS 1 w qw cw words) (h3 : SlOf encR 4 w qe ce ev) (l1 : ints.length ≤ 100000000000000) (l2 : words.length ≤ 100000000000000) (l3 : ev.length ≤ 100000000000000) (y : Pr) (hpB : predB kind attr ints words lo hi = true) (hgt : getP attr ev = some y) (hck : chkV y.kind y.num y.word = 1) :
    Calls Tryz.prog 18 #[.agg #[.int .i64 kind, .string attr, .slice qi ints.length ci, .slice qw words.length cw, .int .i64 lo, .int .i64 hi], .slice qe ev.length ce] w fun e w' => e = .returned (.bool false) ∧ Below w.heap.size w w' := by
  obtain ⟨X, HX⟩ : ∃ X, w.alloc (.cells #[.int .i64 kind, .string attr, .slice qi ints.length ci, .slice qw words.length cw, .int .i64 lo, .int .i64 hi] 25) = X := ⟨_, rfl⟩
  have hX0 : X.heap[w.heap.size]? = some (.cells #[.int .i64 kind, .string attr, .slice qi ints.length ci, .slice qw words.length cw, .int .i64 lo, .int .i64 hi] 25 (0, 0)) := by rw [← HX]; exact box_nw _ _
  have hwX : Below w.heap.size w X := by rw [← HX]; exact (Below.refl _ _).alloc (Nat.le_refl _) _
  have hp := pred_any kind attr qi ci ints qw cw words lo hi X (h1.below hwX) (h2.below hwX) (by omega) (by omega)
  rw [hpB] at hp
  simp only [code, if_true] at hp
  have H1 := hide h1
  have H2 := hide h2
  have H3 := hide h3
  obtain ⟨x0, x1, x2, x3, x4, x5⟩ := of6' hX0
  have HX0 := hide hX0
  have HXL := hide (heap_lt hX0)
  have HWX := hide hwX
  clear h1 h2 h3 hX0 hwX
  go_enter Tryz.func18, Tryz.ntmps18
  go_wp2_with (first
    | (go_at_call 48; refine hp.mono ?_; rintro e w1 ⟨rfl, b1⟩; have hh := (b1.block _ (unhide HXL)).trans (unhide HX0); obtain ⟨c0, c1, c2, c3, c4, c5⟩ := of6' hh; have HH1 := hide hh; have B1 := hide (below_sub (unhide HWX) b1); clear b1 hh)
    | (go_at_call 49; refine (get_any qe ce ev attr _ (by omega) ((unhide H3).below (unhide B1))).mono ?_; rw [hgt]; rintro e w2 ⟨rfl, b2⟩; simp only [getV]; have hh := (b2.block _ (heap_lt (unhide HH1))).trans (unhide HH1); obtain ⟨d0, d1, d2, d3, d4, d5⟩ := of6' hh; have HH2 := hide hh; have B2 := hide (below_sub (unhide B1) b2); clear b2 hh c0 c1 c2 c3 c4 c5)
    | (go_at_call 31; refine name_world ?_; intro Y hY; have yv : Y.heap[w2.heap.size]? = some (.cells #[.int .i64 y.kind, .int .i64 y.num, .string y.word] 40 (0, 0)) := (by rw [hY]; exact box_nw _ _); have bY : Below w2.heap.size w2 Y := (by rw [hY]; exact (Below.refl _ _).alloc (Nat.le_refl _) _); clear hY; refine (check_any y.kind y.num y.word Y).mono ?_; rw [hck]; rintro e w3 ⟨rfl, b3⟩; have hh := (b3.block _ (heap_lt yv)).trans yv; obtain ⟨v0, v1, v2⟩ := of3' hh; have hp3 := ((below_sub bY b3).block _ (heap_lt (unhide HH2))).trans (unhide HH2); obtain ⟨e0, e1, e2, e3, e4, e5⟩ := of6' hp3; have HV3 := hide hh; have HP3 := hide hp3; have B3 := hide (below_sub (unhide B2) (below_sub bY b3)); clear b3 hh hp3 yv bY d0 d1 d2 d3 d4 d5))
  go_ret
  exact ⟨rfl, unhide B3⟩
set_option maxRecDepth 100000 in
set_option maxHeartbeats 4000000 in
theorem holds_k1 (kind : Int) (attr : ByteArray) (qi : Option Addr) (ci : Nat) (ints : List Int) (qw : Option Addr) (cw : Nat) (words : List ByteArray) (lo hi : Int) (qe : Option Addr) (ce : Nat) (ev : List Pr) (w : World) (h1 : SlOf encI 1 w qi ci ints) (h2 : SlOf encS 1 w qw cw words) (h3 : SlOf encR 4 w qe ce ev) (l1 : ints.length ≤ 100000000000000) (l2 : words.length ≤ 100000000000000) (l3 : ev.length ≤ 100000000000000) (hkd : kind = 1) (y : Pr) (hpB : predB kind attr ints words lo hi = true) (hgt : getP attr ev = some y) (hck : chkV y.kind y.num y.word = 0) :
    Calls Tryz.prog 18 #[.agg #[.int .i64 kind, .string attr, .slice qi ints.length ci, .slice qw words.length cw, .int .i64 lo, .int .i64 hi], .slice qe ev.length ce] w fun e w' => e = .returned (.bool ((y.kind == 1) && hasI y.num ints)) ∧ Below w.heap.size w w' := by
  obtain ⟨X, HX⟩ : ∃ X, w.alloc (.cells #[.int .i64 kind, .string attr, .slice qi ints.length ci, .slice qw words.length cw, .int .i64 lo, .int .i64 hi] 25) = X := ⟨_, rfl⟩
  have hX0 : X.heap[w.heap.size]? = some (.cells #[.int .i64 kind, .string attr, .slice qi ints.length ci, .slice qw words.length cw, .int .i64 lo, .int .i64 hi] 25 (0, 0)) := by rw [← HX]; exact box_nw _ _
  have hwX : Below w.heap.size w X := by rw [← HX]; exact (Below.refl _ _).alloc (Nat.le_refl _) _
  have hp := pred_any kind attr qi ci ints qw cw words lo hi X (h1.below hwX) (h2.below hwX) (by omega) (by omega)
  rw [hpB] at hp
  simp only [code, if_true] at hp
  have H1 := hide h1
  have H2 := hide h2
  have H3 := hide h3
  obtain ⟨x0, x1, x2, x3, x4, x5⟩ := of6' hX0
  have HX0 := hide hX0
  have HXL := hide (heap_lt hX0)
  have HWX := hide hwX
  clear h1 h2 h3 hX0 hwX
  subst hkd
  cases hyk : (y.kind == 1) with
  | true =>
    go_enter Tryz.func18, Tryz.ntmps18
    go_wp2_with (first
      | (go_at_call 48; refine hp.mono ?_; rintro e w1 ⟨rfl, b1⟩; have hh := (b1.block _ (unhide HXL)).trans (unhide HX0); obtain ⟨c0, c1, c2, c3, c4, c5⟩ := of6' hh; have HH1 := hide hh; have B1 := hide (below_sub (unhide HWX) b1); clear b1 hh)
      | (go_at_call 49; refine (get_any qe ce ev attr _ (by omega) ((unhide H3).below (unhide B1))).mono ?_; rw [hgt]; rintro e w2 ⟨rfl, b2⟩; simp only [getV]; have hh := (b2.block _ (heap_lt (unhide HH1))).trans (unhide HH1); obtain ⟨d0, d1, d2, d3, d4, d5⟩ := of6' hh; have HH2 := hide hh; have B2 := hide (below_sub (unhide B1) b2); clear b2 hh c0 c1 c2 c3 c4 c5)
      | (go_at_call 31; refine name_world ?_; intro Y hY; have yv : Y.heap[w2.heap.size]? = some (.cells #[.int .i64 y.kind, .int .i64 y.num, .string y.word] 40 (0, 0)) := (by rw [hY]; exact box_nw _ _); have bY : Below w2.heap.size w2 Y := (by rw [hY]; exact (Below.refl _ _).alloc (Nat.le_refl _) _); clear hY; refine (check_any y.kind y.num y.word Y).mono ?_; rw [hck]; rintro e w3 ⟨rfl, b3⟩; have hh := (b3.block _ (heap_lt yv)).trans yv; obtain ⟨v0, v1, v2⟩ := of3' hh; have hp3 := ((below_sub bY b3).block _ (heap_lt (unhide HH2))).trans (unhide HH2); obtain ⟨e0, e1, e2, e3, e4, e5⟩ := of6' hp3; have HV3 := hide hh; have HP3 := hide hp3; have B3 := hide (below_sub (unhide B2) (below_sub bY b3)); clear b3 hh hp3 yv bY d0 d1 d2 d3 d4 d5)
      | (go_at_call 50; refine (containsI qi ci ints y.num _ (by omega) ((unhide H1).below (unhide B3))).mono ?_; rintro e w4 ⟨rfl, b4⟩; have B4 := hide (below_sub (unhide B3) b4); clear b4))
    go_ret
    exact ⟨ret_bool (by simp), unhide B4⟩
  | false =>
    go_enter Tryz.func18, Tryz.ntmps18
    go_wp2_with (first
      | (go_at_call 48; refine hp.mono ?_; rintro e w1 ⟨rfl, b1⟩; have hh := (b1.block _ (unhide HXL)).trans (unhide HX0); obtain ⟨c0, c1, c2, c3, c4, c5⟩ := of6' hh; have HH1 := hide hh; have B1 := hide (below_sub (unhide HWX) b1); clear b1 hh)
      | (go_at_call 49; refine (get_any qe ce ev attr _ (by omega) ((unhide H3).below (unhide B1))).mono ?_; rw [hgt]; rintro e w2 ⟨rfl, b2⟩; simp only [getV]; have hh := (b2.block _ (heap_lt (unhide HH1))).trans (unhide HH1); obtain ⟨d0, d1, d2, d3, d4, d5⟩ := of6' hh; have HH2 := hide hh; have B2 := hide (below_sub (unhide B1) b2); clear b2 hh c0 c1 c2 c3 c4 c5)
      | (go_at_call 31; refine name_world ?_; intro Y hY; have yv : Y.heap[w2.heap.size]? = some (.cells #[.int .i64 y.kind, .int .i64 y.num, .string y.word] 40 (0, 0)) := (by rw [hY]; exact box_nw _ _); have bY : Below w2.heap.size w2 Y := (by rw [hY]; exact (Below.refl _ _).alloc (Nat.le_refl _) _); clear hY; refine (check_any y.kind y.num y.word Y).mono ?_; rw [hck]; rintro e w3 ⟨rfl, b3⟩; have hh := (b3.block _ (heap_lt yv)).trans yv; obtain ⟨v0, v1, v2⟩ := of3' hh; have hp3 := ((below_sub bY b3).block _ (heap_lt (unhide HH2))).trans (unhide HH2); obtain ⟨e0, e1, e2, e3, e4, e5⟩ := of6' hp3; have HV3 := hide hh; have HP3 := hide hp3; have B3 := hide (below_sub (unhide B2) (below_sub bY b3)); clear b3 hh hp3 yv bY d0 d1 d2 d3 d4 d5))
    go_ret
    exact ⟨ret_bool (by simp), unhide B3⟩
set_option maxRecDepth 100000 in
set_option maxHeartbeats 4000000 in
theorem holds_k2 (kind : Int) (attr : ByteArray) (qi : Option Addr) (ci : Nat) (ints : List Int) (qw : Option Addr) (cw : Nat) (words : List ByteArray) (lo hi : Int) (qe : Option Addr) (ce : Nat) (ev : List Pr) (w : World) (h1 : SlOf encI 1 w qi ci ints) (h2 : SlOf encS 1 w qw cw words) (h3 : SlOf encR 4 w qe ce ev) (l1 : ints.length ≤ 100000000000000) (l2 : words.length ≤ 100000000000000) (l3 : ev.length ≤ 100000000000000) (hkd : kind = 2) (y : Pr) (hpB : predB kind attr ints words lo hi = true) (hgt : getP attr ev = some y) (hck : chkV y.kind y.num y.word = 0) :
    Calls Tryz.prog 18 #[.agg #[.int .i64 kind, .string attr, .slice qi ints.length ci, .slice qw words.length cw, .int .i64 lo, .int .i64 hi], .slice qe ev.length ce] w fun e w' => e = .returned (.bool ((y.kind == 2) && hasS y.word words)) ∧ Below w.heap.size w w' := by
  obtain ⟨X, HX⟩ : ∃ X, w.alloc (.cells #[.int .i64 kind, .string attr, .slice qi ints.length ci, .slice qw words.length cw, .int .i64 lo, .int .i64 hi] 25) = X := ⟨_, rfl⟩
  have hX0 : X.heap[w.heap.size]? = some (.cells #[.int .i64 kind, .string attr, .slice qi ints.length ci, .slice qw words.length cw, .int .i64 lo, .int .i64 hi] 25 (0, 0)) := by rw [← HX]; exact box_nw _ _
  have hwX : Below w.heap.size w X := by rw [← HX]; exact (Below.refl _ _).alloc (Nat.le_refl _) _
  have hp := pred_any kind attr qi ci ints qw cw words lo hi X (h1.below hwX) (h2.below hwX) (by omega) (by omega)
  rw [hpB] at hp
  simp only [code, if_true] at hp
  have H1 := hide h1
  have H2 := hide h2
  have H3 := hide h3
  obtain ⟨x0, x1, x2, x3, x4, x5⟩ := of6' hX0
  have HX0 := hide hX0
  have HXL := hide (heap_lt hX0)
  have HWX := hide hwX
  clear h1 h2 h3 hX0 hwX
  subst hkd
  cases hyk : (y.kind == 2) with
  | true =>
    go_enter Tryz.func18, Tryz.ntmps18
    go_wp2_with (first
      | (go_at_call 48; refine hp.mono ?_; rintro e w1 ⟨rfl, b1⟩; have hh := (b1.block _ (unhide HXL)).trans (unhide HX0); obtain ⟨c0, c1, c2, c3, c4, c5⟩ := of6' hh; have HH1 := hide hh; have B1 := hide (below_sub (unhide HWX) b1); clear b1 hh)
      | (go_at_call 49; refine (get_any qe ce ev attr _ (by omega) ((unhide H3).below (unhide B1))).mono ?_; rw [hgt]; rintro e w2 ⟨rfl, b2⟩; simp only [getV]; have hh := (b2.block _ (heap_lt (unhide HH1))).trans (unhide HH1); obtain ⟨d0, d1, d2, d3, d4, d5⟩ := of6' hh; have HH2 := hide hh; have B2 := hide (below_sub (unhide B1) b2); clear b2 hh c0 c1 c2 c3 c4 c5)
      | (go_at_call 31; refine name_world ?_; intro Y hY; have yv : Y.heap[w2.heap.size]? = some (.cells #[.int .i64 y.kind, .int .i64 y.num, .string y.word] 40 (0, 0)) := (by rw [hY]; exact box_nw _ _); have bY : Below w2.heap.size w2 Y := (by rw [hY]; exact (Below.refl _ _).alloc (Nat.le_refl _) _); clear hY; refine (check_any y.kind y.num y.word Y).mono ?_; rw [hck]; rintro e w3 ⟨rfl, b3⟩; have hh := (b3.block _ (heap_lt yv)).trans yv; obtain ⟨v0, v1, v2⟩ := of3' hh; have hp3 := ((below_sub bY b3).block _ (heap_lt (unhide HH2))).trans (unhide HH2); obtain ⟨e0, e1, e2, e3, e4, e5⟩ := of6' hp3; have HV3 := hide hh; have HP3 := hide hp3; have B3 := hide (below_sub (unhide B2) (below_sub bY b3)); clear b3 hh hp3 yv bY d0 d1 d2 d3 d4 d5)
      | (go_at_call 51; refine (containsS qw cw words y.word _ (by omega) ((unhide H2).below (unhide B3))).mono ?_; rintro e w4 ⟨rfl, b4⟩; have B4 := hide (below_sub (unhide B3) b4); clear b4))
    go_ret
    exact ⟨ret_bool (by simp), unhide B4⟩
  | false =>
    go_enter Tryz.func18, Tryz.ntmps18
    go_wp2_with (first
      | (go_at_call 48; refine hp.mono ?_; rintro e w1 ⟨rfl, b1⟩; have hh := (b1.block _ (unhide HXL)).trans (unhide HX0); obtain ⟨c0, c1, c2, c3, c4, c5⟩ := of6' hh; have HH1 := hide hh; have B1 := hide (below_sub (unhide HWX) b1); clear b1 hh)
      | (go_at_call 49; refine (get_any qe ce ev attr _ (by omega) ((unhide H3).below (unhide B1))).mono ?_; rw [hgt]; rintro e w2 ⟨rfl, b2⟩; simp only [getV]; have hh := (b2.block _ (heap_lt (unhide HH1))).trans (unhide HH1); obtain ⟨d0, d1, d2, d3, d4, d5⟩ := of6' hh; have HH2 := hide hh; have B2 := hide (below_sub (unhide B1) b2); clear b2 hh c0 c1 c2 c3 c4 c5)
      | (go_at_call 31; refine name_world ?_; intro Y hY; have yv : Y.heap[w2.heap.size]? = some (.cells #[.int .i64 y.kind, .int .i64 y.num, .string y.word] 40 (0, 0)) := (by rw [hY]; exact box_nw _ _); have bY : Below w2.heap.size w2 Y := (by rw [hY]; exact (Below.refl _ _).alloc (Nat.le_refl _) _); clear hY; refine (check_any y.kind y.num y.word Y).mono ?_; rw [hck]; rintro e w3 ⟨rfl, b3⟩; have hh := (b3.block _ (heap_lt yv)).trans yv; obtain ⟨v0, v1, v2⟩ := of3' hh; have hp3 := ((below_sub bY b3).block _ (heap_lt (unhide HH2))).trans (unhide HH2); obtain ⟨e0, e1, e2, e3, e4, e5⟩ := of6' hp3; have HV3 := hide hh; have HP3 := hide hp3; have B3 := hide (below_sub (unhide B2) (below_sub bY b3)); clear b3 hh hp3 yv bY d0 d1 d2 d3 d4 d5))
    go_ret
    exact ⟨ret_bool (by simp), unhide B3⟩
set_option maxRecDepth 100000 in
set_option maxHeartbeats 4000000 in
theorem holds_k3 (kind : Int) (attr : ByteArray) (qi : Option Addr) (ci : Nat) (ints : List Int) (qw : Option Addr) (cw : Nat) (words : List ByteArray) (lo hi : Int) (qe : Option Addr) (ce : Nat) (ev : List Pr) (w : World) (h1 : SlOf encI 1 w qi ci ints) (h2 : SlOf encS 1 w qw cw words) (h3 : SlOf encR 4 w qe ce ev) (l1 : ints.length ≤ 100000000000000) (l2 : words.length ≤ 100000000000000) (l3 : ev.length ≤ 100000000000000) (hkd : kind = 3) (y : Pr) (hpB : predB kind attr ints words lo hi = true) (hgt : getP attr ev = some y) (hck : chkV y.kind y.num y.word = 0) :
    Calls Tryz.prog 18 #[.agg #[.int .i64 kind, .string attr, .slice qi ints.length ci, .slice qw words.length cw, .int .i64 lo, .int .i64 hi], .slice qe ev.length ce] w fun e w' => e = .returned (.bool ((y.kind == 1) && (decide (lo ≤ y.num) && decide (y.num ≤ hi)))) ∧ Below w.heap.size w w' := by
  obtain ⟨X, HX⟩ : ∃ X, w.alloc (.cells #[.int .i64 kind, .string attr, .slice qi ints.length ci, .slice qw words.length cw, .int .i64 lo, .int .i64 hi] 25) = X := ⟨_, rfl⟩
  have hX0 : X.heap[w.heap.size]? = some (.cells #[.int .i64 kind, .string attr, .slice qi ints.length ci, .slice qw words.length cw, .int .i64 lo, .int .i64 hi] 25 (0, 0)) := by rw [← HX]; exact box_nw _ _
  have hwX : Below w.heap.size w X := by rw [← HX]; exact (Below.refl _ _).alloc (Nat.le_refl _) _
  have hp := pred_any kind attr qi ci ints qw cw words lo hi X (h1.below hwX) (h2.below hwX) (by omega) (by omega)
  rw [hpB] at hp
  simp only [code, if_true] at hp
  have H1 := hide h1
  have H2 := hide h2
  have H3 := hide h3
  obtain ⟨x0, x1, x2, x3, x4, x5⟩ := of6' hX0
  have HX0 := hide hX0
  have HXL := hide (heap_lt hX0)
  have HWX := hide hwX
  clear h1 h2 h3 hX0 hwX
  subst hkd
  cases hyk : (y.kind == 1) with
  | true =>
    cases hlo : decide (lo ≤ y.num) with
    | true =>
      cases hhi : decide (y.num ≤ hi) with
      | true =>
        go_enter Tryz.func18, Tryz.ntmps18
        go_wp2_with (first
          | (go_at_call 48; refine hp.mono ?_; rintro e w1 ⟨rfl, b1⟩; have hh := (b1.block _ (unhide HXL)).trans (unhide HX0); obtain ⟨c0, c1, c2, c3, c4, c5⟩ := of6' hh; have HH1 := hide hh; have B1 := hide (below_sub (unhide HWX) b1); clear b1 hh)
          | (go_at_call 49; refine (get_any qe ce ev attr _ (by omega) ((unhide H3).below (unhide B1))).mono ?_; rw [hgt]; rintro e w2 ⟨rfl, b2⟩; simp only [getV]; have hh := (b2.block _ (heap_lt (unhide HH1))).trans (unhide HH1); obtain ⟨d0, d1, d2, d3, d4, d5⟩ := of6' hh; have HH2 := hide hh; have B2 := hide (below_sub (unhide B1) b2); clear b2 hh c0 c1 c2 c3 c4 c5)
          | (go_at_call 31; refine name_world ?_; intro Y hY; have yv : Y.heap[w2.heap.size]? = some (.cells #[.int .i64 y.kind, .int .i64 y.num, .string y.word] 40 (0, 0)) := (by rw [hY]; exact box_nw _ _); have bY : Below w2.heap.size w2 Y := (by rw [hY]; exact (Below.refl _ _).alloc (Nat.le_refl _) _); clear hY; refine (check_any y.kind y.num y.word Y).mono ?_; rw [hck]; rintro e w3 ⟨rfl, b3⟩; have hh := (b3.block _ (heap_lt yv)).trans yv; obtain ⟨v0, v1, v2⟩ := of3' hh; have hp3 := ((below_sub bY b3).block _ (heap_lt (unhide HH2))).trans (unhide HH2); obtain ⟨e0, e1, e2, e3, e4, e5⟩ := of6' hp3; have HV3 := hide hh; have HP3 := hide hp3; have B3 := hide (below_sub (unhide B2) (below_sub bY b3)); clear b3 hh hp3 yv bY d0 d1 d2 d3 d4 d5))
        go_ret
        exact ⟨ret_bool (by simp), unhide B3⟩
      | false =>
        go_enter Tryz.func18, Tryz.ntmps18
        go_wp2_with (first
          | (go_at_call 48; refine hp.mono ?_; rintro e w1 ⟨rfl, b1⟩; have hh := (b1.block _ (unhide HXL)).trans (unhide HX0); obtain ⟨c0, c1, c2, c3, c4, c5⟩ := of6' hh; have HH1 := hide hh; have B1 := hide (below_sub (unhide HWX) b1); clear b1 hh)
          | (go_at_call 49; refine (get_any qe ce ev attr _ (by omega) ((unhide H3).below (unhide B1))).mono ?_; rw [hgt]; rintro e w2 ⟨rfl, b2⟩; simp only [getV]; have hh := (b2.block _ (heap_lt (unhide HH1))).trans (unhide HH1); obtain ⟨d0, d1, d2, d3, d4, d5⟩ := of6' hh; have HH2 := hide hh; have B2 := hide (below_sub (unhide B1) b2); clear b2 hh c0 c1 c2 c3 c4 c5)
          | (go_at_call 31; refine name_world ?_; intro Y hY; have yv : Y.heap[w2.heap.size]? = some (.cells #[.int .i64 y.kind, .int .i64 y.num, .string y.word] 40 (0, 0)) := (by rw [hY]; exact box_nw _ _); have bY : Below w2.heap.size w2 Y := (by rw [hY]; exact (Below.refl _ _).alloc (Nat.le_refl _) _); clear hY; refine (check_any y.kind y.num y.word Y).mono ?_; rw [hck]; rintro e w3 ⟨rfl, b3⟩; have hh := (b3.block _ (heap_lt yv)).trans yv; obtain ⟨v0, v1, v2⟩ := of3' hh; have hp3 := ((below_sub bY b3).block _ (heap_lt (unhide HH2))).trans (unhide HH2); obtain ⟨e0, e1, e2, e3, e4, e5⟩ := of6' hp3; have HV3 := hide hh; have HP3 := hide hp3; have B3 := hide (below_sub (unhide B2) (below_sub bY b3)); clear b3 hh hp3 yv bY d0 d1 d2 d3 d4 d5))
        go_ret
        exact ⟨ret_bool (by simp), unhide B3⟩
    | false =>
      go_enter Tryz.func18, Tryz.ntmps18
      go_wp2_with (first
        | (go_at_call 48; refine hp.mono ?_; rintro e w1 ⟨rfl, b1⟩; have hh := (b1.block _ (unhide HXL)).trans (unhide HX0); obtain ⟨c0, c1, c2, c3, c4, c5⟩ := of6' hh; have HH1 := hide hh; have B1 := hide (below_sub (unhide HWX) b1); clear b1 hh)
        | (go_at_call 49; refine (get_any qe ce ev attr _ (by omega) ((unhide H3).below (unhide B1))).mono ?_; rw [hgt]; rintro e w2 ⟨rfl, b2⟩; simp only [getV]; have hh := (b2.block _ (heap_lt (unhide HH1))).trans (unhide HH1); obtain ⟨d0, d1, d2, d3, d4, d5⟩ := of6' hh; have HH2 := hide hh; have B2 := hide (below_sub (unhide B1) b2); clear b2 hh c0 c1 c2 c3 c4 c5)
        | (go_at_call 31; refine name_world ?_; intro Y hY; have yv : Y.heap[w2.heap.size]? = some (.cells #[.int .i64 y.kind, .int .i64 y.num, .string y.word] 40 (0, 0)) := (by rw [hY]; exact box_nw _ _); have bY : Below w2.heap.size w2 Y := (by rw [hY]; exact (Below.refl _ _).alloc (Nat.le_refl _) _); clear hY; refine (check_any y.kind y.num y.word Y).mono ?_; rw [hck]; rintro e w3 ⟨rfl, b3⟩; have hh := (b3.block _ (heap_lt yv)).trans yv; obtain ⟨v0, v1, v2⟩ := of3' hh; have hp3 := ((below_sub bY b3).block _ (heap_lt (unhide HH2))).trans (unhide HH2); obtain ⟨e0, e1, e2, e3, e4, e5⟩ := of6' hp3; have HV3 := hide hh; have HP3 := hide hp3; have B3 := hide (below_sub (unhide B2) (below_sub bY b3)); clear b3 hh hp3 yv bY d0 d1 d2 d3 d4 d5))
      go_ret
      exact ⟨ret_bool (by simp), unhide B3⟩
  | false =>
    go_enter Tryz.func18, Tryz.ntmps18
    go_wp2_with (first
      | (go_at_call 48; refine hp.mono ?_; rintro e w1 ⟨rfl, b1⟩; have hh := (b1.block _ (unhide HXL)).trans (unhide HX0); obtain ⟨c0, c1, c2, c3, c4, c5⟩ := of6' hh; have HH1 := hide hh; have B1 := hide (below_sub (unhide HWX) b1); clear b1 hh)
      | (go_at_call 49; refine (get_any qe ce ev attr _ (by omega) ((unhide H3).below (unhide B1))).mono ?_; rw [hgt]; rintro e w2 ⟨rfl, b2⟩; simp only [getV]; have hh := (b2.block _ (heap_lt (unhide HH1))).trans (unhide HH1); obtain ⟨d0, d1, d2, d3, d4, d5⟩ := of6' hh; have HH2 := hide hh; have B2 := hide (below_sub (unhide B1) b2); clear b2 hh c0 c1 c2 c3 c4 c5)
      | (go_at_call 31; refine name_world ?_; intro Y hY; have yv : Y.heap[w2.heap.size]? = some (.cells #[.int .i64 y.kind, .int .i64 y.num, .string y.word] 40 (0, 0)) := (by rw [hY]; exact box_nw _ _); have bY : Below w2.heap.size w2 Y := (by rw [hY]; exact (Below.refl _ _).alloc (Nat.le_refl _) _); clear hY; refine (check_any y.kind y.num y.word Y).mono ?_; rw [hck]; rintro e w3 ⟨rfl, b3⟩; have hh := (b3.block _ (heap_lt yv)).trans yv; obtain ⟨v0, v1, v2⟩ := of3' hh; have hp3 := ((below_sub bY b3).block _ (heap_lt (unhide HH2))).trans (unhide HH2); obtain ⟨e0, e1, e2, e3, e4, e5⟩ := of6' hp3; have HV3 := hide hh; have HP3 := hide hp3; have B3 := hide (below_sub (unhide B2) (below_sub bY b3)); clear b3 hh hp3 yv bY d0 d1 d2 d3 d4 d5))
    go_ret
    exact ⟨ret_bool (by simp), unhide B3⟩
set_option maxRecDepth 100000 in
set_option maxHeartbeats 4000000 in
theorem holds_k4 (attr : ByteArray) (qi : Option Addr) (ci : Nat) (ints : List Int) (b off : Nat) (cw : Nat) (x : ByteArray) (lo hi : Int) (qe : Option Addr) (ce : Nat) (ev : List Pr) (w : World) (h1 : SlOf encI 1 w qi ci ints) (h2 : SlOf encS 1 w (some ⟨b, off, none⟩) cw [x]) (hlt : b < w.heap.size) (hc : w.cell? ⟨b, off, none⟩ = some (.string x)) (h3 : SlOf encR 4 w qe ce ev) (l1 : ints.length ≤ 100000000000000) (l3 : ev.length ≤ 100000000000000) (y : Pr) (hpB : predB 4 attr ints [x] lo hi = true) (hgt : getP attr ev = some y) (hck : chkV y.kind y.num y.word = 0) :
    Calls Tryz.prog 18 #[.agg #[.int .i64 4, .string attr, .slice qi ints.length ci, .slice (some ⟨b, off, none⟩) 1 cw, .int .i64 lo, .int .i64 hi], .slice qe ev.length ce] w fun e w' => e = .returned (.bool ((y.kind == 2) && prefB y.word x)) ∧ Below w.heap.size w w' := by
  have mixed : Tryz.prog.follows .mixedOrders = true := by kernel_rfl
  have HC := hide hc
  have HLT := hide hlt
  clear hc hlt
  obtain ⟨X, HX⟩ : ∃ X, w.alloc (.cells #[.int .i64 4, .string attr, .slice qi ints.length ci, .slice (some ⟨b, off, none⟩) 1 cw, .int .i64 lo, .int .i64 hi] 25) = X := ⟨_, rfl⟩
  have hX0 : X.heap[w.heap.size]? = some (.cells #[.int .i64 4, .string attr, .slice qi ints.length ci, .slice (some ⟨b, off, none⟩) 1 cw, .int .i64 lo, .int .i64 hi] 25 (0, 0)) := by rw [← HX]; exact box_nw _ _
  have hwX : Below w.heap.size w X := by rw [← HX]; exact (Below.refl _ _).alloc (Nat.le_refl _) _
  have hp : Calls Tryz.prog 48 #[.agg #[.int .i64 4, .string attr, .slice qi ints.length ci, .slice (some ⟨b, off, none⟩) 1 cw, .int .i64 lo, .int .i64 hi]] X fun e w' => e = .returned (.int .i64 (code (predB 4 attr ints [x] lo hi))) ∧ Below X.heap.size X w' := pred_any 4 attr qi ci ints (some ⟨b, off, none⟩) cw [x] lo hi X (h1.below hwX) (h2.below hwX) (by omega) (by simp)
  rw [hpB] at hp
  simp only [code, if_true] at hp
  have H1 := hide h1
  have H2 := hide h2
  have H3 := hide h3
  obtain ⟨x0, x1, x2, x3, x4, x5⟩ := of6' hX0
  have HX0 := hide hX0
  have HXL := hide (heap_lt hX0)
  have HWX := hide hwX
  clear h1 h2 h3 hX0 hwX
  cases hyk : (y.kind == 2) with
  | true =>
    go_enter Tryz.func18, Tryz.ntmps18
    go_wp2_with (first
      | (go_at_call 48; refine hp.mono ?_; rintro e w1 ⟨rfl, b1⟩; have hh := (b1.block _ (unhide HXL)).trans (unhide HX0); obtain ⟨c0, c1, c2, c3, c4, c5⟩ := of6' hh; have HH1 := hide hh; have B1 := hide (below_sub (unhide HWX) b1); clear b1 hh)
      | (go_at_call 49; refine (get_any qe ce ev attr _ (by omega) ((unhide H3).below (unhide B1))).mono ?_; rw [hgt]; rintro e w2 ⟨rfl, b2⟩; simp only [getV]; have hh := (b2.block _ (heap_lt (unhide HH1))).trans (unhide HH1); obtain ⟨d0, d1, d2, d3, d4, d5⟩ := of6' hh; have HH2 := hide hh; have B2 := hide (below_sub (unhide B1) b2); clear b2 hh c0 c1 c2 c3 c4 c5)
      | (go_at_call 31; refine name_world ?_; intro Y hY; have yv : Y.heap[w2.heap.size]? = some (.cells #[.int .i64 y.kind, .int .i64 y.num, .string y.word] 40 (0, 0)) := (by rw [hY]; exact box_nw _ _); have bY : Below w2.heap.size w2 Y := (by rw [hY]; exact (Below.refl _ _).alloc (Nat.le_refl _) _); clear hY; refine (check_any y.kind y.num y.word Y).mono ?_; rw [hck]; rintro e w3 ⟨rfl, b3⟩; have hh := (b3.block _ (heap_lt yv)).trans yv; obtain ⟨v0, v1, v2⟩ := of3' hh; have hp3 := ((below_sub bY b3).block _ (heap_lt (unhide HH2))).trans (unhide HH2); obtain ⟨e0, e1, e2, e3, e4, e5⟩ := of6' hp3; have HV3 := hide hh; have HP3 := hide hp3; have B3 := hide (below_sub (unhide B2) (below_sub bY b3)); clear b3 hh hp3 yv bY d0 d1 d2 d3 d4 d5))
    have HC3 := hide (((unhide B3).cell (p := ⟨b, off, none⟩) (by exact unhide HLT)).trans (unhide HC))
    have f0 : ∀ n os, (grow (redrawn w3 n) os).cell? ⟨w2.heap.size, 0, none⟩ = some (.int .i64 y.kind) := cell_regrown v0
    have f2 : ∀ n os, (grow (redrawn w3 n) os).cell? ⟨w2.heap.size, 2, none⟩ = some (.string y.word) := cell_regrown v2
    have f3 : ∀ n os, (grow (redrawn w3 n) os).cell? ⟨w.heap.size, 3, none⟩ = some (.slice (some ⟨b, off, none⟩) 1 cw) := cell_regrown e3
    have f4 : ∀ n os, (grow (redrawn w3 n) os).cell? ⟨b, off, none⟩ = some (.string x) := cell_regrown (unhide HC3)
    have r40 := fun (n : Nat) (os : Array Obj) => hasPrefix_any y.word x (grow (redrawn w3 n) os)
    obtain ⟨pb, hpb⟩ : ∃ pb, prefB y.word x = pb := ⟨_, rfl⟩
    rw [hpb] at r40
    have HPB := hide hpb
    clear hpb
    have en40 : ∀ args w, (callFunc 52 args).run Tryz.prog w = .ok (.enter 52 args) w := enters_of Tryz.func52 (by kernel_rfl) rfl
    clear e0 e1 e2 e3 e4 e5 v0 v1 v2
    refine wp_region_quiet_below (by assumption) (by kernel_rfl) ?_
    repeat (go_big_quiet_step (first | (go_at_fn 52; refine Calls.regrown_of (r40 _ _))))
    refine wpQuiet_nil ?_
    intro _ hw'
    obtain ⟨⟨dq, osq⟩, hw''⟩ := hw'
    subst hw''
    go_wp2
    go_ret
    exact ⟨ret_bool (by rw [unhide HPB]; simp), below_sub (unhide B3) (below_regrown _ _ _)⟩
  | false =>
    go_enter Tryz.func18, Tryz.ntmps18
    go_wp2_with (first
      | (go_at_call 48; refine hp.mono ?_; rintro e w1 ⟨rfl, b1⟩; have hh := (b1.block _ (unhide HXL)).trans (unhide HX0); obtain ⟨c0, c1, c2, c3, c4, c5⟩ := of6' hh; have HH1 := hide hh; have B1 := hide (below_sub (unhide HWX) b1); clear b1 hh)
      | (go_at_call 49; refine (get_any qe ce ev attr _ (by omega) ((unhide H3).below (unhide B1))).mono ?_; rw [hgt]; rintro e w2 ⟨rfl, b2⟩; simp only [getV]; have hh := (b2.block _ (heap_lt (unhide HH1))).trans (unhide HH1); obtain ⟨d0, d1, d2, d3, d4, d5⟩ := of6' hh; have HH2 := hide hh; have B2 := hide (below_sub (unhide B1) b2); clear b2 hh c0 c1 c2 c3 c4 c5)
      | (go_at_call 31; refine name_world ?_; intro Y hY; have yv : Y.heap[w2.heap.size]? = some (.cells #[.int .i64 y.kind, .int .i64 y.num, .string y.word] 40 (0, 0)) := (by rw [hY]; exact box_nw _ _); have bY : Below w2.heap.size w2 Y := (by rw [hY]; exact (Below.refl _ _).alloc (Nat.le_refl _) _); clear hY; refine (check_any y.kind y.num y.word Y).mono ?_; rw [hck]; rintro e w3 ⟨rfl, b3⟩; have hh := (b3.block _ (heap_lt yv)).trans yv; obtain ⟨v0, v1, v2⟩ := of3' hh; have hp3 := ((below_sub bY b3).block _ (heap_lt (unhide HH2))).trans (unhide HH2); obtain ⟨e0, e1, e2, e3, e4, e5⟩ := of6' hp3; have HV3 := hide hh; have HP3 := hide hp3; have B3 := hide (below_sub (unhide B2) (below_sub bY b3)); clear b3 hh hp3 yv bY d0 d1 d2 d3 d4 d5))
    have HC3 := hide (((unhide B3).cell (p := ⟨b, off, none⟩) (by exact unhide HLT)).trans (unhide HC))
    have f0 : ∀ n os, (grow (redrawn w3 n) os).cell? ⟨w2.heap.size, 0, none⟩ = some (.int .i64 y.kind) := cell_regrown v0
    have f2 : ∀ n os, (grow (redrawn w3 n) os).cell? ⟨w2.heap.size, 2, none⟩ = some (.string y.word) := cell_regrown v2
    have f3 : ∀ n os, (grow (redrawn w3 n) os).cell? ⟨w.heap.size, 3, none⟩ = some (.slice (some ⟨b, off, none⟩) 1 cw) := cell_regrown e3
    have f4 : ∀ n os, (grow (redrawn w3 n) os).cell? ⟨b, off, none⟩ = some (.string x) := cell_regrown (unhide HC3)
    have r40 := fun (n : Nat) (os : Array Obj) => hasPrefix_any y.word x (grow (redrawn w3 n) os)
    obtain ⟨pb, hpb⟩ : ∃ pb, prefB y.word x = pb := ⟨_, rfl⟩
    rw [hpb] at r40
    have HPB := hide hpb
    clear hpb
    have en40 : ∀ args w, (callFunc 52 args).run Tryz.prog w = .ok (.enter 52 args) w := enters_of Tryz.func52 (by kernel_rfl) rfl
    clear e0 e1 e2 e3 e4 e5 v0 v1 v2
    refine wp_region_quiet_below (by assumption) (by kernel_rfl) ?_
    repeat (go_big_quiet_step (first | (go_at_fn 52; refine Calls.regrown_of (r40 _ _))))
    refine wpQuiet_nil ?_
    intro _ hw'
    obtain ⟨⟨dq, osq⟩, hw''⟩ := hw'
    subst hw''
    go_wp2
    go_ret
    exact ⟨ret_bool (by rw [unhide HPB]; simp), below_sub (unhide B3) (below_regrown _ _ _)⟩
theorem pred_kindsE {kind : Int} {attr : ByteArray} {ints : List Int} {words : List ByteArray} {lo hi : Int} (h : predB kind attr ints words lo hi = true) : kind = 1 ∨ kind = 2 ∨ kind = 3 ∨ (kind = 4 ∧ ∃ x, words = [x]) := by
  unfold predB at h
  rw [Bool.and_eq_true] at h
  obtain ⟨_, h⟩ := h
  split at h
  · exact Or.inl (by assumption)
  split at h
  · exact Or.inr (Or.inl (by assumption))
  split at h
  · exact Or.inr (Or.inr (Or.inl (by assumption)))
  split at h
  · refine Or.inr (Or.inr (Or.inr ⟨by assumption, ?_⟩))
    rw [Bool.and_eq_true] at h
    have hm := h.1
    unfold memB at hm
    rw [Bool.and_eq_true, Bool.and_eq_true] at hm
    have h1 := of_decide_eq_true hm.2.1
    have h2 := of_decide_eq_true hm.2.2
    exact List.length_eq_one_iff.1 (by omega)
  · cases h
theorem holds_any (kind : Int) (attr : ByteArray) (qi : Option Addr) (ci : Nat) (ints : List Int) (qw : Option Addr) (cw : Nat) (words : List ByteArray) (lo hi : Int) (qe : Option Addr) (ce : Nat) (ev : List Pr) (w : World) (h1 : SlOf encI 1 w qi ci ints) (h2 : SlOf encS 1 w qw cw words) (h3 : SlOf encR 4 w qe ce ev) (l1 : ints.length ≤ 100000000000000) (l2 : words.length ≤ 100000000000000) (l3 : ev.length ≤ 100000000000000) :
    Calls Tryz.prog 18 #[.agg #[.int .i64 kind, .string attr, .slice qi ints.length ci, .slice qw words.length cw, .int .i64 lo, .int .i64 hi], .slice qe ev.length ce] w fun e w' => e = .returned (.bool (holdsB kind attr ints words lo hi ev)) ∧ Below w.heap.size w w' := by
  cases hpB : predB kind attr ints words lo hi with
  | false => rw [holdsB_no hpB]; exact holds_no kind attr qi ci ints qw cw words lo hi qe ce ev w h1 h2 h3 l1 l2 l3 hpB
  | true =>
    cases hgt : getP attr ev with
    | none => rw [holdsB_none hgt]; exact holds_none kind attr qi ci ints qw cw words lo hi qe ce ev w h1 h2 h3 l1 l2 l3 hpB hgt
    | some y =>
      rcases chk_or y.kind y.num y.word with hck | hck
      · rw [holdsB_told hpB hgt hck]
        rcases pred_kindsE hpB with hk | hk | hk | ⟨hk, x, rfl⟩
        · have := holds_k1 kind attr qi ci ints qw cw words lo hi qe ce ev w h1 h2 h3 l1 l2 l3 hk y hpB hgt hck
          unfold toldB; rwa [if_pos hk]
        · have := holds_k2 kind attr qi ci ints qw cw words lo hi qe ce ev w h1 h2 h3 l1 l2 l3 hk y hpB hgt hck
          unfold toldB; rwa [if_neg (by omega), if_pos hk]
        · have := holds_k3 kind attr qi ci ints qw cw words lo hi qe ce ev w h1 h2 h3 l1 l2 l3 hk y hpB hgt hck
          unfold toldB; rwa [if_neg (by omega), if_neg (by omega), if_pos hk]
        · subst hk
          obtain ⟨b, off, rfl, hlt, hc⟩ := wordsAt h2 (j := 0) rfl
          exact holds_k4 attr qi ci ints b off cw x lo hi qe ce ev w h1 h2 hlt hc h3 l1 l3 y hpB hgt hck
      · rw [holdsB_bad hgt (by omega)]; exact holds_bad kind attr qi ci ints qw cw words lo hi qe ce ev w h1 h2 h3 l1 l2 l3 y hpB hgt hck
end Go.Proofs.YtedakipjfpdajaaGreatDoor

/- The reference's disk in memory; at, named, refuse, Arm. -/
import Derived.Test.YtfigjfmldpfjkaaGreatZaa
import Derived.Shelf.Abstract
namespace Go.Proofs.YtfigjfmldpfjkaaGreat
open Go.RowKit Go.Sort

/-- A list in memory whose row lies in a set of blocks. -/
def SlIn {α : Type} [Inhabited α] (enc : α → List Value) (k : Nat) (P : Nat → Prop) (w : World) (q : Option Addr) (c : Nat) (l : List α) : Prop := SlOf enc k w q c l ∧ (0 < l.length → ∀ a, q = some a → P a.block)
theorem cell_same {w w' : World} {b o : Nat} (h : w'.heap[b]? = w.heap[b]?) : w'.cell? ⟨b, o, none⟩ = w.cell? ⟨b, o, none⟩ := by unfold World.cell?; simp only [h]
theorem SlIn.kept {α : Type} [Inhabited α] {enc : α → List Value} {k : Nat} {P : Nat → Prop} {w w' : World} {q : Option Addr} {c : Nat} {l : List α} (h : SlIn enc k P w q c l) (hs : w.heap.size ≤ w'.heap.size) (hk : ∀ i, P i → i < w.heap.size → w'.heap[i]? = w.heap[i]?) : SlIn enc k P w' q c l := by
  refine ⟨⟨h.1.1, h.1.2.1, h.1.2.2.1, fun h0 => ?_⟩, h.2⟩
  obtain ⟨b, off, hq, hb, hc⟩ := h.1.2.2.2 h0
  exact ⟨b, off, hq, Nat.lt_of_lt_of_le hb hs, fun j u hj => (cell_same (hk b (h.2 h0 _ hq) hb)).trans (hc j u hj)⟩
theorem SlIn.mono {α : Type} [Inhabited α] {enc : α → List Value} {k : Nat} {P P' : Nat → Prop} {w : World} {q : Option Addr} {c : Nat} {l : List α} (h : SlIn enc k P w q c l) (hp : ∀ i, P i → i < w.heap.size → P' i) : SlIn enc k P' w q c l := by
  refine ⟨h.1, fun h0 a ha => ?_⟩
  obtain ⟨b, off, hq, hb, _⟩ := h.1.2.2.2 h0
  have h2 := h.2 h0 a ha
  rw [ha] at hq
  cases hq
  exact hp _ h2 hb
/-- A row of the call's own, as a list in memory. -/
theorem OwnK.sl {α : Type} [Inhabited α] {enc : α → List Value} {e : TypeId} {k B : Nat} {w : World} {q : Option Addr} {c : Nat} {l : List α} (h : OwnK enc e k B w q c l) : SlIn enc k (fun i => B ≤ i) w q c l := by
  refine ⟨h.ls, fun h0 a ha => ?_⟩
  rcases h.2 with ⟨h1, _⟩ | ⟨g, cp, cur, hv, hB, hblk, hr⟩
  · injection h1 with h1 h2; omega
  · injection hv with h1
    rw [ha] at h1
    injection h1 with h1
    rw [h1]; exact hB
structure RIn (P : Nat → Prop) (w : World) (g : Nat) (r : Rk) (q : Option Addr) (c : Nat) : Prop where
  pg : ¬ P g
  small : r.named ≤ 9223372036854775807
  box : w.heap[g]? = some (.cells #[.slice q r.fs.length c, .int .i64 (r.acts : Int), .bool r.off, .int .i64 (r.named : Int), .int .i64 r.part] 30 (0, 0))
  row : SlIn encF 3 P w q c r.fs
  file : ∀ x ∈ r.fs, SlIn encB 1 P w x.p x.c x.bs
def RAt (P : Nat → Prop) (w : World) (g : Nat) (r : Rk) : Prop := ∃ q c, RIn P w g r q c
theorem RIn.glt {P : Nat → Prop} {w : World} {g c : Nat} {r : Rk} {q : Option Addr} (h : RIn P w g r q c) : g < w.heap.size := (Array.getElem?_eq_some_iff.1 h.box).1
theorem RIn.kept {P : Nat → Prop} {w w' : World} {g c : Nat} {r : Rk} {q : Option Addr} (h : RIn P w g r q c) (hs : w.heap.size ≤ w'.heap.size) (hk : ∀ i, P i ∨ i = g → i < w.heap.size → w'.heap[i]? = w.heap[i]?) : RIn P w' g r q c :=
  ⟨h.pg, h.small, (hk g (Or.inr rfl) h.glt).trans h.box, h.row.kept hs fun i hi => hk i (Or.inl hi), fun x hx => (h.file x hx).kept hs fun i hi => hk i (Or.inl hi)⟩
theorem RIn.below {P : Nat → Prop} {w w' : World} {g c : Nat} {r : Rk} {q : Option Addr} (h : RIn P w g r q c) (hb : Below w.heap.size w w') : RIn P w' g r q c := h.kept hb.size fun i _ hi => hb.block i hi
theorem RIn.mono {P P' : Nat → Prop} {w : World} {g c : Nat} {r : Rk} {q : Option Addr} (h : RIn P w g r q c) (hp : ∀ i, P i → i < w.heap.size → P' i) (hg : ¬ P' g) : RIn P' w g r q c :=
  ⟨hg, h.small, h.box, h.row.mono hp, fun x hx => (h.file x hx).mono hp⟩
theorem RAt.below {P : Nat → Prop} {w w' : World} {g : Nat} {r : Rk} (h : RAt P w g r) (hb : Below w.heap.size w w') : RAt P w' g r := by obtain ⟨q, c, h⟩ := h; exact ⟨q, c, h.below hb⟩
/-- The box alone is written, not its files. -/
theorem RIn.turn {P : Nat → Prop} {w w' : World} {g c : Nat} {r r' : Rk} {q : Option Addr} (h : RIn P w g r q c) (hg : w.grownBy w' (some g)) (he : r'.fs = r.fs) (hsm : r'.named ≤ 9223372036854775807)
    (hb : w'.heap[g]? = some (.cells #[.slice q r'.fs.length c, .int .i64 (r'.acts : Int), .bool r'.off, .int .i64 (r'.named : Int), .int .i64 r'.part] 30 (0, 0))) : RIn P w' g r' q c := by
  have hk : ∀ i, P i → i < w.heap.size → w'.heap[i]? = w.heap[i]? := fun i hi hl => hg.block i hl (by intro e; injection e with e; exact h.pg (e ▸ hi))
  exact ⟨h.pg, hsm, hb, he ▸ h.row.kept hg.size hk, fun x hx => (h.file x (he ▸ hx)).kept hg.size hk⟩
/-- The files' row alone is another. -/
theorem RIn.refile {P : Nat → Prop} {w w' : World} {g c c' : Nat} {r r' : Rk} {q q' : Option Addr} (h : RIn P w g r q c) (hsm : r'.named ≤ 9223372036854775807)
    (hb : w'.heap[g]? = some (.cells #[.slice q' r'.fs.length c', .int .i64 (r'.acts : Int), .bool r'.off, .int .i64 (r'.named : Int), .int .i64 r'.part] 30 (0, 0))) (hrow : SlIn encF 3 P w' q' c' r'.fs) (hf : ∀ x ∈ r'.fs, SlIn encB 1 P w' x.p x.c x.bs) : RIn P w' g r' q' c' := ⟨h.pg, hsm, hb, hrow, hf⟩
theorem fileAt {w : World} {q : Option Addr} {c : Nat} {l : List Rf} {j : Nat} {x : Rf} (h : SlOf encF 3 w q c l) (hj : l[j]? = some x) : ∃ b off, q = some ⟨b, off, none⟩ ∧ b < w.heap.size ∧ w.cell? ⟨b, off + j * 3, none⟩ = some (.string x.nm) ∧ w.cell? ⟨b, off + j * 3 + 1, none⟩ = some (.slice x.p x.bs.length x.c) ∧ w.cell? ⟨b, off + j * 3 + 2, none⟩ = some (.int .i64 (x.la : Int)) := by
  obtain ⟨b, off, hq, hb, hc⟩ := h.2.2.2.at hj
  exact ⟨b, off, hq, hb, hc 0 (by omega), hc 1 (by omega), hc 2 (by omega)⟩
end Go.Proofs.YtfigjfmldpfjkaaGreat
namespace Go.Proofs.YtfigjfmldpfjkaaGreat
open Go.RowKit Go.Sort

theorem tl_ne {a b : ByteArray} (h : a ≠ b) : (a.toList == b.toList) = false := by
  rw [beq_eq_false_iff_ne, ByteArray.toList_eq, ByteArray.toList_eq]
  intro e; exact h (ba_ext e)
theorem tl_eq {a b : ByteArray} (h : a = b) : (a.toList == b.toList) = true := by rw [h]; exact beq_self_eq_true _
set_option maxHeartbeats 1000000 in
/-- at: the place of a name. -/
theorem at_yes {P : Nat → Prop} {w : World} {g c : Nat} {r : Rk} {q : Option Addr} (h : RIn P w g r q c) (nm : ByteArray) {i : Nat} {x : Rf} (hx : r.fs[i]? = some x) (hn : x.nm = nm) (hb : ∀ j y, j < i → r.fs[j]? = some y → y.nm ≠ nm) (hl : r.fs.length ≤ 1000000000) :
    Calls Tryz.prog 61 #[.pointer (some ⟨g, 0, none⟩), .string nm] w fun e w' => e = .returned (.tuple #[.int .i64 (i : Int), .bool true]) ∧ w' = w := by
  obtain ⟨⟨c0, c1, c2, c3, c4⟩, _⟩ := cells5 h.box
  have HR := hide h.row.1
  have HB := hide hb
  have HX := hide hx
  have hil : i < r.fs.length := (List.getElem?_eq_some_iff.1 hx).1
  clear h hb hx
  go_enter Tryz.func61, Tryz.ntmps61
  go_wp2
  go_loopw [6] (fun v wr => ∃ k : Nat, k ≤ i ∧ v = .int .i64 (k : Int) ∧ wr = w) (fun v _ => i - (intOf v).toNat)
  case atStart => exact ⟨0, Nat.zero_le _, rfl, rfl⟩
  case round =>
    obtain ⟨k, hk, rfl, hw⟩ := hrel
    obtain rfl := hw.symm
    have ki0 : (0 : Int) ≤ (k : Int) := by omega
    have ki1 : (k : Int) < (r.fs.length : Int) := by omega
    by_cases hki : k = i
    · subst hki
      obtain ⟨b, off, hq, _, d0, d1, d2⟩ := fileAt (unhide HR) (unhide HX)
      subst hq
      rw [hn] at d0
      go_wp2
      refine bodyPost_ret (v := .tuple #[.int .i64 (k : Int), .bool true]) (by simp [results, Tryz.f61, go_sem]) rfl ?_
      exact ⟨rfl, rfl⟩
    · obtain ⟨y, hy, _⟩ := get_at (show k < r.fs.length by omega)
      have hne := tl_ne (unhide HB k y (by omega) hy)
      obtain ⟨b, off, hq, _, d0, d1, d2⟩ := fileAt (unhide HR) hy
      subst hq
      go_wp2
      go_roundw
      case rel => exact ⟨k + 1, by omega, by go_num, trivial⟩
      case measure => simp [intOf]; omega
set_option maxHeartbeats 1000000 in
theorem at_no {P : Nat → Prop} {w : World} {g c : Nat} {r : Rk} {q : Option Addr} (h : RIn P w g r q c) (nm : ByteArray) (hb : ∀ y ∈ r.fs, y.nm ≠ nm) (hl : r.fs.length ≤ 1000000000) :
    Calls Tryz.prog 61 #[.pointer (some ⟨g, 0, none⟩), .string nm] w fun e w' => e = .returned (.tuple #[.int .i64 0, .bool false]) ∧ w' = w := by
  obtain ⟨⟨c0, c1, c2, c3, c4⟩, _⟩ := cells5 h.box
  have HR := hide h.row.1
  have HB := hide hb
  clear h hb
  go_enter Tryz.func61, Tryz.ntmps61
  go_wp2
  go_loopw [6] (fun v wr => ∃ k : Nat, k ≤ r.fs.length ∧ v = .int .i64 (k : Int) ∧ wr = w) (fun v _ => r.fs.length - (intOf v).toNat)
  case atStart => exact ⟨0, Nat.zero_le _, rfl, rfl⟩
  case round =>
    obtain ⟨k, hk, rfl, hw⟩ := hrel
    obtain rfl := hw.symm
    by_cases hki : k = r.fs.length
    · have ki1 : ¬ (k : Int) < (r.fs.length : Int) := by omega
      go_wp2
      refine bodyPost_ret (v := .tuple #[.int .i64 0, .bool false]) (by simp [results, Tryz.f61, go_sem]) rfl ?_
      exact ⟨rfl, rfl⟩
    · have ki0 : (0 : Int) ≤ (k : Int) := by omega
      have ki1 : (k : Int) < (r.fs.length : Int) := by omega
      obtain ⟨y, hy, _⟩ := get_at (show k < r.fs.length by omega)
      have hne := tl_ne (unhide HB y (List.mem_of_getElem? hy))
      obtain ⟨b, off, hq, _, d0, d1, d2⟩ := fileAt (unhide HR) hy
      subst hq
      go_wp2
      go_roundw
      case rel => exact ⟨k + 1, by omega, by go_num, trivial⟩
      case measure => simp [intOf]; omega
theorem named_0 {P : Nat → Prop} {w : World} {g c : Nat} {r : Rk} {q : Option Addr} (h : RIn P w g r q c) (h0 : r.named = 0) : Calls Tryz.prog 60 #[.pointer (some ⟨g, 0, none⟩)] w fun e w' => e = .returned (.bool false) ∧ w' = w := by
  obtain ⟨⟨c0, c1, c2, c3, c4⟩, _⟩ := cells5 h.box
  rw [h0] at c3
  clear h
  go_enter Tryz.func60, Tryz.ntmps60
  go_wp2
  go_ret
  exact ⟨rfl, rfl⟩
theorem named_1 {P : Nat → Prop} {w : World} {g c : Nat} {r : Rk} {q : Option Addr} (h : RIn P w g r q c) (h0 : r.named = 1) : Calls Tryz.prog 60 #[.pointer (some ⟨g, 0, none⟩)] w fun e w' => e = .returned (.bool true) ∧ RIn P w' g { r with named := 0, off := true } q c ∧ w.grownBy w' (some g) := by
  obtain ⟨⟨c0, c1, c2, c3, c4⟩, z0, z1, z2, z3⟩ := cells5 h.box
  have b2 := heap_setCell_same w g 3 _ 30 (.int .i64 0) h.box
  have b3 := heap_setCell_same _ g 2 _ 30 (.bool true) b2
  obtain ⟨⟨d0, d1, d2, d3, d4⟩, y0, y1, y2, y3⟩ := cells5 b2
  obtain ⟨⟨e0, e1, e2, e3, e4⟩, x0, x1, x2, x3⟩ := cells5 b3
  have HI := hide h
  have H3 := hide b3
  rw [h0] at c3
  clear h b2 b3
  go_enter Tryz.func60, Tryz.ntmps60
  go_wp2
  go_ret
  have hg : w.grownBy ((w.setCell ⟨g, 3, none⟩ (.int .i64 0)).setCell ⟨g, 2, none⟩ (.bool true)) (some g) := grown_trans (grown_set _ _ _ _) (grown_set _ _ _ _)
  exact ⟨rfl, (unhide HI).turn hg rfl (by simp) (unhide H3), hg⟩
theorem named_n {P : Nat → Prop} {w : World} {g c : Nat} {r : Rk} {q : Option Addr} (h : RIn P w g r q c) (h0 : 2 ≤ r.named) (ho : r.off = false) : Calls Tryz.prog 60 #[.pointer (some ⟨g, 0, none⟩)] w fun e w' => e = .returned (.bool false) ∧ RIn P w' g { r with named := r.named - 1 } q c ∧ w.grownBy w' (some g) := by
  have hsm := h.small
  obtain ⟨m, hm⟩ : ∃ m, r.named = m + 1 := ⟨r.named - 1, by omega⟩
  obtain ⟨⟨c0, c1, c2, c3, c4⟩, z0, z1, z2, z3⟩ := cells5 h.box
  have b2 := heap_setCell_same w g 3 _ 30 (.int .i64 (m : Int)) h.box
  obtain ⟨⟨d0, d1, d2, d3, d4⟩, y0, y1, y2, y3⟩ := cells5 b2
  have HI := hide h
  have H3 := hide b2
  have e0 : ((r.named : Int) == 0) = false := by simp; omega
  have e1 : (r.named : Int) - 1 = (m : Int) := by omega
  have e2 : IntKind.i64.wrap (m : Int) = (m : Int) := wrap_int _ (by omega) (by omega)
  have e3 : ((m : Int) == 0) = false := by simp; omega
  rw [ho] at c2 d2
  clear h b2
  go_enter Tryz.func60, Tryz.ntmps60
  go_wp2
  go_ret
  refine ⟨rfl, (unhide HI).turn (grown_set _ _ _ _) rfl (by show r.named - 1 ≤ _; omega) ?_, grown_set _ _ _ _⟩
  simp only
  rw [show r.named - 1 = m by omega]
  exact unhide H3
def hasN (l : List Rf) (nm : ByteArray) : Bool := l.any fun x => decide (x.nm = nm)
theorem has_no {l : List Rf} {nm : ByteArray} (h : hasN l nm = false) : ∀ y ∈ l, y.nm ≠ nm := fun y hy e => by
  unfold hasN at h
  rw [List.any_eq_false] at h
  exact h y hy (by simpa using e)
theorem has_yes {l : List Rf} {nm : ByteArray} (h : hasN l nm = true) : ∃ (i : Nat) (x : Rf), l[i]? = some x ∧ x.nm = nm ∧ ∀ (j : Nat) (y : Rf), j < i → l[j]? = some y → y.nm ≠ nm := by
  induction l with
  | nil => simp [hasN] at h
  | cons a l ih =>
    by_cases e : a.nm = nm
    · exact ⟨0, a, rfl, e, fun j y hj => by omega⟩
    · have h2 : hasN l nm = true := by unfold hasN at h ⊢; simpa [e] using h
      obtain ⟨i, x, h3, h4, h5⟩ := ih h2
      refine ⟨i + 1, x, by simpa using h3, h4, fun j y hj hy => ?_⟩
      cases j with
      | zero => simp at hy; rw [← hy]; exact e
      | succ j => exact h5 j y (by omega) (by simpa using hy)
def refE (r : Rk) (nm other : ByteArray) (there : Bool) : Int := if r.off then 40 else if nameOk nm && nameOk other then (if there && !hasN r.fs nm then 41 else 0) else 1
set_option maxHeartbeats 1000000 in
theorem refuse_any {P : Nat → Prop} {w : World} {g c : Nat} {r : Rk} {q : Option Addr} (h : RIn P w g r q c) (nm other : ByteArray) (there : Bool) (hl : r.fs.length ≤ 1000000000) :
    Calls Tryz.prog 59 #[.pointer (some ⟨g, 0, none⟩), .string nm, .string other, .bool there] w fun e w' => e = .returned (.int .i64 (refE r nm other there)) ∧ w' = w := by
  obtain ⟨⟨c0, c1, c2, c3, c4⟩, _⟩ := cells5 h.box
  unfold refE
  cases ho : r.off with
  | true =>
    rw [ho] at c2
    clear h
    go_enter Tryz.func59, Tryz.ntmps59
    go_wp2
    go_ret
    exact ⟨rfl, rfl⟩
  | false =>
    rw [ho] at c2
    cases hk : nameOk nm with
    | false =>
      clear h
      go_enter Tryz.func59, Tryz.ntmps59
      go_wp2_with (go_at_call 95; refine (refName_any _ _).mono ?_; rintro e w1 ⟨rfl, hw1⟩; obtain rfl := hw1.symm)
      go_ret
      exact ⟨by simp, rfl⟩
    | true =>
      cases hk2 : nameOk other with
      | false =>
        clear h
        go_enter Tryz.func59, Tryz.ntmps59
        go_wp2_with (go_at_call 95; refine (refName_any _ _).mono ?_; rintro e w1 ⟨rfl, hw1⟩; obtain rfl := hw1.symm)
        go_ret
        exact ⟨by simp, rfl⟩
      | true =>
        cases hh : hasN r.fs nm with
        | true =>
          obtain ⟨i, x, hx, hn, hb⟩ := has_yes hh
          have hat := at_yes h nm hx hn hb hl
          clear h hb hx
          cases there
          all_goals
            go_enter Tryz.func59, Tryz.ntmps59
            go_wp2_with (first | (go_at_call 61; refine hat.mono ?_; rintro e w1 ⟨rfl, hw1⟩; obtain rfl := hw1.symm) | (go_at_call 95; refine (refName_any _ _).mono ?_; rintro e w1 ⟨rfl, hw1⟩; obtain rfl := hw1.symm))
            go_ret
            exact ⟨by simp, rfl⟩
        | false =>
          have hat := at_no h nm (has_no hh) hl
          clear h
          cases there
          all_goals
            go_enter Tryz.func59, Tryz.ntmps59
            go_wp2_with (first | (go_at_call 61; refine hat.mono ?_; rintro e w1 ⟨rfl, hw1⟩; obtain rfl := hw1.symm) | (go_at_call 95; refine (refName_any _ _).mono ?_; rintro e w1 ⟨rfl, hw1⟩; obtain rfl := hw1.symm))
            go_ret
            exact ⟨by simp, rfl⟩
theorem rarm_no {P : Nat → Prop} {w : World} {g c : Nat} {r : Rk} {q : Option Addr} (h : RIn P w g r q c) (n p : Int) (ho : r.off = true) : Calls Tryz.prog 27 #[.pointer (some ⟨g, 0, none⟩), .int .i64 n, .int .i64 p] w fun e w' => e = .returned (.int .i64 40) ∧ w' = w := by
  obtain ⟨⟨c0, c1, c2, c3, c4⟩, _⟩ := cells5 h.box
  rw [ho] at c2
  clear h
  go_enter Tryz.func27, Tryz.ntmps27
  go_wp2
  go_ret
  exact ⟨rfl, rfl⟩
theorem froz4 {w : World} {g : Nat} {cur : Array Value} {t : TypeId} (h : w.heap[g]? = some (.cells cur t (0, 0))) (o : Nat) : w.frozen? ⟨g, o, none⟩ = false := frozen_free h
theorem rarm_yes {P : Nat → Prop} {w : World} {g c : Nat} {r : Rk} {q : Option Addr} (h : RIn P w g r q c) (n p : Int) (hn : n ≤ 9223372036854775807) (ho : r.off = false) : Calls Tryz.prog 27 #[.pointer (some ⟨g, 0, none⟩), .int .i64 n, .int .i64 p] w fun e w' => e = .returned (.int .i64 0) ∧ RIn P w' g { r with named := (max n 0).toNat, part := p } q c ∧ w.grownBy w' (some g) := by
  obtain ⟨⟨c0, c1, c2, c3, c4⟩, z0, z1, z2, z3⟩ := cells5 h.box
  have b2 := heap_setCell_same w g 3 _ 30 (.int .i64 (max n 0)) h.box
  have b3 := heap_setCell_same _ g 4 _ 30 (.int .i64 p) b2
  obtain ⟨⟨d0, d1, d2, d3, d4⟩, y0, y1, y2, y3⟩ := cells5 b2
  have y4 := froz4 b2 4
  have HI := hide h
  have H3 := hide b3
  rw [ho] at c2
  clear h b2 b3
  go_enter Tryz.func27, Tryz.ntmps27
  go_wp2
  go_ret
  have hg : w.grownBy ((w.setCell ⟨g, 3, none⟩ (.int .i64 (max n 0))).setCell ⟨g, 4, none⟩ (.int .i64 p)) (some g) := grown_trans (grown_set _ _ _ _) (grown_set _ _ _ _)
  refine ⟨rfl, (unhide HI).turn hg rfl (by show (max n 0).toNat ≤ _; omega) ?_, hg⟩
  have h5 := unhide H3
  simp only
  rw [show (((max n 0).toNat : Nat) : Int) = max n 0 by omega]
  exact h5
end Go.Proofs.YtfigjfmldpfjkaaGreat
namespace Go.Proofs.YtfigjfmldpfjkaaGreat
open Go.RowKit Go.Sort Go.Shelf

set_option maxHeartbeats 1000000 in
theorem floose_any {B : Nat → Prop} {w : World} {h : Nat} {q : Option Addr} {c : Nat} {fl : Fl} (hf : FlAt B w h q c fl) (hl : fl.bytes.length ≤ 140737488355328) :
    Calls Tryz.prog 79 #[.pointer (some ⟨h, 0, none⟩)] w fun e w' => e = .returned (.int .i64 ((fl.bytes.length - fl.lasts : Nat) : Int)) ∧ ∃ d, w' = w.drewN d := by
  obtain ⟨⟨c0, c1⟩, _⟩ := cells2 hf.2.1
  have h4 := hf.2.2.2
  have e1 : (fl.bytes.length : Int) - (fl.lasts : Int) = ((fl.bytes.length - fl.lasts : Nat) : Int) := by omega
  have e2 : IntKind.i64.wrap ((fl.bytes.length : Int) - (fl.lasts : Int)) = ((fl.bytes.length - fl.lasts : Nat) : Int) := by rw [e1]; exact wrap_nat _ (by omega)
  clear hf
  go_enter Tryz.func79, Tryz.ntmps79
  go_wp2
  go_quiet (fail)
  go_wp2
  go_ret
  exact ⟨rfl, _, rfl⟩
def modZ (n : Int) (m : Nat) : Nat := (n % (m : Int)).toNat
theorem mod_any (n : Int) (m : Nat) (hm : 0 < m) (hm2 : m ≤ 200000000000000) (w : World) :
    Calls Tryz.prog 78 #[.int .i64 n, .int .i64 (m : Int)] w fun e w' => e = .returned (.int .i64 ((modZ n m : Nat) : Int)) ∧ w' = w := by
  have m0 : ¬ (m : Int) = 0 := by omega
  have m0' : ((m : Int) == 0) = false := by simp; omega
  have hlo := Int.lt_tmod_of_pos n (show (0 : Int) < (m : Int) by omega)
  have hhi : Int.tmod n (m : Int) < (m : Int) := Int.tmod_lt_of_pos n (by omega)
  have e2 : IntKind.i64.wrap (Int.tmod n (m : Int)) = Int.tmod n (m : Int) := wrap_int _ (by omega) (by omega)
  have e3 : IntKind.i64.wrap (Int.tmod n (m : Int) + (m : Int)) = Int.tmod n (m : Int) + (m : Int) := wrap_int _ (by omega) (by omega)
  have hml : modZ n m < m := by
    unfold modZ
    have := Int.emod_lt_of_pos n (show (0 : Int) < (m : Int) by omega)
    have := Int.emod_nonneg n m0
    omega
  have e4 : IntKind.i64.wrap ((modZ n m : Nat) : Int) = ((modZ n m : Nat) : Int) := wrap_nat _ (by omega)
  have e5 : (n.tmod (m : Int) + (m : Int)) % (m : Int) = ((modZ n m : Nat) : Int) := by
    unfold modZ
    have ha : 0 ≤ n % (m : Int) := Int.emod_nonneg _ m0
    rw [Int.toNat_of_nonneg ha, Int.add_emod_right]
    have h3 := Int.tmod_add_mul_tdiv n (m : Int)
    conv => rhs; rw [← h3]
    rw [Int.add_mul_emod_self_left]
  have hb : 0 ≤ n.tmod (m : Int) + (m : Int) := by omega
  go_enter Tryz.func78, Tryz.ntmps78
  go_wp2
  go_ret
  exact ⟨ret_int e5, rfl⟩
theorem floose_b {B : Nat → Prop} {w : World} {h : Nat} {q : Option Addr} {c : Nat} {fl : Fl} (hf : FlAt B w h q c fl) (hl : fl.bytes.length ≤ 140737488355328) :
    Calls Tryz.prog 79 #[.pointer (some ⟨h, 0, none⟩)] w fun e w' => e = .returned (.int .i64 ((fl.bytes.length - fl.lasts : Nat) : Int)) ∧ Below w.heap.size w w' :=
  (floose_any hf hl).mono (by rintro e w' ⟨h1, d, rfl⟩; exact ⟨h1, ⟨rfl, rfl, rfl, Nat.le_refl _, fun _ _ => rfl⟩⟩)
theorem mod_b (n : Int) (m : Nat) (hm : 0 < m) (hm2 : m ≤ 200000000000000) (w : World) :
    Calls Tryz.prog 78 #[.int .i64 n, .int .i64 (m : Int)] w fun e w' => e = .returned (.int .i64 ((modZ n m : Nat) : Int)) ∧ Below w.heap.size w w' :=
  (mod_any n m hm hm2 w).mono (by rintro e w' ⟨h1, rfl⟩; exact ⟨h1, Below.refl _ _⟩)
theorem sl_take {w : World} {q : Option Addr} {c : Nat} {l : List UInt8} (h : SlOf encB 1 w q c l) (n : Nat) : SlOf encB 1 w q c (l.take n) := by
  refine ⟨fun hq => by have := h.1 hq; exact ⟨by rw [List.length_take]; omega, this.2⟩, by have := h.2.1; rw [List.length_take]; omega, h.2.2.1, fun h0 => ?_⟩
  obtain ⟨b, off, hq, hb, hA⟩ := h.2.2.2 (by simp at h0; omega)
  refine ⟨b, off, hq, hb, fun j u hj => hA j u ?_⟩
  rw [flatB] at hj ⊢
  rw [List.map_take] at hj
  have hlt := (List.getElem?_eq_some_iff.1 hj).1
  rw [List.getElem?_take_of_lt (by simp at hlt; omega)] at hj
  exact hj
theorem own_from {B : Nat} {w : World} {q : Option Addr} {cap : Nat} {l : List UInt8} (h : OwnK encB 5 1 B w q cap l) {p : Addr} (hp : q = some p) : B ≤ p.block := by
  subst hp
  rcases h.2 with ⟨h0, _⟩ | ⟨g, cp, cur, hv, hB, hblk, hr⟩
  · injection h0 with h0; cases h0
  · injection hv with h1
    injection h1 with h1
    subst h1
    exact hB
/-- What a crash keeps of a file. -/
def keptN (fl : Fl) (ch : Int) : Nat := fl.lasts + modZ ch (fl.bytes.length - fl.lasts + 1)
def foundF (fl : Fl) (ch : Int) : Fl := ⟨fl.bytes.take (keptN fl ch), keptN fl ch⟩
theorem modZ_lt (n : Int) {m : Nat} (hm : 0 < m) : modZ n m < m := by
  unfold modZ
  have := Int.emod_lt_of_pos n (show (0 : Int) < (m : Int) by omega)
  have := Int.emod_nonneg n (show (m : Int) ≠ 0 by omega)
  omega
theorem kept_le {fl : Fl} (h : fl.lasts ≤ fl.bytes.length) (ch : Int) : keptN fl ch ≤ fl.bytes.length := by
  unfold keptN
  have := modZ_lt ch (m := fl.bytes.length - fl.lasts + 1) (by omega)
  omega
set_option maxHeartbeats 1000000 in
set_option maxRecDepth 100000 in
theorem found_any {B : Nat → Prop} {w : World} {h : Nat} {q : Option Addr} {c : Nat} {fl : Fl} (hf : FlAt B w h q c fl) (hl : fl.bytes.length ≤ 140737488355328) (ch : Int) :
    Calls Tryz.prog 41 #[.pointer (some ⟨h, 0, none⟩), .int .i64 ch] w fun e w' => (∃ h' q' c', e = .returned (.pointer (some ⟨h', 0, none⟩)) ∧ FlAt (· < w.heap.size) w' h' q' c' (foundF fl ch)) ∧ Below w.heap.size w w' := by
  have mixed : Tryz.prog.follows .mixedOrders = true := by kernel_rfl
  have e39 : ∀ args w, (callFunc 79 args).run Tryz.prog w = .ok (.enter 79 args) w := enters_of Tryz.func79 (by kernel_rfl) rfl
  have e56 : ∀ args w, (callFunc 78 args).run Tryz.prog w = .ok (.enter 78 args) w := enters_of Tryz.func78 (by kernel_rfl) rfl
  obtain ⟨⟨c0, c1⟩, _⟩ := cells2 hf.2.1
  have q0 := cell_regrown c0
  have q1 := cell_regrown c1
  have hll := hf.2.2.2
  have hkl := kept_le hll ch
  have hlo := fun (d : Nat) (os : Array Obj) => floose_b (hf.below (below_regrown w d os)) hl
  have hmo := fun (W : World) => mod_b ch (fl.bytes.length - fl.lasts + 1) (by omega) (by omega) W
  have hcap := hf.2.2.1.ls.2.1
  have hcl := fun (W : World) (hW : SlOf encB 1 W q c (fl.bytes.take (keptN fl ch))) => cloneB q c (fl.bytes.take (keptN fl ch)) W hW (by simp; omega)
  have htl : (fl.bytes.take (keptN fl ch)).length = keptN fl ch := by simp; omega
  simp only [htl] at hcl
  have hke : (fl.lasts : Int) + ((modZ ch (fl.bytes.length - fl.lasts + 1) : Nat) : Int) = ((keptN fl ch : Nat) : Int) := by unfold keptN; omega
  have hwk : IntKind.i64.wrap ((keptN fl ch : Nat) : Int) = ((keptN fl ch : Nat) : Int) := wrap_nat _ (by omega)
  obtain ⟨L, hL⟩ : ∃ L, fl.bytes.length - fl.lasts = L := ⟨_, rfl⟩
  rw [hL] at hmo hke
  simp only [hL] at hlo
  obtain ⟨L1, hLL⟩ : ∃ L1, L + 1 = L1 := ⟨_, rfl⟩
  rw [hLL] at hmo hke
  have hL1 : (L : Int) + 1 = (L1 : Int) := by omega
  have hwL : IntKind.i64.wrap (L1 : Int) = (L1 : Int) := wrap_nat _ (by omega)
  have hwL2 : (L1 : Int) ≤ 200000000000000 := by omega
  have hk0 : (0 : Int) ≤ ((keptN fl ch : Nat) : Int) := by omega
  have hkc : ((keptN fl ch : Nat) : Int) ≤ (c : Int) := by omega
  have hkc2 : keptN fl ch ≤ c := by omega
  have HF := hide hf
  have HT := hide htl
  obtain ⟨K, hK⟩ : ∃ K, keptN fl ch = K := ⟨_, rfl⟩
  rw [hK] at hke hwk hk0 hkc hkc2
  simp only [hK] at hcl
  have HK := hide hK
  generalize modZ ch L1 = M at hmo hke
  clear hf hL hLL hll hkl hcap htl hK
  go_enter Tryz.func41, Tryz.ntmps41
  go_wp2
  refine wp_region_quiet_below (by assumption) (by kernel_rfl) ?_
  repeat (go_big_quiet_step (first | (go_at_fn 79; refine Calls.regrown_of (hlo _ _)) | (go_at_fn 78; refine Calls.regrown_of (hmo _))))
  refine wpQuiet_nil ?_
  intro _ hw'
  obtain ⟨⟨dq, osq⟩, hw''⟩ := hw'
  subst hw''
  have r0 := q0 dq osq
  have r1 := q1 dq osq
  go_wp2_with (go_at_call 80; refine (hcl _ (sl_take ((unhide HF).below (below_regrown w dq osq)).2.2.1.ls _)).mono ?_; rintro e w2 ⟨⟨q2, c2, rfl, o2⟩, b2⟩; have O2 := hide (o2.mono (below_regrown w dq osq).size); have B2 := hide (below_sub (below_regrown w dq osq) b2); clear o2 b2)
  go_ret
  have b3 := (unhide B2).alloc (unhide B2).size (.cells #[.slice q2 K c2, .int .i64 (K : Int)] 118)
  refine ⟨⟨w2.heap.size, q2, c2, rfl, ⟨Nat.not_lt.2 (unhide B2).size, fun p hp => Nat.not_lt.2 (own_from (unhide O2) hp)⟩, ?_, ?_, ?_⟩, b3⟩
  · have := heap_alloc_new w2 (.cells #[.slice q2 K c2, .int .i64 (K : Int)] 118)
    have h9 := unhide HT
    rw [unhide HK] at h9
    simp only [foundF, unhide HK, h9]
    exact this
  · simp only [foundF, unhide HK]
    exact ((unhide O2).mono (Nat.zero_le _)).below ((Below.refl _ _).alloc (Nat.le_refl _) _)
  · simp only [foundF, unhide HT]; exact Nat.le_refl _
end Go.Proofs.YtfigjfmldpfjkaaGreat

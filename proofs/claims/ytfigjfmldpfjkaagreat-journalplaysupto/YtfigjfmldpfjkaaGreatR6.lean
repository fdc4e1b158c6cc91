/- The reference's disk: act, Sync, Remove, Rename. -/
import Derived.Test.YtfigjfmldpfjkaaGreatZac
import Derived.Test.YtfigjfmldpfjkaaGreatCrash
namespace Go.Proofs.YtfigjfmldpfjkaaGreat
open Go.RowKit Go.Sort Go.Shelf

theorem ref0 {r : Rk} {a b : ByteArray} {t : Bool} (h : refE r a b t = 0) : r.off = false ∧ nameOk a = true ∧ nameOk b = true ∧ (t = true → hasN r.fs a = true) := by
  unfold refE at h
  cases ho : r.off <;> cases h1 : nameOk a <;> cases h2 : nameOk b <;> cases t <;> cases h3 : hasN r.fs a <;> simp_all
theorem grown_mid {a b c d : World} {g : Nat} (h1 : a.grownBy b (some g)) (h2 : Below b.heap.size b c) (h3 : c.grownBy d (some g)) : a.grownBy d (some g) :=
  ⟨h3.os.trans (h2.os.trans h1.os), h3.tape.trans (h2.tape.trans h1.tape), h3.output.trans (h2.output.trans h1.output), Nat.le_trans h1.size (Nat.le_trans h2.size h3.size), fun i hi hne =>
    (h3.block i (Nat.lt_of_lt_of_le (Nat.lt_of_lt_of_le hi h1.size) h2.size) hne).trans ((h2.block i (Nat.lt_of_lt_of_le hi h1.size)).trans (h1.block i hi hne))⟩
/-- What an act on the reference's disk ends in. -/
def REnd (P : Nat → Prop) (w : World) (g : Nat) (r' : Rk) (w' : World) : Prop := RAt (fun i => P i ∨ w.heap.size ≤ i) w' g r' ∧ w.grownBy w' (some g)
theorem REnd.mk {P P1 : Nat → Prop} {w w' : World} {g c c' : Nat} {r r' : Rk} {q q' : Option Addr} (h : RIn P w g r q c) (h2 : RIn P1 w' g r' q' c') (hp : ∀ i, P1 i → P i ∨ w.heap.size ≤ i) (hg : w.grownBy w' (some g)) : REnd P w g r' w' :=
  ⟨⟨q', c', h2.mono (fun i hi _ => hp i hi) (fun hh => by rcases hh with hh | hh; exact h.pg hh; have := h.glt; omega)⟩, hg⟩
theorem REnd.same {P : Nat → Prop} {w w' : World} {g c : Nat} {r r' : Rk} {q : Option Addr} (h : RIn P w g r q c) (h2 : RIn P w' g r' q c) (hg : w.grownBy w' (some g)) : REnd P w g r' w' := REnd.mk h h2 (fun _ hi => Or.inl hi) hg
theorem REnd.refl {P : Nat → Prop} {w : World} {g c : Nat} {r : Rk} {q : Option Addr} (h : RIn P w g r q c) : REnd P w g r w := REnd.same h h (grown_refl _ _)
theorem act_no {P : Nat → Prop} {w : World} {g c : Nat} {r : Rk} {q : Option Addr} (h : RIn P w g r q c) (nm other : ByteArray) (hl : r.fs.length ≤ 1000000) (he : refE r nm other true ≠ 0) :
    Calls Tryz.prog 85 #[.pointer (some ⟨g, 0, none⟩), .string nm, .string other] w fun e w' => e = .returned (.int .i64 (refE r nm other true)) ∧ w' = w := by
  have hr := refuse_any h nm other true (by omega)
  obtain ⟨E, hE⟩ : ∃ E, refE r nm other true = E := ⟨_, rfl⟩
  rw [hE] at hr he ⊢
  have e0 : (E == 0) = false := by simpa using he
  clear h hE he
  go_enter Tryz.func85, Tryz.ntmps85
  go_wp2_with (go_at_call 59; refine hr.mono ?_; rintro e w1 ⟨rfl, hw1⟩; obtain rfl := hw1.symm)
  go_ret
  exact ⟨rfl, rfl⟩
theorem act_down {P : Nat → Prop} {w : World} {g c : Nat} {r : Rk} {q : Option Addr} (h : RIn P w g r q c) (nm other : ByteArray) (hl : r.fs.length ≤ 1000000) (he : refE r nm other true = 0) (h1 : r.named = 1) :
    Calls Tryz.prog 85 #[.pointer (some ⟨g, 0, none⟩), .string nm, .string other] w fun e w' => e = .returned (.int .i64 40) ∧ RIn P w' g { r with named := 0, off := true } q c ∧ w.grownBy w' (some g) := by
  have hr := refuse_any h nm other true (by omega)
  rw [he] at hr
  have hn := named_1 h h1
  clear h he
  go_enter Tryz.func85, Tryz.ntmps85
  go_wp2_with (first
    | (go_at_call 59; refine hr.mono ?_; rintro e w1 ⟨rfl, hw1⟩; obtain rfl := hw1.symm)
    | (go_at_call 60; refine hn.mono ?_; rintro e w2 ⟨rfl, i2, g2⟩))
  go_ret
  exact ⟨rfl, i2, g2⟩
def spent (r : Rk) : Rk := { r with named := r.named - 1, acts := r.acts + 1 }
theorem named_on {P : Nat → Prop} {w : World} {g c : Nat} {r : Rk} {q : Option Addr} (h : RIn P w g r q c) (ho : r.off = false) (h1 : r.named ≠ 1) : Calls Tryz.prog 60 #[.pointer (some ⟨g, 0, none⟩)] w fun e w' => e = .returned (.bool false) ∧ RIn P w' g { r with named := r.named - 1 } q c ∧ w.grownBy w' (some g) := by
  by_cases h0 : r.named = 0
  · refine (named_0 h h0).mono ?_
    rintro e w' ⟨rfl, rfl⟩
    exact ⟨rfl, h.turn (grown_refl _ _) rfl (by show r.named - 1 ≤ _; omega) (by simp only; rw [show r.named - 1 = r.named by omega]; exact h.box), grown_refl _ _⟩
  · exact named_n h (by omega) ho
set_option maxRecDepth 100000 in
theorem act_yes {P : Nat → Prop} {w : World} {g c : Nat} {r : Rk} {q : Option Addr} (h : RIn P w g r q c) (nm other : ByteArray) (hl : r.fs.length ≤ 1000000) (he : refE r nm other true = 0) (h1 : r.named ≠ 1) (ha : r.acts ≤ 4611686018427387904) :
    Calls Tryz.prog 85 #[.pointer (some ⟨g, 0, none⟩), .string nm, .string other] w fun e w' => e = .returned (.int .i64 0) ∧ RIn P w' g (spent r) q c ∧ w.grownBy w' (some g) := by
  have hr := refuse_any h nm other true (by omega)
  rw [he] at hr
  have hn := named_on h (ref0 he).1 h1
  obtain ⟨A1, hA1⟩ : ∃ A1, r.acts + 1 = A1 := ⟨_, rfl⟩
  obtain ⟨A, hA⟩ : ∃ A, r.acts = A := ⟨_, rfl⟩
  have e1 : (A : Int) + 1 = (A1 : Int) := by omega
  have e2 : IntKind.i64.wrap (A1 : Int) = (A1 : Int) := wrap_int _ (by omega) (by omega)
  obtain ⟨r2, hr2⟩ : ∃ r2, spent r = r2 := ⟨_, rfl⟩
  have hfin : ∀ w2, RIn P w2 g { r with named := r.named - 1 } q c → RIn P (w2.setCell ⟨g, 1, none⟩ (.int .i64 (A1 : Int))) g r2 q c := fun w2 i2 => by
    rw [← hr2]
    refine i2.turn (grown_set _ _ _ _) rfl (by have := i2.small; exact this) ?_
    have h5 := heap_setCell_same w2 g 1 _ 30 (.int .i64 (A1 : Int)) i2.box
    rw [← hA1] at h5 ⊢
    exact h5
  rw [hr2]
  have HFIN := hide hfin
  clear h he hr2 hfin hA1
  go_enter Tryz.func85, Tryz.ntmps85
  go_wp2_with (first
    | (go_at_call 59; refine hr.mono ?_; rintro e w1 ⟨rfl, hw1⟩; obtain rfl := hw1.symm)
    | (go_at_call 60; refine hn.mono ?_; rintro e w2 ⟨rfl, i2, g2⟩; have I2 := hide i2; have G2 := hide g2; obtain ⟨⟨c0, c1, c2, c3, c4⟩, z0, z1, z2, z3⟩ := cells5 i2.box; simp only at c1; rw [hA] at c1; clear i2 g2 hA))
  go_ret
  exact ⟨rfl, unhide HFIN w2 (unhide I2), grown_trans (unhide G2) (grown_set _ _ _ _)⟩
/-- A new box of three cells. -/
theorem box3 (W : World) (a b c : Value) : ∃ Y, W.alloc (.cells #[a, b, c] 105) = Y ∧ Below W.heap.size W Y ∧ Y.heap[W.heap.size]? = some (.cells #[a, b, c] 105 (0, 0)) := ⟨_, rfl, (Below.refl _ _).alloc (Nat.le_refl _) _, heap_alloc_new _ _⟩
theorem spent_fs (r : Rk) : (spent r).fs = r.fs := rfl
def lastR (x : Rf) : Rf := { x with la := x.bs.length }
theorem rsync_no {P : Nat → Prop} {w : World} {g c : Nat} {r : Rk} {q : Option Addr} (h : RIn P w g r q c) (nm : ByteArray) (hl : r.fs.length ≤ 1000000) (he : refE r nm nm true ≠ 0) :
    Calls Tryz.prog 66 #[.pointer (some ⟨g, 0, none⟩), .string nm] w fun e w' => e = .returned (.int .i64 (refE r nm nm true)) ∧ w' = w := by
  have hact := act_no h nm nm hl he
  obtain ⟨E, hE⟩ : ∃ E, refE r nm nm true = E := ⟨_, rfl⟩
  rw [hE] at hact he ⊢
  have e0 : (E == 0) = false := by simpa using he
  clear h hE he
  go_enter Tryz.func66, Tryz.ntmps66
  go_wp2_with (go_at_call 85; refine hact.mono ?_; rintro e w1 ⟨rfl, hw1⟩; obtain rfl := hw1.symm)
  go_ret
  exact ⟨rfl, rfl⟩
theorem rsync_down {P : Nat → Prop} {w : World} {g c : Nat} {r : Rk} {q : Option Addr} (h : RIn P w g r q c) (nm : ByteArray) (hl : r.fs.length ≤ 1000000) (he : refE r nm nm true = 0) (h1 : r.named = 1) :
    Calls Tryz.prog 66 #[.pointer (some ⟨g, 0, none⟩), .string nm] w fun e w' => e = .returned (.int .i64 40) ∧ REnd P w g { r with named := 0, off := true } w' := by
  have hact := act_down h nm nm hl he h1
  have HH := hide h
  clear h he
  go_enter Tryz.func66, Tryz.ntmps66
  go_wp2_with (go_at_call 85; refine hact.mono ?_; rintro e w1 ⟨rfl, i1, g1⟩)
  go_ret
  exact ⟨rfl, REnd.same (unhide HH) i1 g1⟩
theorem rremove_no {P : Nat → Prop} {w : World} {g c : Nat} {r : Rk} {q : Option Addr} (h : RIn P w g r q c) (nm : ByteArray) (hl : r.fs.length ≤ 1000000) (he : refE r nm nm true ≠ 0) :
    Calls Tryz.prog 48 #[.pointer (some ⟨g, 0, none⟩), .string nm] w fun e w' => e = .returned (.int .i64 (refE r nm nm true)) ∧ w' = w := by
  have hact := act_no h nm nm hl he
  obtain ⟨E, hE⟩ : ∃ E, refE r nm nm true = E := ⟨_, rfl⟩
  rw [hE] at hact he ⊢
  have e0 : (E == 0) = false := by simpa using he
  clear h hE he
  go_enter Tryz.func48, Tryz.ntmps48
  go_wp2_with (go_at_call 85; refine hact.mono ?_; rintro e w1 ⟨rfl, hw1⟩; obtain rfl := hw1.symm)
  go_ret
  exact ⟨rfl, rfl⟩
theorem rremove_down {P : Nat → Prop} {w : World} {g c : Nat} {r : Rk} {q : Option Addr} (h : RIn P w g r q c) (nm : ByteArray) (hl : r.fs.length ≤ 1000000) (he : refE r nm nm true = 0) (h1 : r.named = 1) :
    Calls Tryz.prog 48 #[.pointer (some ⟨g, 0, none⟩), .string nm] w fun e w' => e = .returned (.int .i64 40) ∧ REnd P w g { r with named := 0, off := true } w' := by
  have hact := act_down h nm nm hl he h1
  have HH := hide h
  clear h he
  go_enter Tryz.func48, Tryz.ntmps48
  go_wp2_with (go_at_call 85; refine hact.mono ?_; rintro e w1 ⟨rfl, i1, g1⟩)
  go_ret
  exact ⟨rfl, REnd.same (unhide HH) i1 g1⟩
theorem rremove_yes {P : Nat → Prop} {w : World} {g c : Nat} {r : Rk} {q : Option Addr} (h : RIn P w g r q c) (nm : ByteArray) (hl : r.fs.length ≤ 1000000) (he : refE r nm nm true = 0) (h1 : r.named ≠ 1) (ha : r.acts ≤ 4611686018427387904) :
    Calls Tryz.prog 48 #[.pointer (some ⟨g, 0, none⟩), .string nm] w fun e w' => e = .returned (.int .i64 0) ∧ REnd P w g { spent r with fs := dropR r.fs nm } w' := by
  have hact := act_yes h nm nm hl he h1 ha
  have HH := hide h
  clear h he
  go_enter Tryz.func48, Tryz.ntmps48
  go_wp2_with (first
    | (go_at_call 85; refine hact.mono ?_; rintro e w1 ⟨rfl, i1, g1⟩; have I1 := hide i1; have G1 := hide g1; clear i1 g1)
    | (go_at_call 86; refine (rdrop_any (unhide I1) nm hl).mono ?_; rintro e w3 ⟨⟨v, rfl⟩, ⟨q3, c3', i3⟩, g3⟩; have I3 := hide i3; have G3 := hide g3; clear i3 g3))
  go_ret
  refine ⟨rfl, REnd.mk (unhide HH) (unhide I3) (fun j hj => ?_) (grown_trans (unhide G1) (unhide G3))⟩
  rcases hj with hj | hj
  · exact Or.inl hj
  · exact Or.inr (Nat.le_trans (unhide G1).size hj)
theorem rrename_no {P : Nat → Prop} {w : World} {g c : Nat} {r : Rk} {q : Option Addr} (h : RIn P w g r q c) (nm to : ByteArray) (hl : r.fs.length ≤ 1000000) (he : refE r nm to true ≠ 0) :
    Calls Tryz.prog 91 #[.pointer (some ⟨g, 0, none⟩), .string nm, .string to] w fun e w' => e = .returned (.int .i64 (refE r nm to true)) ∧ w' = w := by
  have hact := act_no h nm to hl he
  obtain ⟨E, hE⟩ : ∃ E, refE r nm to true = E := ⟨_, rfl⟩
  rw [hE] at hact he ⊢
  have e0 : (E == 0) = false := by simpa using he
  clear h hE he
  go_enter Tryz.func91, Tryz.ntmps91
  go_wp2_with (go_at_call 85; refine hact.mono ?_; rintro e w1 ⟨rfl, hw1⟩; obtain rfl := hw1.symm)
  go_ret
  exact ⟨rfl, rfl⟩
theorem rrename_down {P : Nat → Prop} {w : World} {g c : Nat} {r : Rk} {q : Option Addr} (h : RIn P w g r q c) (nm to : ByteArray) (hl : r.fs.length ≤ 1000000) (he : refE r nm to true = 0) (h1 : r.named = 1) :
    Calls Tryz.prog 91 #[.pointer (some ⟨g, 0, none⟩), .string nm, .string to] w fun e w' => e = .returned (.int .i64 40) ∧ REnd P w g { r with named := 0, off := true } w' := by
  have hact := act_down h nm to hl he h1
  have HH := hide h
  clear h he
  go_enter Tryz.func91, Tryz.ntmps91
  go_wp2_with (go_at_call 85; refine hact.mono ?_; rintro e w1 ⟨rfl, i1, g1⟩)
  go_ret
  exact ⟨rfl, REnd.same (unhide HH) i1 g1⟩
end Go.Proofs.YtfigjfmldpfjkaaGreat

/- The reference's disk: Rename, Read, Loose, Names. -/
import Derived.Test.YtfigjfmldpfjkaaGreatR6
namespace Go.Proofs.YtfigjfmldpfjkaaGreat
open Go.RowKit Go.Sort Go.Shelf

theorem srcS1 {w : World} {b : Nat} {x : ByteArray} (h : w.heap[b]? = some (.cells #[.string x] 9 (0, 0))) : SrcK encS 1 w (some ⟨b, 0, none⟩) 1 [x] := by
  refine LsOf.src (fun e => by cases e) (LsOf.one (Array.getElem?_eq_some_iff.1 h).1 fun c hc => ?_)
  obtain rfl : c = 0 := by omega
  unfold World.cell?
  rw [h]
  rfl
theorem RIn.cut {P : Nat → Prop} {w : World} {g c : Nat} {r : Rk} {q : Option Addr} (h : RIn P w g r q c) : RIn (fun i => P i ∧ i < w.heap.size) w g r q c := h.mono (fun _ hi hl => ⟨hi, hl⟩) (fun hh => h.pg hh.1)
set_option maxHeartbeats 2000000 in
set_option maxRecDepth 100000 in
theorem rrename_yes {P : Nat → Prop} {w : World} {g c : Nat} {r : Rk} {q : Option Addr} (h : RIn P w g r q c) (nm to : ByteArray) (hl : r.fs.length ≤ 1000000) (hs : ∀ x ∈ r.fs, x.nm.size ≤ 32) (he : refE r nm to true = 0) (h1 : r.named ≠ 1) (ha : r.acts ≤ 4611686018427387904) {i : Nat} {x : Rf} (hx : r.fs[i]? = some x) (hn : x.nm = nm) (hb : ∀ j y, j < i → r.fs[j]? = some y → y.nm ≠ nm) :
    Calls Tryz.prog 91 #[.pointer (some ⟨g, 0, none⟩), .string nm, .string to] w fun e w' => e = .returned (.int .i64 0) ∧ REnd P w g { spent r with fs := putR (dropR r.fs nm) { x with nm := to } } w' := by
  subst hn
  have hact := act_yes h x.nm to hl he h1 ha
  have hil : i < r.fs.length := (List.getElem?_eq_some_iff.1 hx).1
  have i0 : (0 : Int) ≤ (i : Int) := by omega
  have i1 : (i : Int) < (r.fs.length : Int) := by omega
  have hdl : (dropR r.fs x.nm).length ≤ 1000000 := Nat.le_trans (drop_len _ _) hl
  have hds : ∀ y ∈ dropR r.fs x.nm, y.nm.size ≤ 32 := fun y hy => hs y (mem_drop.1 hy).1
  have hmem := List.mem_of_getElem? hx
  have HX := hide hx
  have HBB := hide hb
  have HH := hide h
  clear h hx hb he
  go_enter Tryz.func91, Tryz.ntmps91
  go_wp2_with (first
    | (go_at_call 85; refine hact.mono ?_; rintro e w1 ⟨rfl, i1', g1⟩; have I1 := hide i1'; have G1 := hide g1; obtain ⟨⟨c0, c1, c2, c3, c4⟩, _⟩ := cells5 i1'.box; obtain ⟨b, off, hq, hbl, d0, d1, d2⟩ := fileAt i1'.row.1 (unhide HX); subst hq; obtain ⟨Y, hY, bY, kY⟩ := box3 w1 (.string x.nm) (.slice x.p x.bs.length x.c) (.int .i64 (x.la : Int)); have hyl := (Array.getElem?_eq_some_iff.1 kY).1; have BY := hide bY; have KY := hide kY; have IY := hide (i1'.cut.below bY); have hgl := i1'.glt; clear i1' g1 bY kY)
    | (go_at_call 61; refine (at_yes (unhide I1) x.nm (unhide HX) rfl (unhide HBB) (by rw [spent_fs]; omega)).mono ?_; rintro e w2 ⟨rfl, hw2⟩; obtain rfl := hw2.symm)
    | (go_at_call 86; refine (rdrop_any (unhide IY) x.nm hl).mono ?_; rintro e w3 ⟨⟨v, rfl⟩, ⟨q3, c3', i3⟩, g3⟩; have hbk := (g3.block w1.heap.size hyl (by intro e; injection e with e; omega)).trans (unhide KY); obtain ⟨y0, y1, y2⟩ := cellsF3 hbk; have fY := froz4 hbk 0; have kZ := heap_setCell_same w3 w1.heap.size 0 _ 105 (.string to) hbk; obtain ⟨z0, z1, z2⟩ := cellsF3 kZ; have gZ := grown_set w3 w1.heap.size 0 (.string to); have iZ := i3.kept gZ.size (fun j hj hjl => gZ.block j hjl (by intro e; injection e with e; exact absurd hj (by intro hj; rcases hj with (hj | hj) | hj <;> omega))); have fZ := (((unhide IY).file x hmem).kept g3.size (fun j hj hjl => g3.block j hjl (by intro e; injection e with e; have := (unhide IY).pg; exact this (e ▸ hj)))).kept gZ.size (fun j hj hjl => gZ.block j hjl (by intro e; injection e with e; have := hj.2; omega)); have IZ := hide iZ; have FZ := hide (fZ.mono (P' := fun i => (P i ∧ i < w1.heap.size) ∨ Y.heap.size ≤ i) fun i hi _ => Or.inl hi); have G3 := hide g3; have GZ := hide gZ; clear i3 g3 hbk kZ gZ iZ fZ)
    | (go_at_call 62; refine (rput_any (unhide IZ) { x with nm := to } (unhide FZ) hdl hds).mono ?_; rintro e w4 ⟨⟨v, rfl⟩, ⟨q4, c4', i4⟩, g4⟩; have I4 := hide i4; have G4 := hide g4; clear i4 g4))
  go_ret
  have s1 := (unhide G1).size
  have s2 := (unhide BY).size
  have s3 := (unhide G3).size
  have s4 := (unhide GZ).size
  have bz : Below w1.heap.size w3 (w3.setCell ⟨w1.heap.size, 0, none⟩ (.string to)) := grown_blw (unhide GZ) (Nat.le_refl _) (by omega)
  refine ⟨rfl, REnd.mk (unhide HH) (unhide I4) (fun j hj => ?_) ?_⟩
  · rcases hj with (hj | hj) | hj
    · exact Or.inl hj.1
    · exact Or.inr (by omega)
    · exact Or.inr (by omega)
  · have ga := grown_mid (unhide G1) (unhide BY) (unhide G3)
    refine ⟨(unhide G4).os.trans (bz.os.trans ga.os), (unhide G4).tape.trans (bz.tape.trans ga.tape), (unhide G4).output.trans (bz.output.trans ga.output), by have := (unhide G4).size; omega, fun j hj hne => ?_⟩
    exact ((unhide G4).block j (by omega) hne).trans ((bz.block j (by omega)).trans (ga.block j hj hne))
theorem rread_no {P : Nat → Prop} {w : World} {g c : Nat} {r : Rk} {q : Option Addr} (h : RIn P w g r q c) (nm : ByteArray) (hl : r.fs.length ≤ 1000000) (he : refE r nm nm true ≠ 0) :
    Calls Tryz.prog 49 #[.pointer (some ⟨g, 0, none⟩), .string nm] w fun e w' => e = .returned (.tuple #[.slice none 0 0, .int .i64 (refE r nm nm true)]) ∧ w' = w := by
  have hr := refuse_any h nm nm true (by omega)
  obtain ⟨E, hE⟩ : ∃ E, refE r nm nm true = E := ⟨_, rfl⟩
  rw [hE] at hr he ⊢
  have e0 : (E == 0) = false := by simpa using he
  clear h hE he
  go_enter Tryz.func49, Tryz.ntmps49
  go_wp2_with (go_at_call 59; refine hr.mono ?_; rintro e w1 ⟨rfl, hw1⟩; obtain rfl := hw1.symm)
  refine bodyPost_ret (v := .tuple #[.slice none 0 0, .int .i64 E]) (by simp [results, Tryz.f49, go_sem]) rfl ?_
  exact ⟨rfl, rfl⟩
theorem rread_yes {P : Nat → Prop} {w : World} {g c : Nat} {r : Rk} {q : Option Addr} (h : RIn P w g r q c) (nm : ByteArray) (hl : r.fs.length ≤ 1000000) (he : refE r nm nm true = 0) {i : Nat} {x : Rf} (hx : r.fs[i]? = some x) (hn : x.nm = nm) (hb : ∀ j y, j < i → r.fs[j]? = some y → y.nm ≠ nm) :
    Calls Tryz.prog 49 #[.pointer (some ⟨g, 0, none⟩), .string nm] w fun e w' => e = .returned (.tuple #[.slice x.p x.bs.length x.c, .int .i64 0]) ∧ w' = w := by
  have hr := refuse_any h nm nm true (by omega)
  rw [he] at hr
  have hat := at_yes h nm hx hn hb (by omega)
  have hil : i < r.fs.length := (List.getElem?_eq_some_iff.1 hx).1
  have i0 : (0 : Int) ≤ (i : Int) := by omega
  have i1 : (i : Int) < (r.fs.length : Int) := by omega
  obtain ⟨⟨c0, c1, c2, c3, c4⟩, _⟩ := cells5 h.box
  obtain ⟨b, off, hq, hbl, d0, d1, d2⟩ := fileAt h.row.1 hx
  subst hq
  clear h hx hb he
  go_enter Tryz.func49, Tryz.ntmps49
  go_wp2_with (first
    | (go_at_call 59; refine hr.mono ?_; rintro e w1 ⟨rfl, hw1⟩; obtain rfl := hw1.symm)
    | (go_at_call 61; refine hat.mono ?_; rintro e w2 ⟨rfl, hw2⟩; obtain rfl := hw2.symm))
  refine bodyPost_ret (v := .tuple #[.slice x.p x.bs.length x.c, .int .i64 0]) (by simp [results, Tryz.f49, go_sem]) rfl ?_
  exact ⟨rfl, rfl⟩
theorem rloose_no {P : Nat → Prop} {w : World} {g c : Nat} {r : Rk} {q : Option Addr} (h : RIn P w g r q c) (nm : ByteArray) (hl : r.fs.length ≤ 1000000) (he : refE r nm nm true ≠ 0) :
    Calls Tryz.prog 51 #[.pointer (some ⟨g, 0, none⟩), .string nm] w fun e w' => e = .returned (.int .i64 0) ∧ w' = w := by
  have hr := refuse_any h nm nm true (by omega)
  obtain ⟨E, hE⟩ : ∃ E, refE r nm nm true = E := ⟨_, rfl⟩
  rw [hE] at hr he
  have e0 : (E == 0) = false := by simpa using he
  clear h hE he
  go_enter Tryz.func51, Tryz.ntmps51
  go_wp2_with (go_at_call 59; refine hr.mono ?_; rintro e w1 ⟨rfl, hw1⟩; obtain rfl := hw1.symm)
  go_ret
  exact ⟨rfl, rfl⟩
set_option maxHeartbeats 1000000 in
theorem rloose_yes {P : Nat → Prop} {w : World} {g c : Nat} {r : Rk} {q : Option Addr} (h : RIn P w g r q c) (nm : ByteArray) (hl : r.fs.length ≤ 1000000) (he : refE r nm nm true = 0) {i : Nat} {x : Rf} (hx : r.fs[i]? = some x) (hn : x.nm = nm) (hb : ∀ j y, j < i → r.fs[j]? = some y → y.nm ≠ nm) (hla : x.la ≤ x.bs.length) (hbl : x.bs.length ≤ 140737488355328) :
    Calls Tryz.prog 51 #[.pointer (some ⟨g, 0, none⟩), .string nm] w fun e w' => e = .returned (.int .i64 ((x.bs.length - x.la : Nat) : Int)) ∧ Below w.heap.size w w' := by
  have mixed : Tryz.prog.follows .mixedOrders = true := by kernel_rfl
  have hr := refuse_any h nm nm true (by omega)
  rw [he] at hr
  have hat := at_yes h nm hx hn hb (by omega)
  have hil : i < r.fs.length := (List.getElem?_eq_some_iff.1 hx).1
  have i0 : (0 : Int) ≤ (i : Int) := by omega
  have i1 : (i : Int) < (r.fs.length : Int) := by omega
  obtain ⟨⟨c0, c1, c2, c3, c4⟩, _⟩ := cells5 h.box
  obtain ⟨b, off, hq, hbl', d0, d1, d2⟩ := fileAt h.row.1 hx
  subst hq
  have g0 := cell_regrown c0
  have g1 := cell_regrown d1
  have g2 := cell_regrown d2
  have e1 : (x.bs.length : Int) - (x.la : Int) = ((x.bs.length - x.la : Nat) : Int) := by omega
  have e2 : IntKind.i64.wrap ((x.bs.length - x.la : Nat) : Int) = ((x.bs.length - x.la : Nat) : Int) := wrap_nat _ (by omega)
  clear h hx hb he
  go_enter Tryz.func51, Tryz.ntmps51
  go_wp2_with (first
    | (go_at_call 59; refine hr.mono ?_; rintro e w1 ⟨rfl, hw1⟩; obtain rfl := hw1.symm)
    | (go_at_call 61; refine hat.mono ?_; rintro e w2 ⟨rfl, hw2⟩; obtain rfl := hw2.symm))
  refine wp_region_quiet_below (by assumption) (by kernel_rfl) ?_
  repeat (go_big_quiet_step (fail))
  refine wpQuiet_nil ?_
  intro wQ hw'
  obtain ⟨⟨dq, osq⟩, hw''⟩ := hw'
  have bQ := below_regrown w dq osq
  rw [← hw''] at bQ
  clear hw''
  go_wp2
  go_ret
  exact ⟨rfl, bQ⟩
end Go.Proofs.YtfigjfmldpfjkaaGreat

/- The reference's disk: Append. -/
import Derived.Test.YtfigjfmldpfjkaaGreatR7
import Derived.Deep.RegionLaw
namespace Go.Proofs.YtfigjfmldpfjkaaGreat
open Go.RowKit Go.Sort Go.Shelf

theorem own_heap {α : Type} [Inhabited α] {enc : α → List Value} {e : TypeId} {k B : Nat} {w w' : World} {q : Option Addr} {c : Nat} {l : List α} (h : w'.heap = w.heap) (ho : OwnK enc e k B w q c l) : OwnK enc e k B w' q c l := by
  unfold OwnK World.ownsRow at *
  rw [h]
  exact ho
theorem src_heap {α : Type} [Inhabited α] {enc : α → List Value} {k : Nat} {w w' : World} {q : Option Addr} {c : Nat} {l : List α} (h : w'.heap = w.heap) (ho : SrcK enc k w q c l) : SrcK enc k w' q c l := by
  refine ⟨ho.1, fun ad e j u hj => ?_⟩
  have := ho.2 ad e j u hj
  unfold World.cell? at *
  rw [h]
  exact this
theorem below_drew2 {B : Nat} {w w1 : World} (h : Below B w w1) : Below B w w1.drew.drew := h.drew.drew
theorem rappend_no {P : Nat → Prop} {w : World} {g c : Nat} {r : Rk} {q : Option Addr} (h : RIn P w g r q c) (nm : ByteArray) (p : Option Addr) (k n : Nat) (hl : r.fs.length ≤ 1000000) (he : refE r nm nm false ≠ 0) :
    Calls Tryz.prog 30 #[.pointer (some ⟨g, 0, none⟩), .string nm, .slice p n k] w fun e w' => e = .returned (.int .i64 (refE r nm nm false)) ∧ w' = w := by
  have hr := refuse_any h nm nm false (by omega)
  obtain ⟨E, hE⟩ : ∃ E, refE r nm nm false = E := ⟨_, rfl⟩
  rw [hE] at hr he ⊢
  have e0 : (E == 0) = false := by simpa using he
  clear h hE he
  go_enter Tryz.func30, Tryz.ntmps30
  go_wp2_with (go_at_call 59; refine hr.mono ?_; rintro e w1 ⟨rfl, hw1⟩; obtain rfl := hw1.symm)
  go_ret
  exact ⟨rfl, rfl⟩
/-- The box and the bytes behind both appends, ready for put. -/
theorem app_ready {P : Nat → Prop} {w1 Y V : World} {g c : Nat} {r : Rk} {q : Option Addr} (h : RIn P w1 g r q c) (bY : Below w1.heap.size w1 Y) (hYs : Y.heap.size = w1.heap.size + 1) (bV : Below Y.heap.size Y V) (v : Value) {q5 : Option Addr} {c5 : Nat} {l : List UInt8} (ho : OwnK encB 5 1 Y.heap.size V q5 c5 l) :
    RIn (fun i => (P i ∧ i < w1.heap.size) ∨ Y.heap.size ≤ i) (V.setCell ⟨w1.heap.size, 1, none⟩ v) g r q c ∧ SlIn encB 1 (fun i => (P i ∧ i < w1.heap.size) ∨ Y.heap.size ≤ i) (V.setCell ⟨w1.heap.size, 1, none⟩ v) q5 c5 l := by
  have gZ := grown_set V w1.heap.size 1 v
  have hgl := h.glt
  have h2 := (h.cut.below bY).below bV
  refine ⟨(h2.kept gZ.size fun i hi hl => gZ.block i hl (by intro e; injection e with e; rcases hi with hi | hi <;> omega)).mono (fun i hi _ => Or.inl hi) (fun hh => by rcases hh with hh | hh; exact h.pg hh.1; omega), ?_⟩
  exact (ho.sl.kept gZ.size fun i hi hl => gZ.block i hl (by intro e; injection e with e; omega)).mono fun i hi _ => Or.inr hi
set_option maxHeartbeats 4000000 in
set_option maxRecDepth 100000 in
theorem rappend_yes {P : Nat → Prop} {w : World} {g c : Nat} {r : Rk} {q : Option Addr} (h : RIn P w g r q c) (nm : ByteArray) (p : Option Addr) (k : Nat) (data : List UInt8) (hd : SlOf encB 1 w p k data) (hpg : 0 < data.length → ∀ a, p = some a → a.block ≠ g) (hl : r.fs.length ≤ 1000000) (hs : ∀ x ∈ r.fs, x.nm.size ≤ 32) (he : refE r nm nm false = 0) (h1 : r.named ≠ 1) (ha : r.acts ≤ 4611686018427387904) (hdl : data.length ≤ 30000000000000) {i : Nat} {x : Rf} (hx : r.fs[i]? = some x) (hn : x.nm = nm) (hb : ∀ j y, j < i → r.fs[j]? = some y → y.nm ≠ nm) (hxl : x.bs.length ≤ 30000000000000) :
    Calls Tryz.prog 30 #[.pointer (some ⟨g, 0, none⟩), .string nm, .slice p data.length k] w fun e w' => e = .returned (.int .i64 0) ∧ ∃ q5 c5, REnd P w g { r with fs := putR r.fs { nm := x.nm, p := q5, c := c5, bs := x.bs ++ data, la := x.la }, named := r.named - 1, acts := r.acts + 1 } w' := by
  subst hn
  have mixed : Tryz.prog.follows .mixedOrders = true := by kernel_rfl
  have hr := refuse_any h x.nm x.nm false (by omega)
  rw [he] at hr
  have hnm := named_on h (ref0 he).1 h1
  obtain ⟨r1, hr1⟩ : ∃ r1, ({ r with named := r.named - 1 } : Rk) = r1 := ⟨_, rfl⟩
  rw [hr1] at hnm
  have hfs : r1.fs = r.fs := by rw [← hr1]
  have hac : r1.acts = r.acts := by rw [← hr1]
  have hpt : r1.part = r.part := by rw [← hr1]
  have hil : i < r.fs.length := (List.getElem?_eq_some_iff.1 hx).1
  have hmem := List.mem_of_getElem? hx
  have i0 : (0 : Int) ≤ (i : Int) := by omega
  have i1 : (i : Int) < (r1.fs.length : Int) := by rw [hfs]; omega
  have hat := fun (W : World) (hW : RIn P W g r1 q c) => at_yes hW x.nm (by rw [hfs]; exact hx) rfl (by rw [hfs]; exact hb) (by rw [hfs]; omega)
  have HX := hide (show r1.fs[i]? = some x by rw [hfs]; exact hx)
  have hsd : ∀ W, w.grownBy W (some g) → SlOf encB 1 W p k data := fun W gW => (SlIn.kept (P := fun i => i ≠ g) ⟨hd, fun h0 a ea => hpg h0 a ea⟩ gW.size (fun j hj hjl => gW.block j hjl (by intro e; injection e with e; exact hj e))).1
  have hdk := hd.2.1
  have hk0 : (0 : Int) ≤ (data.length : Int) := by omega
  have hkc : (data.length : Int) ≤ (k : Int) := by omega
  have hkc2 : data.length ≤ k := by omega
  obtain ⟨A1, hA1⟩ : ∃ A1, r.acts + 1 = A1 := ⟨_, rfl⟩
  obtain ⟨A, hA⟩ : ∃ A, r1.acts = A := ⟨_, rfl⟩
  have ea1 : (A : Int) + 1 = (A1 : Int) := by omega
  have ea2 : IntKind.i64.wrap (A1 : Int) = (A1 : Int) := wrap_int _ (by omega) (by omega)
  have HA1 := hide hA1
  clear hA1
  have hput := fun (P' : Nat → Prop) (W : World) (f : Rf) (hW : RIn P' W g r1 q c) (hf : SlIn encB 1 P' W f.p f.c f.bs) => rput_any hW f hf (by rw [hfs]; exact hl) (by rw [hfs]; exact hs)
  have HPUT := hide hput
  have HH := hide h
  have HSD := hide hsd
  have HR1 := hide hr1
  have HFS := hide hfs
  clear h he hd hpg hsd hr1 hfs hput hb hx
  go_enter Tryz.func30, Tryz.ntmps30
  go_upto_region 12 with (first
    | (go_at_call 59; refine hr.mono ?_; rintro e wa ⟨rfl, hwa⟩; obtain rfl := hwa.symm)
    | (go_at_call 60; refine hnm.mono ?_; rintro e w1 ⟨rfl, i1', g1⟩; have I1 := hide i1'; have G1 := hide g1; obtain ⟨⟨c0, c1, c2, c3, c4⟩, _⟩ := cells5 i1'.box; clear i1' g1)
    | (go_at_call 61; have hW := (unhide I1).below (w' := w1.alloc (.cells #[.string x.nm, .slice none 0 0, .int .i64 0] 105)) ((Below.refl _ _).alloc (Nat.le_refl _) _); refine (hat _ hW).mono ?_; rintro e w2 ⟨rfl, hw2⟩; obtain rfl := hw2.symm; obtain ⟨⟨u0, u1, u2, u3, u4⟩, _⟩ := cells5 hW.box; obtain ⟨b, off, hq, hbl, d0, d1, d2⟩ := fileAt hW.row.1 (unhide HX); subst hq; clear hW))
  obtain ⟨Y, hY⟩ : ∃ Y, w1.alloc (.cells #[.string x.nm, .slice x.p x.bs.length x.c, .int .i64 (x.la : Int)] 105) = Y := ⟨_, rfl⟩
  have bY : Below w1.heap.size w1 Y := by rw [← hY]; exact (Below.refl _ _).alloc (Nat.le_refl _) _
  have hYs : Y.heap.size = w1.heap.size + 1 := by rw [← hY]; simp
  have kY : Y.heap[w1.heap.size]? = some (.cells #[.string x.nm, .slice x.p x.bs.length x.c, .int .i64 (x.la : Int)] 105 (0, 0)) := by rw [← hY]; exact heap_alloc_new _ _
  have hks : ∀ V, Below Y.heap.size Y V → V.heap[w1.heap.size]? = some (.cells #[.string x.nm, .slice x.p x.bs.length x.c, .int .i64 (x.la : Int)] 105 (0, 0)) := fun V bV => (bV.block _ (by omega)).trans kY
  have hkc1 : ∀ V, Below Y.heap.size Y V → V.cell? ⟨w1.heap.size, 1, none⟩ = some (.slice x.p x.bs.length x.c) ∧ V.frozen? ⟨w1.heap.size, 1, none⟩ = false := fun V bV => ⟨(cellsF3 (hks V bV)).2.1, frozen_free (hks V bV)⟩
  rw [hY]
  have hsY := (unhide HSD w1 (unhide G1)).below bY
  have hsO := ((unhide I1).file x (by have := List.mem_of_getElem? (unhide HX); exact this)).1.below bY
  have bA : Below Y.heap.size Y (Y.alloc (.cells #[] 5)) := (Below.refl _ _).alloc (Nat.le_refl _) _
  have oA : OwnK encB 5 1 Y.heap.size (Y.alloc (.cells #[] 5)) (some ⟨Y.heap.size, 0, none⟩) 0 ([] : List UInt8) := OwnK.made _ _ (Nat.le_refl _)
  have sOB : SrcK encB 1 (Y.alloc (.cells #[] 5)) x.p x.c x.bs := (hsO.below bA).src
  have hready := fun (V : World) (bV : Below Y.heap.size Y V) (v : Value) (q5 : Option Addr) (c5 : Nat) (l : List UInt8) (ho : OwnK encB 5 1 Y.heap.size V q5 c5 l) => app_ready (unhide I1) bY hYs bV v ho
  have HK := hide hks
  have HKC := hide hkc1
  have HREADY := hide hready
  have HSY := hide hsY
  have BA := hide bA
  have BAd := hide bA.drew
  have OA := hide oA
  have OAd := hide (show OwnK encB 5 1 Y.heap.size (Y.alloc (.cells #[] 5)).drew (some ⟨Y.heap.size, 0, none⟩) 0 ([] : List UInt8) from oA)
  have SO := hide sOB
  have SOd := hide (show SrcK encB 1 (Y.alloc (.cells #[] 5)).drew x.p x.c x.bs from sOB)
  have BYY := hide (Below.refl Y.heap.size Y)
  obtain ⟨k0, k1⟩ := hkc1 Y (Below.refl _ _)
  obtain ⟨kA0, kA1⟩ := hkc1 _ bA
  have BYH := hide bY
  have HYS := hide hYs
  have HHY := hide hY
  clear hYs hY bY kY hks hkc1 hsY bA oA sOB hready hsO
  go_region_law (first
      | (refine step_app rowB (by rfl) (.tmp 51) (.tmp 54) (by rfl) Y.heap.size q4 c4' ([] ++ x.bs) p k data x.bs.length data.length (x.bs.length + data.length) (by simp) rfl rfl (by rfl) (by rfl) (own_heap (by rfl) (unhide O4)) (src_heap (by rfl) (unhide S4).src) (by unfold maxLen; omega) (by omega) (unhide B4).size ?_; intro q5 c5 w5 o5 b5 _ _; have O5 := hide o5; have B5 := hide (Below.trans (by first | exact unhide B4 | exact (unhide B4).drew | exact (unhide B4).drew.drew | exact (unhide B4).drew.drew.drew | exact (unhide B4).drew.drew.drew.drew) b5); obtain ⟨k50, k51⟩ := unhide HKC w5 (unhide B5); clear o5 b5)
      | (refine step_app rowB (by rfl) (.tmp 48) (.tmp 50) (by rfl) Y.heap.size (some ⟨Y.heap.size, 0, none⟩) 0 [] x.p x.c x.bs 0 x.bs.length x.bs.length rfl rfl (Nat.zero_add _) (by rfl) (by rfl) (own_heap (by rfl) (unhide OA)) (src_heap (by rfl) (unhide SO)) (by unfold maxLen; omega) (by omega) (unhide BA).size ?_; intro q4 c4' w4 o4 b4 _ _; have O4 := hide o4; have B4 := hide (Below.trans (by first | exact unhide BA | exact (unhide BA).drew | exact (unhide BA).drew.drew | exact (unhide BA).drew.drew.drew | exact (unhide BA).drew.drew.drew.drew) b4); obtain ⟨k40, k41⟩ := unhide HKC w4 (unhide B4); have S4 := hide (id ((unhide HSY).below (unhide B4))); clear o4 b4))
  all_goals
    obtain ⟨iz, fz⟩ := unhide HREADY w5 (unhide B5) (.slice q5 (x.bs.length + data.length) c5) q5 c5 (x.bs ++ data) (show OwnK encB 5 1 Y.heap.size w5 q5 c5 (x.bs ++ data) from unhide O5)
    have kz := heap_setCell_same w5 w1.heap.size 1 _ 105 (.slice q5 (x.bs.length + data.length) c5) (unhide HK w5 (unhide B5))
    obtain ⟨z0, z1, z2⟩ := cellsF3 kz
    have hbl : (x.bs ++ data).length = (x.bs.length + data.length) := by rw [List.length_append]
    have hp := unhide HPUT _ _ ({ nm := x.nm, p := q5, c := c5, bs := x.bs ++ data, la := x.la } : Rf) iz fz
    simp only [hbl] at hp
    have hbl2 := hbl
    have bz : Below w1.heap.size w1 (w5.setCell ⟨w1.heap.size, 1, none⟩ (.slice q5 (x.bs.length + data.length) c5)) := ((unhide BYH).trans ((unhide B5).mono (unhide BYH).size)).trans (grown_blw (grown_set w5 w1.heap.size 1 (.slice q5 (x.bs.length + data.length) c5)) (Nat.le_refl _) (Nat.le_trans (unhide BYH).size (unhide B5).size))
    have BZ := hide bz
    have hs1 := (unhide G1).size
    have hs2 := (unhide BYH).size
    have hs3 := bz.size
    clear iz fz kz hbl hbl2 bz
    go_wp2_with (go_at_call 62; refine hp.mono ?_; rintro e w6 ⟨⟨v, rfl⟩, ⟨q6, c6, i6⟩, g6⟩; have I6 := hide i6; have G6 := hide g6; obtain ⟨⟨s0, s1, s2, s3, s4⟩, t0, t1, t2, t3⟩ := cells5 i6.box; simp only at s1; rw [hA] at s1; clear i6 g6)
    go_ret
    have hP : ∀ j, ((P j ∧ j < w1.heap.size ∨ Y.heap.size ≤ j) ∨ (w5.setCell ⟨w1.heap.size, 1, none⟩ (.slice q5 (x.bs.length + data.length) c5)).heap.size ≤ j) → P j ∨ w.heap.size ≤ j := fun j hj => by
      rcases hj with (hj | hj) | hj
      · exact Or.inl hj.1
      · exact Or.inr (by omega)
      · exact Or.inr (by omega)
    have i7 := unhide I6
    have hb7 := heap_setCell_same w6 g 1 _ 30 (.int .i64 (A1 : Int)) i7.box
    have hr1 := unhide HR1
    have hA1 := unhide HA1
    subst hr1
    have i8 := i7.turn (r' := { r with fs := putR r.fs { nm := x.nm, p := q5, c := c5, bs := x.bs ++ data, la := x.la }, named := r.named - 1, acts := r.acts + 1 }) (grown_set w6 g 1 (.int .i64 (A1 : Int))) rfl i7.small (by rw [← hA1] at hb7 ⊢; exact hb7)
    exact ⟨rfl, q5, c5, REnd.mk (unhide HH) i8 hP (grown_trans (grown_mid (unhide G1) (unhide BZ) (unhide G6)) (grown_set _ _ _ _))⟩
set_option maxHeartbeats 4000000 in
set_option maxRecDepth 100000 in
theorem rappend_new {P : Nat → Prop} {w : World} {g c : Nat} {r : Rk} {q : Option Addr} (h : RIn P w g r q c) (nm : ByteArray) (p : Option Addr) (k : Nat) (data : List UInt8) (hd : SlOf encB 1 w p k data) (hpg : 0 < data.length → ∀ a, p = some a → a.block ≠ g) (hl : r.fs.length ≤ 1000000) (hs : ∀ x ∈ r.fs, x.nm.size ≤ 32) (he : refE r nm nm false = 0) (h1 : r.named ≠ 1) (ha : r.acts ≤ 4611686018427387904) (hdl : data.length ≤ 30000000000000) (hb : ∀ y ∈ r.fs, y.nm ≠ nm) :
    Calls Tryz.prog 30 #[.pointer (some ⟨g, 0, none⟩), .string nm, .slice p data.length k] w fun e w' => e = .returned (.int .i64 0) ∧ ∃ q5 c5, REnd P w g { r with fs := putR r.fs { nm := nm, p := q5, c := c5, bs := data, la := 0 }, named := r.named - 1, acts := r.acts + 1 } w' := by
  have mixed : Tryz.prog.follows .mixedOrders = true := by kernel_rfl
  have hr := refuse_any h nm nm false (by omega)
  rw [he] at hr
  have hnm := named_on h (ref0 he).1 h1
  obtain ⟨r1, hr1⟩ : ∃ r1, ({ r with named := r.named - 1 } : Rk) = r1 := ⟨_, rfl⟩
  rw [hr1] at hnm
  have hfs : r1.fs = r.fs := by rw [← hr1]
  have hac : r1.acts = r.acts := by rw [← hr1]
  have hpt : r1.part = r.part := by rw [← hr1]
  have hat := fun (W : World) (hW : RIn P W g r1 q c) => at_no hW nm (by rw [hfs]; exact hb) (by rw [hfs]; omega)
  have hsd : ∀ W, w.grownBy W (some g) → SlOf encB 1 W p k data := fun W gW => (SlIn.kept (P := fun i => i ≠ g) ⟨hd, fun h0 a ea => hpg h0 a ea⟩ gW.size (fun j hj hjl => gW.block j hjl (by intro e; injection e with e; exact hj e))).1
  have hdk := hd.2.1
  have hk0 : (0 : Int) ≤ (data.length : Int) := by omega
  have hkc : (data.length : Int) ≤ (k : Int) := by omega
  have hkc2 : data.length ≤ k := by omega
  obtain ⟨A1, hA1⟩ : ∃ A1, r.acts + 1 = A1 := ⟨_, rfl⟩
  obtain ⟨A, hA⟩ : ∃ A, r1.acts = A := ⟨_, rfl⟩
  have ea1 : (A : Int) + 1 = (A1 : Int) := by omega
  have ea2 : IntKind.i64.wrap (A1 : Int) = (A1 : Int) := wrap_int _ (by omega) (by omega)
  have HA1 := hide hA1
  clear hA1
  have hput := fun (P' : Nat → Prop) (W : World) (f : Rf) (hW : RIn P' W g r1 q c) (hf : SlIn encB 1 P' W f.p f.c f.bs) => rput_any hW f hf (by rw [hfs]; exact hl) (by rw [hfs]; exact hs)
  have HPUT := hide hput
  have HH := hide h
  have HSD := hide hsd
  have HR1 := hide hr1
  have HFS := hide hfs
  clear h he hd hpg hsd hr1 hfs hput hb
  go_enter Tryz.func30, Tryz.ntmps30
  go_upto_region 12 with (first
    | (go_at_call 59; refine hr.mono ?_; rintro e wa ⟨rfl, hwa⟩; obtain rfl := hwa.symm)
    | (go_at_call 60; refine hnm.mono ?_; rintro e w1 ⟨rfl, i1', g1⟩; have I1 := hide i1'; have G1 := hide g1; obtain ⟨⟨c0, c1, c2, c3, c4⟩, _⟩ := cells5 i1'.box; clear i1' g1)
    | (go_at_call 61; have hW := (unhide I1).below (w' := w1.alloc (.cells #[.string nm, .slice none 0 0, .int .i64 0] 105)) ((Below.refl _ _).alloc (Nat.le_refl _) _); refine (hat _ hW).mono ?_; rintro e w2 ⟨rfl, hw2⟩; obtain rfl := hw2.symm; clear hW))
  obtain ⟨Y, hY⟩ : ∃ Y, w1.alloc (.cells #[.string nm, .slice none 0 0, .int .i64 0] 105) = Y := ⟨_, rfl⟩
  have bY : Below w1.heap.size w1 Y := by rw [← hY]; exact (Below.refl _ _).alloc (Nat.le_refl _) _
  have hYs : Y.heap.size = w1.heap.size + 1 := by rw [← hY]; simp
  have kY : Y.heap[w1.heap.size]? = some (.cells #[.string nm, .slice none 0 0, .int .i64 0] 105 (0, 0)) := by rw [← hY]; exact heap_alloc_new _ _
  have hks : ∀ V, Below Y.heap.size Y V → V.heap[w1.heap.size]? = some (.cells #[.string nm, .slice none 0 0, .int .i64 0] 105 (0, 0)) := fun V bV => (bV.block _ (by omega)).trans kY
  have hkc1 : ∀ V, Below Y.heap.size Y V → V.cell? ⟨w1.heap.size, 1, none⟩ = some (.slice none 0 0) ∧ V.frozen? ⟨w1.heap.size, 1, none⟩ = false := fun V bV => ⟨(cellsF3 (hks V bV)).2.1, frozen_free (hks V bV)⟩
  rw [hY]
  have hsY := (unhide HSD w1 (unhide G1)).below bY
  have hsO : SlOf encB 1 Y none 0 ([] : List UInt8) := SlOf.none _
  have bA : Below Y.heap.size Y (Y.alloc (.cells #[] 5)) := (Below.refl _ _).alloc (Nat.le_refl _) _
  have oA : OwnK encB 5 1 Y.heap.size (Y.alloc (.cells #[] 5)) (some ⟨Y.heap.size, 0, none⟩) 0 ([] : List UInt8) := OwnK.made _ _ (Nat.le_refl _)
  have sOB : SrcK encB 1 (Y.alloc (.cells #[] 5)) none 0 ([] : List UInt8) := (hsO.below bA).src
  have hready := fun (V : World) (bV : Below Y.heap.size Y V) (v : Value) (q5 : Option Addr) (c5 : Nat) (l : List UInt8) (ho : OwnK encB 5 1 Y.heap.size V q5 c5 l) => app_ready (unhide I1) bY hYs bV v ho
  have HK := hide hks
  have HKC := hide hkc1
  have HREADY := hide hready
  have HSY := hide hsY
  have BA := hide bA
  have BAd := hide bA.drew
  have OA := hide oA
  have OAd := hide (show OwnK encB 5 1 Y.heap.size (Y.alloc (.cells #[] 5)).drew (some ⟨Y.heap.size, 0, none⟩) 0 ([] : List UInt8) from oA)
  have SO := hide sOB
  have SOd := hide (show SrcK encB 1 (Y.alloc (.cells #[] 5)).drew none 0 ([] : List UInt8) from sOB)
  have BYY := hide (Below.refl Y.heap.size Y)
  obtain ⟨k0, k1⟩ := hkc1 Y (Below.refl _ _)
  obtain ⟨kA0, kA1⟩ := hkc1 _ bA
  have BYH := hide bY
  have HYS := hide hYs
  have HHY := hide hY
  clear hYs hY bY kY hks hkc1 hsY bA oA sOB hready hsO
  go_region_law (first
      | (refine step_app rowB (by rfl) (.tmp 51) (.tmp 54) (by rfl) Y.heap.size q4 c4' ([] ++ ([] : List UInt8)) p k data 0 data.length data.length (by simp) rfl (Nat.zero_add _) (by rfl) (by rfl) (own_heap (by rfl) (unhide O4)) (src_heap (by rfl) (unhide S4).src) (by unfold maxLen; omega) (by omega) (unhide B4).size ?_; intro q5 c5 w5 o5 b5 _ _; have O5 := hide o5; have B5 := hide (Below.trans (by first | exact unhide B4 | exact (unhide B4).drew | exact (unhide B4).drew.drew | exact (unhide B4).drew.drew.drew | exact (unhide B4).drew.drew.drew.drew) b5); obtain ⟨k50, k51⟩ := unhide HKC w5 (unhide B5); clear o5 b5)
      | (refine step_app rowB (by rfl) (.tmp 48) (.tmp 50) (by rfl) Y.heap.size (some ⟨Y.heap.size, 0, none⟩) 0 [] none 0 ([] : List UInt8) 0 0 0 rfl rfl (Nat.zero_add _) (by rfl) (by rfl) (own_heap (by rfl) (unhide OA)) (src_heap (by rfl) (unhide SO)) (by unfold maxLen; omega) (by omega) (unhide BA).size ?_; intro q4 c4' w4 o4 b4 _ _; have O4 := hide o4; have B4 := hide (Below.trans (by first | exact unhide BA | exact (unhide BA).drew | exact (unhide BA).drew.drew | exact (unhide BA).drew.drew.drew | exact (unhide BA).drew.drew.drew.drew) b4); obtain ⟨k40, k41⟩ := unhide HKC w4 (unhide B4); have S4 := hide (id ((unhide HSY).below (unhide B4))); clear o4 b4))
  all_goals
    obtain ⟨iz, fz⟩ := unhide HREADY w5 (unhide B5) (.slice q5 data.length c5) q5 c5 (data) (show OwnK encB 5 1 Y.heap.size w5 q5 c5 (data) from unhide O5)
    have kz := heap_setCell_same w5 w1.heap.size 1 _ 105 (.slice q5 data.length c5) (unhide HK w5 (unhide B5))
    obtain ⟨z0, z1, z2⟩ := cellsF3 kz
    have hbl : (data).length = data.length := rfl
    have hp := unhide HPUT _ _ ({ nm := nm, p := q5, c := c5, bs := data, la := 0 } : Rf) iz fz
    simp only at hp
    have hbl2 := hbl
    have bz : Below w1.heap.size w1 (w5.setCell ⟨w1.heap.size, 1, none⟩ (.slice q5 data.length c5)) := ((unhide BYH).trans ((unhide B5).mono (unhide BYH).size)).trans (grown_blw (grown_set w5 w1.heap.size 1 (.slice q5 data.length c5)) (Nat.le_refl _) (Nat.le_trans (unhide BYH).size (unhide B5).size))
    have BZ := hide bz
    have hs1 := (unhide G1).size
    have hs2 := (unhide BYH).size
    have hs3 := bz.size
    clear iz fz kz hbl hbl2 bz
    go_wp2_with (go_at_call 62; refine hp.mono ?_; rintro e w6 ⟨⟨v, rfl⟩, ⟨q6, c6, i6⟩, g6⟩; have I6 := hide i6; have G6 := hide g6; obtain ⟨⟨s0, s1, s2, s3, s4⟩, t0, t1, t2, t3⟩ := cells5 i6.box; simp only at s1; rw [hA] at s1; clear i6 g6)
    go_ret
    have hP : ∀ j, ((P j ∧ j < w1.heap.size ∨ Y.heap.size ≤ j) ∨ (w5.setCell ⟨w1.heap.size, 1, none⟩ (.slice q5 data.length c5)).heap.size ≤ j) → P j ∨ w.heap.size ≤ j := fun j hj => by
      rcases hj with (hj | hj) | hj
      · exact Or.inl hj.1
      · exact Or.inr (by omega)
      · exact Or.inr (by omega)
    have i7 := unhide I6
    have hb7 := heap_setCell_same w6 g 1 _ 30 (.int .i64 (A1 : Int)) i7.box
    have hr1 := unhide HR1
    have hA1 := unhide HA1
    subst hr1
    have i8 := i7.turn (r' := { r with fs := putR r.fs { nm := nm, p := q5, c := c5, bs := data, la := 0 }, named := r.named - 1, acts := r.acts + 1 }) (grown_set w6 g 1 (.int .i64 (A1 : Int))) rfl i7.small (by rw [← hA1] at hb7 ⊢; exact hb7)
    exact ⟨rfl, q5, c5, REnd.mk (unhide HH) i8 hP (grown_trans (grown_mid (unhide G1) (unhide BZ) (unhide G6)) (grown_set _ _ _ _))⟩
set_option maxHeartbeats 4000000 in
set_option maxRecDepth 100000 in
theorem rappend_down {P : Nat → Prop} {w : World} {g c : Nat} {r : Rk} {q : Option Addr} (h : RIn P w g r q c) (nm : ByteArray) (p : Option Addr) (k : Nat) (data : List UInt8) (hd : SlOf encB 1 w p k data) (hpg : 0 < data.length → ∀ a, p = some a → a.block ≠ g) (hl : r.fs.length ≤ 1000000) (hs : ∀ x ∈ r.fs, x.nm.size ≤ 32) (he : refE r nm nm false = 0) (h1 : r.named = 1) (hdl : data.length ≤ 30000000000000) {i : Nat} {x : Rf} (hx : r.fs[i]? = some x) (hn : x.nm = nm) (hb : ∀ j y, j < i → r.fs[j]? = some y → y.nm ≠ nm) (hxl : x.bs.length ≤ 30000000000000) (m : Nat) (hm : min (max r.part 0) (data.length : Int) = (m : Int)) :
    Calls Tryz.prog 30 #[.pointer (some ⟨g, 0, none⟩), .string nm, .slice p data.length k] w fun e w' => e = .returned (.int .i64 40) ∧ ∃ q5 c5, REnd P w g { r with fs := putR r.fs { nm := x.nm, p := q5, c := c5, bs := x.bs ++ (data.take m), la := x.la }, named := 0, off := true } w' := by
  subst hn
  have mixed : Tryz.prog.follows .mixedOrders = true := by kernel_rfl
  have hr := refuse_any h x.nm x.nm false (by omega)
  rw [he] at hr
  have hnm := named_1 h h1
  obtain ⟨r1, hr1⟩ : ∃ r1, ({ r with named := 0, off := true } : Rk) = r1 := ⟨_, rfl⟩
  rw [hr1] at hnm
  have hfs : r1.fs = r.fs := by rw [← hr1]
  have hac : r1.acts = r.acts := by rw [← hr1]
  have hpt : r1.part = r.part := by rw [← hr1]
  have hil : i < r.fs.length := (List.getElem?_eq_some_iff.1 hx).1
  have hmem := List.mem_of_getElem? hx
  have i0 : (0 : Int) ≤ (i : Int) := by omega
  have i1 : (i : Int) < (r1.fs.length : Int) := by rw [hfs]; omega
  have hat := fun (W : World) (hW : RIn P W g r1 q c) => at_yes hW x.nm (by rw [hfs]; exact hx) rfl (by rw [hfs]; exact hb) (by rw [hfs]; omega)
  have HX := hide (show r1.fs[i]? = some x by rw [hfs]; exact hx)
  have hsd : ∀ W, w.grownBy W (some g) → SlOf encB 1 W p k data := fun W gW => (SlIn.kept (P := fun i => i ≠ g) ⟨hd, fun h0 a ea => hpg h0 a ea⟩ gW.size (fun j hj hjl => gW.block j hjl (by intro e; injection e with e; exact hj e))).1
  have hdk := hd.2.1
  have hmd : m ≤ data.length := by omega
  have hml : (data.take m).length = m := by rw [List.length_take]; omega
  have hk0 : (0 : Int) ≤ (m : Int) := by omega
  have hkc : (m : Int) ≤ (k : Int) := by omega
  have hkc2 : m ≤ k := by omega
  have hput := fun (P' : Nat → Prop) (W : World) (f : Rf) (hW : RIn P' W g r1 q c) (hf : SlIn encB 1 P' W f.p f.c f.bs) => rput_any hW f hf (by rw [hfs]; exact hl) (by rw [hfs]; exact hs)
  have HPUT := hide hput
  have HH := hide h
  have HSD := hide hsd
  have HR1 := hide hr1
  have HFS := hide hfs
  clear h he hd hpg hsd hr1 hfs hput hb hx
  go_enter Tryz.func30, Tryz.ntmps30
  go_upto_region 12 with (first
    | (go_at_call 59; refine hr.mono ?_; rintro e wa ⟨rfl, hwa⟩; obtain rfl := hwa.symm)
    | (go_at_call 60; refine hnm.mono ?_; rintro e w1 ⟨rfl, i1', g1⟩; have I1 := hide i1'; have G1 := hide g1; obtain ⟨⟨c0, c1, c2, c3, c4⟩, _⟩ := cells5 i1'.box; clear i1' g1)
    | (go_at_call 61; have hW := (unhide I1).below (w' := w1.alloc (.cells #[.string x.nm, .slice none 0 0, .int .i64 0] 105)) ((Below.refl _ _).alloc (Nat.le_refl _) _); refine (hat _ hW).mono ?_; rintro e w2 ⟨rfl, hw2⟩; obtain rfl := hw2.symm; obtain ⟨⟨u0, u1, u2, u3, u4⟩, _⟩ := cells5 hW.box; obtain ⟨b, off, hq, hbl, d0, d1, d2⟩ := fileAt hW.row.1 (unhide HX); subst hq; clear hW))
  obtain ⟨Y, hY⟩ : ∃ Y, w1.alloc (.cells #[.string x.nm, .slice x.p x.bs.length x.c, .int .i64 (x.la : Int)] 105) = Y := ⟨_, rfl⟩
  have bY : Below w1.heap.size w1 Y := by rw [← hY]; exact (Below.refl _ _).alloc (Nat.le_refl _) _
  have hYs : Y.heap.size = w1.heap.size + 1 := by rw [← hY]; simp
  have kY : Y.heap[w1.heap.size]? = some (.cells #[.string x.nm, .slice x.p x.bs.length x.c, .int .i64 (x.la : Int)] 105 (0, 0)) := by rw [← hY]; exact heap_alloc_new _ _
  have hks : ∀ V, Below Y.heap.size Y V → V.heap[w1.heap.size]? = some (.cells #[.string x.nm, .slice x.p x.bs.length x.c, .int .i64 (x.la : Int)] 105 (0, 0)) := fun V bV => (bV.block _ (by omega)).trans kY
  have hkc1 : ∀ V, Below Y.heap.size Y V → V.cell? ⟨w1.heap.size, 1, none⟩ = some (.slice x.p x.bs.length x.c) ∧ V.frozen? ⟨w1.heap.size, 1, none⟩ = false := fun V bV => ⟨(cellsF3 (hks V bV)).2.1, frozen_free (hks V bV)⟩
  rw [hY]
  have hsY := (unhide HSD w1 (unhide G1)).below bY
  have hsO := ((unhide I1).file x (by have := List.mem_of_getElem? (unhide HX); exact this)).1.below bY
  have bA : Below Y.heap.size Y (Y.alloc (.cells #[] 5)) := (Below.refl _ _).alloc (Nat.le_refl _) _
  have oA : OwnK encB 5 1 Y.heap.size (Y.alloc (.cells #[] 5)) (some ⟨Y.heap.size, 0, none⟩) 0 ([] : List UInt8) := OwnK.made _ _ (Nat.le_refl _)
  have sOB : SrcK encB 1 (Y.alloc (.cells #[] 5)) x.p x.c x.bs := (hsO.below bA).src
  have hready := fun (V : World) (bV : Below Y.heap.size Y V) (v : Value) (q5 : Option Addr) (c5 : Nat) (l : List UInt8) (ho : OwnK encB 5 1 Y.heap.size V q5 c5 l) => app_ready (unhide I1) bY hYs bV v ho
  have HK := hide hks
  have HKC := hide hkc1
  have HREADY := hide hready
  have HSY := hide hsY
  have BA := hide bA
  have BAd := hide bA.drew
  have OA := hide oA
  have OAd := hide (show OwnK encB 5 1 Y.heap.size (Y.alloc (.cells #[] 5)).drew (some ⟨Y.heap.size, 0, none⟩) 0 ([] : List UInt8) from oA)
  have SO := hide sOB
  have SOd := hide (show SrcK encB 1 (Y.alloc (.cells #[] 5)).drew x.p x.c x.bs from sOB)
  have BYY := hide (Below.refl Y.heap.size Y)
  obtain ⟨k0, k1⟩ := hkc1 Y (Below.refl _ _)
  obtain ⟨kA0, kA1⟩ := hkc1 _ bA
  have BYH := hide bY
  have HYS := hide hYs
  have HHY := hide hY
  clear hYs hY bY kY hks hkc1 hsY bA oA sOB hready hsO
  go_region_law (first
      | (refine step_app rowB (by rfl) (.tmp 51) (.tmp 54) (by rfl) Y.heap.size q4 c4' ([] ++ x.bs) p k (data.take m) x.bs.length m (x.bs.length + m) (by simp) hml rfl (by rfl) (by rfl) (own_heap (by rfl) (unhide O4)) (src_heap (by rfl) (unhide S4).src) (by unfold maxLen; omega) (by omega) (unhide B4).size ?_; intro q5 c5 w5 o5 b5 _ _; have O5 := hide o5; have B5 := hide (Below.trans (by first | exact unhide B4 | exact (unhide B4).drew | exact (unhide B4).drew.drew | exact (unhide B4).drew.drew.drew | exact (unhide B4).drew.drew.drew.drew) b5); obtain ⟨k50, k51⟩ := unhide HKC w5 (unhide B5); clear o5 b5)
      | (refine step_app rowB (by rfl) (.tmp 48) (.tmp 50) (by rfl) Y.heap.size (some ⟨Y.heap.size, 0, none⟩) 0 [] x.p x.c x.bs 0 x.bs.length x.bs.length rfl rfl (Nat.zero_add _) (by rfl) (by rfl) (own_heap (by rfl) (unhide OA)) (src_heap (by rfl) (unhide SO)) (by unfold maxLen; omega) (by omega) (unhide BA).size ?_; intro q4 c4' w4 o4 b4 _ _; have O4 := hide o4; have B4 := hide (Below.trans (by first | exact unhide BA | exact (unhide BA).drew | exact (unhide BA).drew.drew | exact (unhide BA).drew.drew.drew | exact (unhide BA).drew.drew.drew.drew) b4); obtain ⟨k40, k41⟩ := unhide HKC w4 (unhide B4); have S4 := hide ((fun hh => sl_take hh m) ((unhide HSY).below (unhide B4))); clear o4 b4))
  all_goals
    obtain ⟨iz, fz⟩ := unhide HREADY w5 (unhide B5) (.slice q5 (x.bs.length + m) c5) q5 c5 (x.bs ++ (data.take m)) (show OwnK encB 5 1 Y.heap.size w5 q5 c5 (x.bs ++ (data.take m)) from unhide O5)
    have kz := heap_setCell_same w5 w1.heap.size 1 _ 105 (.slice q5 (x.bs.length + m) c5) (unhide HK w5 (unhide B5))
    obtain ⟨z0, z1, z2⟩ := cellsF3 kz
    have hbl : (x.bs ++ (data.take m)).length = (x.bs.length + m) := by rw [List.length_append, hml]
    have hp := unhide HPUT _ _ ({ nm := x.nm, p := q5, c := c5, bs := x.bs ++ (data.take m), la := x.la } : Rf) iz fz
    simp only [hbl] at hp
    have hbl2 := hbl
    have bz : Below w1.heap.size w1 (w5.setCell ⟨w1.heap.size, 1, none⟩ (.slice q5 (x.bs.length + m) c5)) := ((unhide BYH).trans ((unhide B5).mono (unhide BYH).size)).trans (grown_blw (grown_set w5 w1.heap.size 1 (.slice q5 (x.bs.length + m) c5)) (Nat.le_refl _) (Nat.le_trans (unhide BYH).size (unhide B5).size))
    have BZ := hide bz
    have hs1 := (unhide G1).size
    have hs2 := (unhide BYH).size
    have hs3 := bz.size
    clear iz fz kz hbl hbl2 bz
    go_wp2_with (go_at_call 62; refine hp.mono ?_; rintro e w6 ⟨⟨v, rfl⟩, ⟨q6, c6, i6⟩, g6⟩; have I6 := hide i6; have G6 := hide g6; clear i6 g6)
    go_ret
    have hP : ∀ j, ((P j ∧ j < w1.heap.size ∨ Y.heap.size ≤ j) ∨ (w5.setCell ⟨w1.heap.size, 1, none⟩ (.slice q5 (x.bs.length + m) c5)).heap.size ≤ j) → P j ∨ w.heap.size ≤ j := fun j hj => by
      rcases hj with (hj | hj) | hj
      · exact Or.inl hj.1
      · exact Or.inr (by omega)
      · exact Or.inr (by omega)
    have i7 := unhide I6
    rw [← unhide HR1] at i7
    exact ⟨rfl, q5, c5, REnd.mk (unhide HH) i7 hP (grown_mid (unhide G1) (unhide BZ) (unhide G6))⟩
set_option maxHeartbeats 4000000 in
set_option maxRecDepth 100000 in
theorem rappend_newdown {P : Nat → Prop} {w : World} {g c : Nat} {r : Rk} {q : Option Addr} (h : RIn P w g r q c) (nm : ByteArray) (p : Option Addr) (k : Nat) (data : List UInt8) (hd : SlOf encB 1 w p k data) (hpg : 0 < data.length → ∀ a, p = some a → a.block ≠ g) (hl : r.fs.length ≤ 1000000) (hs : ∀ x ∈ r.fs, x.nm.size ≤ 32) (he : refE r nm nm false = 0) (h1 : r.named = 1) (hdl : data.length ≤ 30000000000000) (hb : ∀ y ∈ r.fs, y.nm ≠ nm) (m : Nat) (hm : min (max r.part 0) (data.length : Int) = (m : Int)) :
    Calls Tryz.prog 30 #[.pointer (some ⟨g, 0, none⟩), .string nm, .slice p data.length k] w fun e w' => e = .returned (.int .i64 40) ∧ ∃ q5 c5, REnd P w g { r with fs := putR r.fs { nm := nm, p := q5, c := c5, bs := (data.take m), la := 0 }, named := 0, off := true } w' := by
  have mixed : Tryz.prog.follows .mixedOrders = true := by kernel_rfl
  have hr := refuse_any h nm nm false (by omega)
  rw [he] at hr
  have hnm := named_1 h h1
  obtain ⟨r1, hr1⟩ : ∃ r1, ({ r with named := 0, off := true } : Rk) = r1 := ⟨_, rfl⟩
  rw [hr1] at hnm
  have hfs : r1.fs = r.fs := by rw [← hr1]
  have hac : r1.acts = r.acts := by rw [← hr1]
  have hpt : r1.part = r.part := by rw [← hr1]
  have hat := fun (W : World) (hW : RIn P W g r1 q c) => at_no hW nm (by rw [hfs]; exact hb) (by rw [hfs]; omega)
  have hsd : ∀ W, w.grownBy W (some g) → SlOf encB 1 W p k data := fun W gW => (SlIn.kept (P := fun i => i ≠ g) ⟨hd, fun h0 a ea => hpg h0 a ea⟩ gW.size (fun j hj hjl => gW.block j hjl (by intro e; injection e with e; exact hj e))).1
  have hdk := hd.2.1
  have hmd : m ≤ data.length := by omega
  have hml : (data.take m).length = m := by rw [List.length_take]; omega
  have hk0 : (0 : Int) ≤ (m : Int) := by omega
  have hkc : (m : Int) ≤ (k : Int) := by omega
  have hkc2 : m ≤ k := by omega
  have hput := fun (P' : Nat → Prop) (W : World) (f : Rf) (hW : RIn P' W g r1 q c) (hf : SlIn encB 1 P' W f.p f.c f.bs) => rput_any hW f hf (by rw [hfs]; exact hl) (by rw [hfs]; exact hs)
  have HPUT := hide hput
  have HH := hide h
  have HSD := hide hsd
  have HR1 := hide hr1
  have HFS := hide hfs
  clear h he hd hpg hsd hr1 hfs hput hb
  go_enter Tryz.func30, Tryz.ntmps30
  go_upto_region 12 with (first
    | (go_at_call 59; refine hr.mono ?_; rintro e wa ⟨rfl, hwa⟩; obtain rfl := hwa.symm)
    | (go_at_call 60; refine hnm.mono ?_; rintro e w1 ⟨rfl, i1', g1⟩; have I1 := hide i1'; have G1 := hide g1; obtain ⟨⟨c0, c1, c2, c3, c4⟩, _⟩ := cells5 i1'.box; clear i1' g1)
    | (go_at_call 61; have hW := (unhide I1).below (w' := w1.alloc (.cells #[.string nm, .slice none 0 0, .int .i64 0] 105)) ((Below.refl _ _).alloc (Nat.le_refl _) _); refine (hat _ hW).mono ?_; rintro e w2 ⟨rfl, hw2⟩; obtain rfl := hw2.symm; clear hW))
  obtain ⟨Y, hY⟩ : ∃ Y, w1.alloc (.cells #[.string nm, .slice none 0 0, .int .i64 0] 105) = Y := ⟨_, rfl⟩
  have bY : Below w1.heap.size w1 Y := by rw [← hY]; exact (Below.refl _ _).alloc (Nat.le_refl _) _
  have hYs : Y.heap.size = w1.heap.size + 1 := by rw [← hY]; simp
  have kY : Y.heap[w1.heap.size]? = some (.cells #[.string nm, .slice none 0 0, .int .i64 0] 105 (0, 0)) := by rw [← hY]; exact heap_alloc_new _ _
  have hks : ∀ V, Below Y.heap.size Y V → V.heap[w1.heap.size]? = some (.cells #[.string nm, .slice none 0 0, .int .i64 0] 105 (0, 0)) := fun V bV => (bV.block _ (by omega)).trans kY
  have hkc1 : ∀ V, Below Y.heap.size Y V → V.cell? ⟨w1.heap.size, 1, none⟩ = some (.slice none 0 0) ∧ V.frozen? ⟨w1.heap.size, 1, none⟩ = false := fun V bV => ⟨(cellsF3 (hks V bV)).2.1, frozen_free (hks V bV)⟩
  rw [hY]
  have hsY := (unhide HSD w1 (unhide G1)).below bY
  have hsO : SlOf encB 1 Y none 0 ([] : List UInt8) := SlOf.none _
  have bA : Below Y.heap.size Y (Y.alloc (.cells #[] 5)) := (Below.refl _ _).alloc (Nat.le_refl _) _
  have oA : OwnK encB 5 1 Y.heap.size (Y.alloc (.cells #[] 5)) (some ⟨Y.heap.size, 0, none⟩) 0 ([] : List UInt8) := OwnK.made _ _ (Nat.le_refl _)
  have sOB : SrcK encB 1 (Y.alloc (.cells #[] 5)) none 0 ([] : List UInt8) := (hsO.below bA).src
  have hready := fun (V : World) (bV : Below Y.heap.size Y V) (v : Value) (q5 : Option Addr) (c5 : Nat) (l : List UInt8) (ho : OwnK encB 5 1 Y.heap.size V q5 c5 l) => app_ready (unhide I1) bY hYs bV v ho
  have HK := hide hks
  have HKC := hide hkc1
  have HREADY := hide hready
  have HSY := hide hsY
  have BA := hide bA
  have BAd := hide bA.drew
  have OA := hide oA
  have OAd := hide (show OwnK encB 5 1 Y.heap.size (Y.alloc (.cells #[] 5)).drew (some ⟨Y.heap.size, 0, none⟩) 0 ([] : List UInt8) from oA)
  have SO := hide sOB
  have SOd := hide (show SrcK encB 1 (Y.alloc (.cells #[] 5)).drew none 0 ([] : List UInt8) from sOB)
  have BYY := hide (Below.refl Y.heap.size Y)
  obtain ⟨k0, k1⟩ := hkc1 Y (Below.refl _ _)
  obtain ⟨kA0, kA1⟩ := hkc1 _ bA
  have BYH := hide bY
  have HYS := hide hYs
  have HHY := hide hY
  clear hYs hY bY kY hks hkc1 hsY bA oA sOB hready hsO
  go_region_law (first
      | (refine step_app rowB (by rfl) (.tmp 51) (.tmp 54) (by rfl) Y.heap.size q4 c4' ([] ++ ([] : List UInt8)) p k (data.take m) 0 m m (by simp) hml (Nat.zero_add _) (by rfl) (by rfl) (own_heap (by rfl) (unhide O4)) (src_heap (by rfl) (unhide S4).src) (by unfold maxLen; omega) (by omega) (unhide B4).size ?_; intro q5 c5 w5 o5 b5 _ _; have O5 := hide o5; have B5 := hide (Below.trans (by first | exact unhide B4 | exact (unhide B4).drew | exact (unhide B4).drew.drew | exact (unhide B4).drew.drew.drew | exact (unhide B4).drew.drew.drew.drew) b5); obtain ⟨k50, k51⟩ := unhide HKC w5 (unhide B5); clear o5 b5)
      | (refine step_app rowB (by rfl) (.tmp 48) (.tmp 50) (by rfl) Y.heap.size (some ⟨Y.heap.size, 0, none⟩) 0 [] none 0 ([] : List UInt8) 0 0 0 rfl rfl (Nat.zero_add _) (by rfl) (by rfl) (own_heap (by rfl) (unhide OA)) (src_heap (by rfl) (unhide SO)) (by unfold maxLen; omega) (by omega) (unhide BA).size ?_; intro q4 c4' w4 o4 b4 _ _; have O4 := hide o4; have B4 := hide (Below.trans (by first | exact unhide BA | exact (unhide BA).drew | exact (unhide BA).drew.drew | exact (unhide BA).drew.drew.drew | exact (unhide BA).drew.drew.drew.drew) b4); obtain ⟨k40, k41⟩ := unhide HKC w4 (unhide B4); have S4 := hide ((fun hh => sl_take hh m) ((unhide HSY).below (unhide B4))); clear o4 b4))
  all_goals
    obtain ⟨iz, fz⟩ := unhide HREADY w5 (unhide B5) (.slice q5 m c5) q5 c5 ((data.take m)) (show OwnK encB 5 1 Y.heap.size w5 q5 c5 ((data.take m)) from unhide O5)
    have kz := heap_setCell_same w5 w1.heap.size 1 _ 105 (.slice q5 m c5) (unhide HK w5 (unhide B5))
    obtain ⟨z0, z1, z2⟩ := cellsF3 kz
    have hbl : ((data.take m)).length = m := hml
    have hp := unhide HPUT _ _ ({ nm := nm, p := q5, c := c5, bs := (data.take m), la := 0 } : Rf) iz fz
    simp only [hbl] at hp
    have hbl2 := hbl
    have bz : Below w1.heap.size w1 (w5.setCell ⟨w1.heap.size, 1, none⟩ (.slice q5 m c5)) := ((unhide BYH).trans ((unhide B5).mono (unhide BYH).size)).trans (grown_blw (grown_set w5 w1.heap.size 1 (.slice q5 m c5)) (Nat.le_refl _) (Nat.le_trans (unhide BYH).size (unhide B5).size))
    have BZ := hide bz
    have hs1 := (unhide G1).size
    have hs2 := (unhide BYH).size
    have hs3 := bz.size
    clear iz fz kz hbl hbl2 bz
    go_wp2_with (go_at_call 62; refine hp.mono ?_; rintro e w6 ⟨⟨v, rfl⟩, ⟨q6, c6, i6⟩, g6⟩; have I6 := hide i6; have G6 := hide g6; clear i6 g6)
    go_ret
    have hP : ∀ j, ((P j ∧ j < w1.heap.size ∨ Y.heap.size ≤ j) ∨ (w5.setCell ⟨w1.heap.size, 1, none⟩ (.slice q5 m c5)).heap.size ≤ j) → P j ∨ w.heap.size ≤ j := fun j hj => by
      rcases hj with (hj | hj) | hj
      · exact Or.inl hj.1
      · exact Or.inr (by omega)
      · exact Or.inr (by omega)
    have i7 := unhide I6
    rw [← unhide HR1] at i7
    exact ⟨rfl, q5, c5, REnd.mk (unhide HH) i7 hP (grown_mid (unhide G1) (unhide BZ) (unhide G6))⟩
end Go.Proofs.YtfigjfmldpfjkaaGreat

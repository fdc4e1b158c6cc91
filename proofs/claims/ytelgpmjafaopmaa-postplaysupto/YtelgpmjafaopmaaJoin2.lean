/- post.join, where posts come between. -/
import Derived.Test.YtelgpmjafaopmaaJoin
namespace Go.Proofs.Ytelgpmjafaopmaa
open Go.RowKit Go.Sort Go.Shelf

/-- What is left of a row, from k on. -/
def Rest (w : World) (g o r co : Nat) (d : List Pt) : Prop := d.length = r ∧ r ≤ co ∧ co ≤ maxLen ∧ ∀ (j : Nat) (x : Pt), d[j]? = some x → w.cell? ⟨g, o + j * 2, none⟩ = some (.int .i64 x.1) ∧ w.cell? ⟨g, o + j * 2 + 1, none⟩ = some (.bool x.2)
theorem flat_cell {w : World} {g o : Nat} {d : List Pt} (h : ∀ (j : Nat) (x : Pt), d[j]? = some x → w.cell? ⟨g, o + j * 2, none⟩ = some (.int .i64 x.1) ∧ w.cell? ⟨g, o + j * 2 + 1, none⟩ = some (.bool x.2)) : ∀ (j : Nat) (u : Value), (flatK encP 2 d.toArray).toList[j]? = some u → w.cell? ⟨g, o + j, none⟩ = some u := by
  intro j u hj
  have hl := (List.getElem?_eq_some_iff.1 hj).1
  rw [flat_len] at hl
  obtain ⟨x, hx, _⟩ := get_at (l := d) (k := j / 2) (by omega)
  have h2 := flat_at (enc := encP) (k := 2) hx (j % 2) (by omega)
  rw [show j / 2 * 2 + j % 2 = j by omega, hj] at h2
  obtain ⟨a, b⟩ := h (j / 2) x hx
  have hm : j % 2 = 0 ∨ j % 2 = 1 := by omega
  rw [Option.some.inj h2]
  rcases hm with e | e
  · rw [e, show o + j = o + j / 2 * 2 by omega]; exact a
  · rw [e, show o + j = o + j / 2 * 2 + 1 by omega]; exact b
theorem Rest.sl {w : World} {g o r co : Nat} {d : List Pt} (h : Rest w g o r co d) (hg : g < w.heap.size) : SlOf encP 2 w (some ⟨g, o, none⟩) co d :=
  ⟨(fun h => by cases h), by have := h.1; have := h.2.1; omega, h.2.2.1, fun _ => ⟨g, o, rfl, hg, flat_cell h.2.2.2⟩⟩
theorem Rest.below {w w' : World} {g o r co : Nat} {d : List Pt} (h : Rest w g o r co d) (hg : g < w.heap.size) (hb : Below w.heap.size w w') : Rest w' g o r co d :=
  ⟨h.1, h.2.1, h.2.2.1, fun j x hj => ⟨(hb.cell (p := ⟨g, o + j * 2, none⟩) hg).trans (h.2.2.2 j x hj).1, (hb.cell (p := ⟨g, o + j * 2 + 1, none⟩) hg).trans (h.2.2.2 j x hj).2⟩⟩
theorem Rest.belowA {w w' : World} {A g o r co : Nat} {d : List Pt} (h : Rest w g o r co d) (hg : g < A) (hb : Below A w w') : Rest w' g o r co d :=
  ⟨h.1, h.2.1, h.2.2.1, fun j x hj => ⟨(hb.cell (p := ⟨g, o + j * 2, none⟩) hg).trans (h.2.2.2 j x hj).1, (hb.cell (p := ⟨g, o + j * 2 + 1, none⟩) hg).trans (h.2.2.2 j x hj).2⟩⟩
theorem Rest.from {w : World} {g o r co : Nat} {d : List Pt} (h : Rest w g o r co d) {k : Nat} (hk : k ≤ r) : Rest w g (o + k * 2) (r - k) (co - k) (d.drop k) := by
  refine ⟨by rw [List.length_drop, h.1], by have := h.2.1; omega, by have := h.2.2.1; omega, fun j x hj => ?_⟩
  rw [List.getElem?_drop] at hj
  have := h.2.2.2 (k + j) x hj
  rw [show o + k * 2 + j * 2 = o + (k + j) * 2 by omega]
  exact this
theorem Rest.end_ {w : World} {g o r co o' : Nat} {d : List Pt} (h : Rest w g o r co d) (h0 : r = 0) : Rest w g o' r co d := by
  refine ⟨h.1, h.2.1, h.2.2.1, fun j x hj => ?_⟩
  have := (List.getElem?_eq_some_iff.1 hj).1
  have := h.1
  omega
theorem Rest.take {w : World} {g o r co : Nat} {d : List Pt} (h : Rest w g o r co d) {k : Nat} (hk : k ≤ r) : Rest w g o k co (d.take k) := by
  refine ⟨by rw [List.length_take]; have := h.1; omega, by have := h.2.1; omega, h.2.2.1, fun j x hj => ?_⟩
  rw [List.getElem?_take] at hj
  split at hj
  · exact h.2.2.2 j x hj
  · cases hj
set_option maxHeartbeats 4000000 in
set_option maxRecDepth 100000 in
theorem join_loop (B g : Nat) (cap : Nat) (l : List Pt) (p : Option Addr) (c : Nat) (m : List Pt) (w : World) (h : OwnK encP 43 2 B w (some ⟨g, 0, none⟩) cap l) (hs : SlOf encP 2 w p c m) (hst : Str l) (hsm : Str m) (hB : B ≤ w.heap.size) (hb : (l.length + m.length) * 16 ≤ 140737488355328)
    {n1 : Nat} (hn1 : l.length = n1 + 1) (h0 : 0 < m.length) {x y : Pt} (hx : l[n1]? = some x) (hy : m[0]? = some y) (hxy : ¬ cmpP x y < 0) :
    Calls Try.prog 38 #[.slice (some ⟨g, 0, none⟩) l.length cap, .slice p m.length c] w fun e w' => Joined B w (some ⟨g, 0, none⟩) l m e w' := by
  have mixed : Try.prog.follows .mixedOrders = true := by kernel_rfl
  have e43 : ∀ args w, (callFunc 43 args).run Try.prog w = .ok (.enter 43 args) w := enters_of Try.func43 (by kernel_rfl) rfl
  obtain ⟨b, off, hq, hgw, c0, c1⟩ := postAt h.ls hx
  obtain ⟨rfl, rfl⟩ : g = b ∧ 0 = off := by injection hq with hq; injection hq with h1 h2 _; exact ⟨h1, h2⟩
  obtain ⟨b', off', hq', _, d0, d1⟩ := postAt hs hy
  have r0 := cell_regrown c0
  have r1 := cell_regrown c1
  have s0 := cell_regrown d0
  have s1 := cell_regrown d1
  simp only [Nat.zero_mul, Nat.add_zero, Nat.zero_add] at r0 r1 s0 s1
  have hc := fun W => compareB x y W
  have HR := hide (show Rest w g 0 l.length cap l from ⟨rfl, h.ls.2.1, h.ls.2.2.1, fun j z hj => (by have := h.at2 hj; rwa [Nat.zero_add])⟩)
  have HS := hide hs
  have HST := hide hst
  have HSM := hide hsm
  have hm0 : ((m.length : Int) == 0) = false := by rw [beq_eq_false_iff_ne]; omega
  have hl0 : ((l.length : Int) == 0) = false := by rw [beq_eq_false_iff_ne]; omega
  have k0 : (0 : Int) ≤ (n1 : Int) := by omega
  have k1 : (n1 : Int) < (l.length : Int) := by omega
  have k2 : (0 : Int) < (m.length : Int) := by omega
  have k3 : (m.length : Int) ≤ 100000000000000 := by omega
  have k4 : (l.length : Int) ≤ 100000000000000 := by omega
  have hw : IntKind.i64.wrap ((l.length : Int) - 1) = (n1 : Int) := by rw [show (l.length : Int) - 1 = (n1 : Int) by omega]; exact wrap_nat n1 (by omega)
  obtain ⟨cur, hcs, hmk⟩ := makeP (l.length + m.length) hb
  have hmk' : ∀ W : World, (Instr.makeSlice 28 (.int .i64 0) (.int .i64 ((l.length : Int) + (m.length : Int)))).run Try.prog W = .ok (.slice (some ⟨W.heap.size, 0, none⟩) 0 (l.length + m.length)) (W.alloc (.cells cur 43)) := fun W => by have := hmk W; rwa [Int.natCast_add] at this
  have Hcs := hide hcs
  have HN := hide hn1
  unfold Joined
  subst hq'
  clear h hs hst hsm c0 c1 d0 d1 hx hy hn1 hmk hcs hq
  go_enter Try.func38, Try.ntmps38
  go_wp2
  refine wp_region_quiet_below (by assumption) (by kernel_rfl) ?_
  repeat (go_big_quiet_step (first | (go_at_fn 43; refine Calls.regrown_of (hc _))))
  refine wpQuiet_nil ?_
  intro w1 hw'
  obtain ⟨⟨dq, osq⟩, hw''⟩ := hw'
  have b1 := below_regrown w dq osq
  dsimp only at hw''
  rw [← hw''] at b1
  have HB1 := hide b1
  have hsz := b1.size
  clear hw'' b1 r0 r1 s0 s1 hw hc
  go_wp2
  obtain ⟨w2, hw2⟩ : ∃ w2, w2 = w1.alloc (.cells cur 43) := ⟨_, rfl⟩
  have HO2 := hide (show OwnK encP 43 2 w.heap.size w2 (some ⟨w1.heap.size, 0, none⟩) (l.length + m.length) [] by rw [hw2]; exact ownP_made hsz (by unfold maxLen; omega) (unhide Hcs))
  have HB2 := hide (show Below w.heap.size w w2 by rw [hw2]; exact (unhide HB1).alloc hsz _)
  rw [← hw2]
  clear hw2 hmk'
  go_loopw [0, 5, 41] (fun s0 s5 s41 wr => ∃ (i k r o co : Nat) (al : List Pt) (qa : Option Addr) (ca : Nat), i ≤ m.length ∧ s41 = .int .i64 i ∧ s5 = .slice qa al.length ca ∧ s0 = .slice (some ⟨g, o, none⟩) r co ∧ Rest wr g o r co (l.drop k) ∧ OwnK encP 43 2 w.heap.size wr qa ca al ∧ Below w.heap.size w wr ∧ Str (al ++ l.drop k) ∧ (∀ x, x ∈ al ++ l.drop k ↔ x ∈ l ∨ x ∈ m.take i) ∧ ∀ x ∈ al, ∀ y ∈ m.drop i, ltP x y) (fun _ _ s41 _ => m.length - (intOf s41).toNat)
  case atStart => exact ⟨0, 0, l.length, 0, cap, [], some ⟨w1.heap.size, 0, none⟩, l.length + m.length, Nat.zero_le _, rfl, rfl, rfl, (unhide HR).below hgw (unhide HB2), unhide HO2, unhide HB2, unhide HST, fun x => by simp, fun x hx => by cases hx⟩
  case round =>
    obtain ⟨i, k, r, o, co, al, qa, ca, hi, rfl, rfl, rfl, hR, hO, hBw, j1, j2, j3⟩ := hrel
    have hszr := hBw.size
    have hlen := join_len j1 j2 hi
    have hdl := hR.1
    rw [hdl] at hlen
    have hrc := hR.2.1
    have HRr := hide hR
    have HOr := hide hO
    have HBr := hide hBw
    have HJ1 := hide j1
    have HJ2 := hide j2
    have HJ3 := hide j3
    have HDL := hide hdl
    by_cases hlt : i < m.length
    · obtain ⟨p', hp, _⟩ := get_at (l := m) (k := i) hlt
      obtain ⟨bp, op, hq', hbp, a0, a1⟩ := postAt ((unhide HS).below hBw) hp
      obtain ⟨rfl, rfl⟩ : b' = bp ∧ off' = op := by injection hq' with hq'; injection hq' with h1 h2 _; exact ⟨h1, h2⟩
      have ki0 : (0 : Int) ≤ (i : Int) := by omega
      have ki1 : (i : Int) < (m.length : Int) := by omega
      obtain ⟨W1, hW1⟩ : ∃ W1, W1 = wr.alloc (.cells #[.int .i64 p'.1, .bool p'.2] 43) := ⟨_, rfl⟩
      have hb1 : Below wr.heap.size wr W1 := by rw [hW1]; exact (Below.refl _ _).alloc (Nat.le_refl _) _
      have hblk : W1.heap[wr.heap.size]? = some (.cells #[.int .i64 p'.1, .bool p'.2] 43 (0, 0)) := by rw [hW1]; exact World.alloc_heap_new wr _
      obtain ⟨X0, X1⟩ := cells_of_block hblk
      have hsr := searchP (some ⟨g, o, none⟩) co (l.drop k) p' W1 ((hR.sl (by omega)).below hb1) (by rw [hdl]; omega) (str_drop (unhide HST) k)
      rw [hdl] at hsr
      have hple := cnt_le (ltQ p') (l.drop k)
      rw [hdl] at hple
      obtain ⟨pl, hpl⟩ : ∃ pl, cnt (ltQ p') (l.drop k) = pl := ⟨_, rfl⟩
      obtain ⟨f, hf⟩ : ∃ f, decide (p' ∈ l.drop k) = f := ⟨_, rfl⟩
      rw [hpl] at hsr hple
      rw [hf] at hsr
      have hplr : pl ≤ r := hple
      have HP := hide hp
      have HPL := hide hpl
      have HF := hide hf
      have HB1r := hide hb1
      have HBX := hide hblk
      have HNE : Hid (some wr.heap.size ≠ qa.map (·.block)) := hide (fun e => by
        have := hO.lt (qa.map (·.block)).get! (by rw [own_block]; cases qa <;> simp at e ⊢)
        cases qa with
        | none => simp at e
        | some a => simp at e this; omega)
      rw [hW1] at hsr X0 X1 HBX HB1r
      have p0 : (0 : Int) ≤ (pl : Int) := by omega
      have p1 : (pl : Int) ≤ (co : Int) := by omega
      have p2 : (pl : Int) ≤ (r : Int) := by omega
      have p3 : (r : Int) ≤ (co : Int) := by omega
      clear hW1 hple a0 a1
      have a0 := ((unhide HS).below (unhide HBr))
      obtain ⟨bp2, op2, hq2, _, a0, a1⟩ := postAt a0 (unhide HP)
      obtain ⟨rfl, rfl⟩ : b' = bp2 ∧ off' = op2 := by injection hq2 with hq2; injection hq2 with h1 h2 _; exact ⟨h1, h2⟩
      clear hq2 hq'
      by_cases hcp : co = pl
      · subst hcp
        cases f with
        | true =>
          have HST2 := hide (join_step (unhide HSM) (unhide HP) (unhide HJ1) (unhide HJ2) (unhide HJ3) (unhide HPL) (unhide HF) (al' := al ++ (l.drop k).take co) (by rw [if_pos rfl, List.append_nil]))
          have HRN := hide (fun (W : World) (hbW : Below wr.heap.size wr W) => ((((unhide HRr).from hplr).end_ (o' := o) (by omega)).below (by omega) hbW))
          rw [List.drop_drop, Nat.sub_self, show r - co = 0 by omega] at HRN
          clear hR hO hBw j1 j2 j3 hdl hp hb1 hblk hpl hf
          go_wp2_with (first
            | (go_at_call 42; refine hsr.mono ?_; rintro e w3 ⟨rfl, hb3⟩; have x0 := (hb3.cell (p := ⟨wr.heap.size, 0, none⟩) (by simp)).trans X0; have x1 := (hb3.cell (p := ⟨wr.heap.size, 1, none⟩) (by simp)).trans X1; have HB3 := hide (below_sub (unhide HB1r) hb3); have hsz3 : wr.heap.size < w3.heap.size := (by have := hb3.size; simp at this; omega); have hbx3 := hide ((hb3.block wr.heap.size (by simp)).trans (unhide HBX)); clear hb3)
            | (at_builtin; refine wpList_appK rfl _ _ rfl w.heap.size qa ca al (some ⟨g, o, none⟩) co ((l.drop k).take co) al.length co (al.length + co) rfl (by rw [List.length_take, unhide HDL, Nat.min_eq_left hplr]) rfl rfl rfl ((unhide HOr).below (unhide HB3)) ((((unhide HRr).take hplr).below (by omega) (unhide HB3)).sl (by omega)).src (by unfold maxLen; omega) (by omega) (by omega) ?_; intro q4 cap4 w4 ho4 hb4 hs4; have HO4 := hide ho4; have HB4 := hide hb4; have hsz4 := hs4.1.size; have hbx4 := hide ((hs4.1.block wr.heap.size (by omega) (unhide HNE)).trans (unhide hbx3)); obtain ⟨y0, y1⟩ := cells_of_block (unhide hbx4); clear ho4 hb4 hs4))
          go_roundw
          case rel => exact ⟨i + 1, k + co, 0, o, 0, al ++ (l.drop k).take co, q4, cap4, by omega, by go_num, by rw [List.length_append, List.length_take, unhide HDL, Nat.min_eq_left hplr], rfl, (unhide HRN w3 (unhide HB3)).belowA (by omega) (unhide HB4), unhide HO4, ((unhide HBr).trans ((unhide HB3).mono hszr)).trans (unhide HB4), (unhide HST2).1, (unhide HST2).2.1, (unhide HST2).2.2⟩
          case measure => simp [intOf]; omega
        | false =>
          have HST2 := hide (join_step (unhide HSM) (unhide HP) (unhide HJ1) (unhide HJ2) (unhide HJ3) (unhide HPL) (unhide HF) (al' := al ++ (l.drop k).take co ++ [p']) (by rw [if_neg (by decide)]))
          have HRN := hide (fun (W : World) (hbW : Below wr.heap.size wr W) => ((((unhide HRr).from hplr).end_ (o' := o) (by omega)).below (by omega) hbW))
          rw [List.drop_drop, Nat.sub_self, show r - co = 0 by omega] at HRN
          clear hR hO hBw j1 j2 j3 hdl hp hb1 hblk hpl hf
          go_wp2_with (first
            | (go_at_call 42; refine hsr.mono ?_; rintro e w3 ⟨rfl, hb3⟩; have x0 := (hb3.cell (p := ⟨wr.heap.size, 0, none⟩) (by simp)).trans X0; have x1 := (hb3.cell (p := ⟨wr.heap.size, 1, none⟩) (by simp)).trans X1; have HB3 := hide (below_sub (unhide HB1r) hb3); have hsz3 : wr.heap.size < w3.heap.size := (by have := hb3.size; simp at this; omega); have hbx3 := hide ((hb3.block wr.heap.size (by simp)).trans (unhide HBX)); clear hb3)
            | (at_builtin; refine wpList_appK rfl _ _ rfl w.heap.size q4 cap4 (al ++ (l.drop k).take co) (some ⟨w4.heap.size, 0, none⟩) 1 [p'] (al.length + co) 1 (al.length + co + 1) (by rw [List.length_append, List.length_take, unhide HDL, Nat.min_eq_left hplr]) rfl rfl rfl rfl ((unhide HO4).below ((Below.refl _ _).alloc (Nat.le_refl _) _)) (srcP (World.alloc_heap_new w4 _)) (by unfold maxLen; omega) (by omega) (by simp; omega) ?_; intro q5 cap5 w5 ho5 hb5 _; have HO5 := hide ho5; have HB5 := hide hb5; clear ho5 hb5)
            | (at_builtin; refine wpList_appK rfl _ _ rfl w.heap.size qa ca al (some ⟨g, o, none⟩) co ((l.drop k).take co) al.length co (al.length + co) rfl (by rw [List.length_take, unhide HDL, Nat.min_eq_left hplr]) rfl rfl rfl ((unhide HOr).below (unhide HB3)) ((((unhide HRr).take hplr).below (by omega) (unhide HB3)).sl (by omega)).src (by unfold maxLen; omega) (by omega) (by omega) ?_; intro q4 cap4 w4 ho4 hb4 hs4; have HO4 := hide ho4; have HB4 := hide hb4; have hsz4 := hs4.1.size; have hbx4 := hide ((hs4.1.block wr.heap.size (by omega) (unhide HNE)).trans (unhide hbx3)); obtain ⟨y0, y1⟩ := cells_of_block (unhide hbx4); clear ho4 hb4 hs4))
          go_roundw
          case rel => exact ⟨i + 1, k + co, 0, o, 0, al ++ (l.drop k).take co ++ [p'], q5, cap5, by omega, by go_num, by rw [List.length_append, List.length_append, List.length_take, unhide HDL, Nat.min_eq_left hplr]; rfl, rfl, ((unhide HRN w3 (unhide HB3)).belowA (by omega) (unhide HB4)).belowA (by omega) (((Below.refl _ _).alloc (by omega) _).trans (unhide HB5)), unhide HO5, (((unhide HBr).trans ((unhide HB3).mono hszr)).trans (unhide HB4)).trans (((Below.refl _ _).alloc (by omega) _).trans (unhide HB5)), (unhide HST2).1, (unhide HST2).2.1, (unhide HST2).2.2⟩
          case measure => simp [intOf]; omega
      · cases f with
        | true =>
          have HST2 := hide (join_step (unhide HSM) (unhide HP) (unhide HJ1) (unhide HJ2) (unhide HJ3) (unhide HPL) (unhide HF) (al' := al ++ (l.drop k).take pl) (by rw [if_pos rfl, List.append_nil]))
          have HRN := hide (fun (W : World) (hbW : Below wr.heap.size wr W) => (((unhide HRr).from hplr).below (by omega) hbW))
          rw [List.drop_drop] at HRN
          clear hR hO hBw j1 j2 j3 hdl hp hb1 hblk hpl hf
          go_wp2_with (first
            | (go_at_call 42; refine hsr.mono ?_; rintro e w3 ⟨rfl, hb3⟩; have x0 := (hb3.cell (p := ⟨wr.heap.size, 0, none⟩) (by simp)).trans X0; have x1 := (hb3.cell (p := ⟨wr.heap.size, 1, none⟩) (by simp)).trans X1; have HB3 := hide (below_sub (unhide HB1r) hb3); have hsz3 : wr.heap.size < w3.heap.size := (by have := hb3.size; simp at this; omega); have hbx3 := hide ((hb3.block wr.heap.size (by simp)).trans (unhide HBX)); clear hb3)
            | (at_builtin; refine wpList_appK rfl _ _ rfl w.heap.size qa ca al (some ⟨g, o, none⟩) co ((l.drop k).take pl) al.length pl (al.length + pl) rfl (by rw [List.length_take, unhide HDL, Nat.min_eq_left hplr]) rfl rfl rfl ((unhide HOr).below (unhide HB3)) ((((unhide HRr).take hplr).below (by omega) (unhide HB3)).sl (by omega)).src (by unfold maxLen; omega) (by omega) (by omega) ?_; intro q4 cap4 w4 ho4 hb4 hs4; have HO4 := hide ho4; have HB4 := hide hb4; have hsz4 := hs4.1.size; have hbx4 := hide ((hs4.1.block wr.heap.size (by omega) (unhide HNE)).trans (unhide hbx3)); obtain ⟨y0, y1⟩ := cells_of_block (unhide hbx4); clear ho4 hb4 hs4))
          go_roundw
          case rel => exact ⟨i + 1, k + pl, r - pl, (o + pl * 2), co - pl, al ++ (l.drop k).take pl, q4, cap4, by omega, by go_num, by rw [List.length_append, List.length_take, unhide HDL, Nat.min_eq_left hplr], rfl, (unhide HRN w3 (unhide HB3)).belowA (by omega) (unhide HB4), unhide HO4, ((unhide HBr).trans ((unhide HB3).mono hszr)).trans (unhide HB4), (unhide HST2).1, (unhide HST2).2.1, (unhide HST2).2.2⟩
          case measure => simp [intOf]; omega
        | false =>
          have HST2 := hide (join_step (unhide HSM) (unhide HP) (unhide HJ1) (unhide HJ2) (unhide HJ3) (unhide HPL) (unhide HF) (al' := al ++ (l.drop k).take pl ++ [p']) (by rw [if_neg (by decide)]))
          have HRN := hide (fun (W : World) (hbW : Below wr.heap.size wr W) => (((unhide HRr).from hplr).below (by omega) hbW))
          rw [List.drop_drop] at HRN
          clear hR hO hBw j1 j2 j3 hdl hp hb1 hblk hpl hf
          go_wp2_with (first
            | (go_at_call 42; refine hsr.mono ?_; rintro e w3 ⟨rfl, hb3⟩; have x0 := (hb3.cell (p := ⟨wr.heap.size, 0, none⟩) (by simp)).trans X0; have x1 := (hb3.cell (p := ⟨wr.heap.size, 1, none⟩) (by simp)).trans X1; have HB3 := hide (below_sub (unhide HB1r) hb3); have hsz3 : wr.heap.size < w3.heap.size := (by have := hb3.size; simp at this; omega); have hbx3 := hide ((hb3.block wr.heap.size (by simp)).trans (unhide HBX)); clear hb3)
            | (at_builtin; refine wpList_appK rfl _ _ rfl w.heap.size q4 cap4 (al ++ (l.drop k).take pl) (some ⟨w4.heap.size, 0, none⟩) 1 [p'] (al.length + pl) 1 (al.length + pl + 1) (by rw [List.length_append, List.length_take, unhide HDL, Nat.min_eq_left hplr]) rfl rfl rfl rfl ((unhide HO4).below ((Below.refl _ _).alloc (Nat.le_refl _) _)) (srcP (World.alloc_heap_new w4 _)) (by unfold maxLen; omega) (by omega) (by simp; omega) ?_; intro q5 cap5 w5 ho5 hb5 _; have HO5 := hide ho5; have HB5 := hide hb5; clear ho5 hb5)
            | (at_builtin; refine wpList_appK rfl _ _ rfl w.heap.size qa ca al (some ⟨g, o, none⟩) co ((l.drop k).take pl) al.length pl (al.length + pl) rfl (by rw [List.length_take, unhide HDL, Nat.min_eq_left hplr]) rfl rfl rfl ((unhide HOr).below (unhide HB3)) ((((unhide HRr).take hplr).below (by omega) (unhide HB3)).sl (by omega)).src (by unfold maxLen; omega) (by omega) (by omega) ?_; intro q4 cap4 w4 ho4 hb4 hs4; have HO4 := hide ho4; have HB4 := hide hb4; have hsz4 := hs4.1.size; have hbx4 := hide ((hs4.1.block wr.heap.size (by omega) (unhide HNE)).trans (unhide hbx3)); obtain ⟨y0, y1⟩ := cells_of_block (unhide hbx4); clear ho4 hb4 hs4))
          go_roundw
          case rel => exact ⟨i + 1, k + pl, r - pl, (o + pl * 2), co - pl, al ++ (l.drop k).take pl ++ [p'], q5, cap5, by omega, by go_num, by rw [List.length_append, List.length_append, List.length_take, unhide HDL, Nat.min_eq_left hplr]; rfl, rfl, ((unhide HRN w3 (unhide HB3)).belowA (by omega) (unhide HB4)).belowA (by omega) (((Below.refl _ _).alloc (by omega) _).trans (unhide HB5)), unhide HO5, (((unhide HBr).trans ((unhide HB3).mono hszr)).trans (unhide HB4)).trans (((Below.refl _ _).alloc (by omega) _).trans (unhide HB5)), (unhide HST2).1, (unhide HST2).2.1, (unhide HST2).2.2⟩
          case measure => simp [intOf]; omega
    · obtain rfl : i = m.length := by omega
      have ki1 : ¬ (m.length : Int) < (m.length : Int) := by omega
      have e1 : ris (l ++ m) = al ++ l.drop k := ris_of j1 fun x => by rw [j2, List.mem_append, List.take_length]
      have HE := hide e1
      have hle : (ris (l ++ m)).length = al.length + r := by rw [e1, List.length_append, hdl]
      have HLE := hide hle
      clear hR hO hBw j1 j2 j3 e1 hdl hle
      go_wp2_with (at_builtin; refine wpList_appK rfl _ _ rfl w.heap.size qa ca al (some ⟨g, o, none⟩) co (l.drop k) al.length r (al.length + r) rfl (unhide HDL) rfl rfl rfl (unhide HOr) ((unhide HRr).sl (by omega)).src (by unfold maxLen; omega) (by omega) (by omega) ?_; intro q2 cap2 w2 ho2 hb2 hs2; have HO3 := hide ho2; have HB3 := hide hb2; clear ho2 hb2 hs2)
      go_ret
      refine ⟨q2, cap2, by rw [unhide HLE]; rfl, ?_, ((unhide HBr).trans (unhide HB3)).mono hB, stays_new ((unhide HBr).trans (unhide HB3)) ?_⟩
      · rw [unhide HE]; exact (unhide HO3).mono hB
      · rcases (unhide HO3).2 with ⟨h5, _⟩ | ⟨g', _, _, hv', hg', _⟩
        · injection h5 with h5; exact Or.inl h5
        · injection hv' with h5; exact Or.inr ⟨g', h5, hg'⟩
end Go.Proofs.Ytelgpmjafaopmaa

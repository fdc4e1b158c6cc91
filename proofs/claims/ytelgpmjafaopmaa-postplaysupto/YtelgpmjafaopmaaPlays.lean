/- The law PostPlays returns true at every script of bounded size. -/
import Derived.Test.YtelgpmjafaopmaaDoAny
import Derived.Test.YtelgpmjafaopmaaOps0
namespace Go.Proofs.Ytelgpmjafaopmaa
open Go.RowKit Go.Sort Go.Shelf

theorem grown_refl (w : World) (o : Option Nat) : w.grownBy w o := ⟨rfl, rfl, rfl, Nat.le_refl _, fun _ _ _ => rfl⟩
theorem merge_ris (x y z : Nat) (a b : List Pt) : ris (allOf [(x, a), (y, b), (z, a)]) = ris (a ++ b) := by
  refine ris_of (str_ris _) fun t => ?_
  rw [mem_ris]
  by_cases h1 : t ∈ a <;> by_cases h2 : t ∈ b <;> simp [allOf, h1, h2]
theorem Wd.init {B : Nat} {W : World} {G L0 L1 C R : Nat} {q0 q1 : Option Addr} {c0 c1 : Nat} (h0 : Lst W B L0 q0 c0 []) (h1 : Lst W B L1 q1 c1 []) (l0 : B ≤ L0) (l1 : B ≤ L1) (ne : L0 ≠ L1) (hq : Sep q0 q1) (hC : B ≤ C) (hR : B ≤ R) (hc : Cur W C q0 0 c0 0) (hr : RCur W R none 0 0 0)
    (hblk : W.heap[G]? = some (.cells #[.pointer (some ⟨L0, 0, none⟩), .pointer (some ⟨L1, 0, none⟩), .slice none 0 0, .slice none 0 0, .pointer (some ⟨C, 0, none⟩), .pointer (some ⟨R, 0, none⟩), .bool false] 33 (0, 0))) (hG : B ≤ G) :
    ∃ s : St, Wd B W G s ∧ s.m = s.l ∧ s.kr = s.kc ∧ (∀ b, s.l b = []) ∧ s.lc = [] := by
  refine ⟨⟨fun b => bif b then L1 else L0, fun _ => [], fun _ => [], fun b => bif b then q1 else q0, fun b => bif b then c1 else c0, fun _ => none, fun _ => 0, C, R, [], 0, 0, q0, c0, none, 0⟩, ?_, rfl, rfl, fun _ => rfl, rfl⟩
  exact {
    lst := fun b => by cases b; exact h0; exact h1
    lowL := fun b => by cases b; exact l0; exact l1
    lowC := hC
    lowR := hR
    str := fun _ => List.Pairwise.nil
    ne := ne
    ref := fun _ => SlOf.none _
    cur := hc
    curl := h0.2.ls
    curb := h0.2.base
    curs := List.Pairwise.nil
    kcl := Nat.le_refl _
    krl := Nat.le_refl _
    rc := hr
    rcl := SlOf.none _
    qq := hq
    qp := fun _ _ a a1 e => by cases e
    qr := fun _ a a1 e => by cases e
    pre := fun b => by
      cases b
      · exact Or.inl ⟨rfl, List.prefix_refl _⟩
      · exact Or.inr hq
    plt := fun _ a e => by cases e
    rlt := fun a e => by cases e
    clt := fun a e => own_lt h0.2 a e
    blk := hblk
    lowG := hG }
theorem lsts_of {B : Nat} {W : World} {G X : Nat} {s : St} (hk : W.heap[X]? = some (.cells #[.pointer (some ⟨s.L false, 0, none⟩), .pointer (some ⟨s.L true, 0, none⟩), .pointer (some ⟨s.L false, 0, none⟩)] 25 (0, 0))) (h : Wd B W G s) :
    Lsts W (some ⟨X, 0, none⟩) [(s.L false, s.l false), (s.L true, s.l true), (s.L false, s.l false)] := fun j x hj => by
  have hX := (Array.getElem?_eq_some_iff.1 hk).1
  have key : ∀ b, ∃ ql capl, s.L b < W.heap.size ∧ W.cell? ⟨s.L b, 0, none⟩ = some (.slice ql (s.l b).length capl) ∧ SlOf encP 2 W ql capl (s.l b) := fun b =>
    ⟨s.q b, s.cap b, (h.lst b).lt, (h.lst b).cell, (h.lst b).2.ls⟩
  have cl : ∀ o, W.cell? ⟨X, o, none⟩ = (#[.pointer (some ⟨s.L false, 0, none⟩), .pointer (some ⟨s.L true, 0, none⟩), .pointer (some ⟨s.L false, 0, none⟩)] : Array Value)[o]? := fun o => cell_of_row _ _ _ _ 25 (0, 0) hk
  match j, hj with
  | 0, hj => cases hj; exact ⟨X, 0, rfl, hX, cl 0, key false⟩
  | 1, hj => cases hj; exact ⟨X, 0, rfl, hX, cl 1, key true⟩
  | 2, hj => cases hj; exact ⟨X, 0, rfl, hX, cl 2, key false⟩
  | n + 3, hj => simp at hj
set_option maxHeartbeats 8000000 in
set_option maxRecDepth 100000 in
theorem postPlays_any (q : Option Addr) (c : Nat) (os : List Od) (w : World) (h : OpsOf w q c os) (hw : odsW os ≤ 1048576) :
    Calls Try.prog 3 #[.slice q os.length c] w fun e w' => e = .returned (.bool true) ∧ Below w.heap.size w w' := by
  have mixed : Try.prog.follows .mixedOrders = true := by kernel_rfl
  have e12 : ∀ args w, (callFunc 12 args).run Try.prog w = .ok (.enter 12 args) w := enters_of Try.func12 (by kernel_rfl) rfl
  have e13 : ∀ args w, (callFunc 13 args).run Try.prog w = .ok (.enter 13 args) w := enters_of Try.func13 (by kernel_rfl) rfl
  obtain ⟨B, hBw0⟩ : ∃ B, B = w.heap.size := ⟨_, rfl⟩
  have hBw : B ≤ w.heap.size := by omega
  have hlen := ods_len os
  have a0 : (os.length : Int) ≤ 1048576 := by omega
  have HO := hide h
  clear h
  go_enter Try.func3, Try.ntmps3
  go_wp2_with (first
    | (go_at_call 7; refine (fixed_any w).mono ?_; rintro e w1 ⟨rfl, hb1⟩; have HB1 := hide hb1; have hs1 := hb1.size; clear hb1)
    | (go_at_call 8; have tst := unhide HL0; clear tst; refine (newL none 0 [] (by decide) w2 (SlOf.none _)).mono ?_; rintro e w3 ⟨⟨L1, q1, c1, rfl, hL1, hl1⟩, hb3⟩; rw [show ris [] = [] from rfl] at hl1; have HL1 := hide hl1; have HB3 := hide ((unhide HB2).trans (hb3.mono (unhide HB2).size)); have H23 := hide hb3; have hs3 := hb3.size; clear hl1 hb3; obtain ⟨Z1, HZ1⟩ : ∃ Z1, w3.alloc (.cells #[.pointer (some ⟨L0, 0, none⟩), .pointer (some ⟨L1, 0, none⟩), .slice none 0 0, .slice none 0 0, .pointer none, .pointer none, .bool false] 33) = Z1 := ⟨_, rfl⟩; have hk1 : Z1.heap[w3.heap.size]? = some (.cells #[.pointer (some ⟨L0, 0, none⟩), .pointer (some ⟨L1, 0, none⟩), .slice none 0 0, .slice none 0 0, .pointer none, .pointer none, .bool false] 33 (0, 0)) := (by rw [← HZ1]; exact World.alloc_heap_new w3 _); have h3Z : Below w3.heap.size w3 Z1 := (by rw [← HZ1]; exact (Below.refl _ _).alloc (Nat.le_refl _) _); have hsZ1 : Z1.heap.size = w3.heap.size + 1 := (by rw [← HZ1]; simp); have z0 : Z1.cell? ⟨w3.heap.size, 0, none⟩ = some (.pointer (some ⟨L0, 0, none⟩)) := (by rw [cell_of_row _ _ _ _ 33 (0, 0) hk1]; rfl); have z1 : Z1.cell? ⟨w3.heap.size, 1, none⟩ = some (.pointer (some ⟨L1, 0, none⟩)) := (by rw [cell_of_row _ _ _ _ 33 (0, 0) hk1]; rfl); have HK1 := hide hk1; have H3Z := hide h3Z; clear hk1 h3Z)
    | (go_at_call 8; refine (newL none 0 [] (by decide) w1 (SlOf.none _)).mono ?_; rintro e w2 ⟨⟨L0, q0, c0, rfl, hL0, hl0⟩, hb2⟩; rw [show ris [] = [] from rfl] at hl0; have HL0 := hide hl0; have HB2 := hide ((unhide HB1).trans (hb2.mono (unhide HB1).size)); have hs2 := hb2.size; clear hl0 hb2)
    | (go_at_call 9; refine (cursorL w1.heap.size L0 q0 c0 [] Z1 (((unhide HL0).below (unhide H23)).below (unhide H3Z))).mono ?_; rintro e w4 ⟨⟨C, rfl, hC, hcur⟩, hb4⟩; have hC' : C = w3.heap.size + 1 := (by omega); clear hC; subst hC'; have hs4 := hb4.size; have HSZ1 := hide hsZ1; clear hsZ1; have HCU := hide hcur; have H4 := hide hb4; clear hcur hb4; obtain ⟨Z2, HZ2⟩ : ∃ Z2, w4.alloc (.cells #[.slice none 0 0, .int .i64 0] 36) = Z2 := ⟨_, rfl⟩; have h4Z : Below w4.heap.size w4 Z2 := (by rw [← HZ2]; exact (Below.refl _ _).alloc (Nat.le_refl _) _); have hkr : Z2.heap[w4.heap.size]? = some (.cells #[.slice none 0 0, .int .i64 0] 36 (0, 0)) := (by rw [← HZ2]; exact World.alloc_heap_new w4 _); have hsZ2 : Z2.heap.size = w4.heap.size + 1 := (by rw [← HZ2]; simp); have hk2 : Z2.heap[w3.heap.size]? = some (.cells #[.pointer (some ⟨L0, 0, none⟩), .pointer (some ⟨L1, 0, none⟩), .slice none 0 0, .slice none 0 0, .pointer none, .pointer none, .bool false] 33 (0, 0)) := (((unhide H4).trans (h4Z.mono hs4)).block _ (by have := unhide HSZ1; omega)).trans (unhide HK1); have x4 : Z2.cell? ⟨w3.heap.size, 4, none⟩ = some (.pointer none) := (by rw [cell_of_row _ _ _ _ 33 (0, 0) hk2]; rfl); have x5 : Z2.cell? ⟨w3.heap.size, 5, none⟩ = some (.pointer none) := (by rw [cell_of_row _ _ _ _ 33 (0, 0) hk2]; rfl); have f4 : Z2.frozen? ⟨w3.heap.size, 4, none⟩ = false := frozen_free hk2; have f5 : Z2.frozen? ⟨w3.heap.size, 5, none⟩ = false := frozen_free hk2; have HK2 := hide hk2; have HKR := hide hkr; have H4Z := hide h4Z; clear hk2 hkr h4Z))
  have hx : ∃ U0, U0 = (Z2.setCell ⟨w3.heap.size, 4, none⟩ (.pointer (some ⟨w3.heap.size + 1, 0, none⟩))).setCell ⟨w3.heap.size, 5, none⟩ (.pointer (some ⟨w4.heap.size, 0, none⟩)) := ⟨_, rfl⟩
  obtain ⟨U0, hU0⟩ := hx
  have hsZ1 := unhide HSZ1
  have hUx : ∀ X, X ≠ w3.heap.size → U0.heap[X]? = Z2.heap[X]? := fun X hX => by
    rw [hU0]; exact (Below.heap_setCell _ _ _ _ (by exact hX)).trans (Below.heap_setCell _ _ _ _ (by exact hX))
  have H2Z := hide ((unhide H23).trans (((unhide H3Z).trans (((unhide H4).trans ((unhide H4Z).mono hs4)).mono (by omega))).mono hs3))
  have H3Z2 := hide ((unhide H3Z).trans (((unhide H4).trans ((unhide H4Z).mono hs4)).mono (by omega)))
  have hlt0 := (unhide HL0).lt
  have hlt1 := (unhide HL1).lt
  have hinit := Wd.init (B := B) (W := U0) (G := w3.heap.size) (L0 := L0) (L1 := L1) (C := w3.heap.size + 1) (R := w4.heap.size) (q0 := q0) (q1 := q1) (c0 := c0) (c1 := c1)
    ⟨(hUx L0 (by omega)).trans ((unhide HL0).below (unhide H2Z)).1, (((unhide HL0).below (unhide H2Z)).2.mono (by omega)).keepBlk fun a e => hUx _ (by have := own_lt (unhide HL0).2 a e; omega)⟩
    ⟨(hUx L1 (by omega)).trans ((unhide HL1).below (unhide H3Z2)).1, (((unhide HL1).below (unhide H3Z2)).2.mono (by omega)).keepBlk fun a e => hUx _ (by have := own_lt (unhide HL1).2 a e; omega)⟩
    (by omega) (by omega) (by omega) (fun a a1 e e1 => by
      have h1 := own_lt (unhide HL0).2 a e
      have h2 := (World.ownsRow.lt (unhide HL1).2 a1.block (by rw [own_block, e1]; rfl)).1
      omega) (by omega) (by omega) ((hUx _ (by omega)).trans ((unhide HCU).below (unhide H4Z))) ((hUx _ (by omega)).trans (unhide HKR))
    (by rw [hU0, heap_setCell_same _ _ 5 _ 33 _ (heap_setCell_same _ _ 4 _ 33 _ (unhide HK2))]; simp) (by omega)
  obtain ⟨s0, hs0, hs0m, hs0k, hs0l, hs0c⟩ := hinit
  have HBU0 := hide (show Below B w U0 by
    rw [hU0]
    exact (((unhide HB3).mono hBw).trans (((unhide H3Z2)).mono (by omega))).setCell (p := ⟨w3.heap.size, 4, none⟩) (by show B ≤ w3.heap.size; omega) _ |>.setCell (p := ⟨w3.heap.size, 5, none⟩) (by show B ≤ w3.heap.size; omega) _)
  have HS0 := hide hs0
  rw [← hU0]
  obtain ⟨G, hGe⟩ : ∃ G, w3.heap.size = G := ⟨_, rfl⟩
  rw [hGe] at HS0
  try rw [hGe]
  have hS0l : ∀ b, (s0.l b).length ≤ psN os 0 := fun b => by rw [hs0l b]; simp
  have hS0c : s0.lc.length ≤ psN os 0 := by rw [hs0c]; simp
  clear HKR HK2 HK1 H4Z H4 HCU HL0 HL1 H2Z H3Z2 H3Z H23 HB2 HB3 HB1 hUx hs0 hU0 x4 x5 f4 f5 z0 z1 HZ1 HZ2
  go_loopw [54] (fun i wr => ∃ (k : Nat) (s : St), k ≤ os.length ∧ i = .int .i64 k ∧ Wd B wr G s ∧ s.m = s.l ∧ s.kr = s.kc ∧ (∀ b, (s.l b).length ≤ psN os k) ∧ s.lc.length ≤ psN os k ∧ Below B w wr) (fun i _ => os.length - (intOf i).toNat)
  case atStart => exact ⟨0, s0, by omega, rfl, unhide HS0, hs0m, hs0k, hS0l, hS0c, unhide HBU0⟩
  case round =>
    clear HS0 hs0m hs0k hS0l hS0c HBU0 hs0l hs0c
    obtain ⟨k, s, hk, rfl, hwd, hm, hkk, hl0, hlc0, hbel⟩ := hrel
    obtain ⟨V, rfl⟩ : ∃ V, V = wr := ⟨_, rfl⟩
    have hpk := psN_le os k
    have hBV : B ≤ V.heap.size := Nat.le_trans hBw hbel.size
    by_cases hlt : k < os.length
    · obtain ⟨o, ho, hod⟩ := get_at hlt
      clear hod
      obtain ⟨b, off, v, hq, hin, g0, g1, g2, g3, g4⟩ := (unhide HO).at ho hBw0 hbel
      subst hq
      obtain ⟨vk, vs, pp, np, cp, pi, ni, ci, vid⟩ := v
      obtain ⟨e1, e2, e3, e4, e5, s6, s7⟩ := hin
      simp only at e1 e2 e3 e4 e5 s6 s7 g0 g1 g2 g3 g4
      subst e1 e2 e3 e4 e5
      have hsn := psN_snoc ho
      have hpk1 := psN_le os (k + 1)
      have how := odW_mem (List.mem_of_getElem? ho)
      unfold odW at how
      have ki0 : (0 : Int) ≤ (k : Int) := by omega
      have ki1 : (k : Int) < (os.length : Int) := by omega
      obtain ⟨Q, HQ⟩ : ∃ Q, V.alloc (.cells #[.int .i64 o.kind, .bool o.sec, .slice pp o.ps.length cp, .slice pi o.is.length ci, .int .i64 o.id] 39) = Q := ⟨_, rfl⟩
      have hVQ : Below V.heap.size V Q := by rw [← HQ]; exact (Below.refl _ _).alloc (Nat.le_refl _) _
      have hkq : Q.heap[V.heap.size]? = some (.cells #[.int .i64 o.kind, .bool o.sec, .slice pp o.ps.length cp, .slice pi o.is.length ci, .int .i64 o.id] 39 (0, 0)) := by rw [← HQ]; exact World.alloc_heap_new V _
      obtain ⟨p0, p1, p2, p3, p4⟩ := op_cells hkq
      have hBQ : Below B w Q := hbel.trans (hVQ.mono hBV)
      have hdo := do_any B G s Q (hwd.below hVQ) o.kind o.sec pp cp o.ps pi ci o.is o.id (fun W hW => s6.below (by rw [← hBw0]; exact hBQ.trans hW)) (fun W hW => s7.below (by rw [← hBw0]; exact hBQ.trans hW)) hm hkk (Nat.le_trans hBw hBQ.size) (by omega) (by omega) (by omega) (fun b => by have := hl0 b; omega)
      unfold opV at hdo
      have HBQ := hide hBQ
      have HL0' := hide hl0
      have HLC := hide hlc0
      have HSN := hide hsn
      clear hwd hbel hVQ hkq hBQ s6 s7 ho hl0 hlc0 hsn hm hkk
      go_wp2_with (go_at_call 10; refine hdo.mono ?_; rintro e wD ⟨rfl, s', hwd', hm', hk', hbD, hgr⟩; have HWD := hide hwd'; have HBD := hide ((unhide HBQ).trans hbD); have HGR := hide hgr; have HK' := hide hk'; clear hwd' hbD hgr hk')
      have hBD : B ≤ wD.heap.size := Nat.le_trans hBw (unhide HBD).size
      have hl'' : ∀ b, (s'.l b).length ≤ psN os (k + 1) := fun b => by
        have h1 := (unhide HGR).1 b; have h2 := unhide HL0' b; have h3 := unhide HSN; omega
      have hl' : ∀ b, (s'.l b).length ≤ 1048576 := fun b => by have := hl'' b; omega
      have HL'' := hide hl''
      have HLC'' := hide (show s'.lc.length ≤ psN os (k + 1) by
        have h3 := unhide HSN
        rcases (unhide HGR).2 with e | ⟨b, e⟩
        · rw [e]; have := unhide HLC; omega
        · rw [e]; have := unhide HL0' b; omega)
      clear hl'' hdo
      go_loopw [62] (fun j wq => ∃ jj : Nat, jj ≤ 2 ∧ j = .int .i64 jj ∧ Wd B wq G s' ∧ Below B wD wq) (fun j _ => 2 - (intOf j).toNat)
      case atStart => exact ⟨0, by omega, rfl, unhide HWD, Below.refl _ _⟩
      case round =>
        obtain ⟨jj, hjj, rfl, hwy, hby⟩ := hrel
        obtain ⟨Y, rfl⟩ : ∃ Y, Y = wr := ⟨_, rfl⟩
        have HWY := hide hwy
        have HDY := hide hby
        clear hwy hby
        by_cases hj2 : jj < 2
        · have hc : jj = 0 ∨ jj = 1 := by omega
          clear hjj hj2
          rcases hc with rfl | rfl
          · try simp only [Int.ofNat_zero, Nat.cast_ofNat, Int.natCast_zero] at *
            have y0 : Y.cell? ⟨G, 0, none⟩ = some (.pointer (some ⟨s'.L false, 0, none⟩)) := (unhide HWY).cells 0
            go_wp2
            refine wp_region_held_drew (S := fun w' => w'.cell? ⟨G, 0, none⟩ = some (.pointer (some ⟨s'.L false, 0, none⟩))) (by kernel_rfl) (y0) (fun hHeld => ?_)
            refine wpAnyH_take (i := 0) (oi := { dst := some 65, op := Op.move (Operand.tmp 3), type := 24, pos := "law.go:138", after := #[], guard := none }) (v := ?_) rfl (by kernel_rfl) (by kernel_rfl) (by kernel_rfl) (fun _ _ _ h => h) (Or.inl ⟨by rfl, ?_⟩) (by assumption) ?_
            rotate_left
            · intro wq hSw
              have e0 := hSw
              go_simp
              with_reducible rfl
            simp only [Act.put, List.setIfInBounds_toArray, List.set_cons_zero, List.set_cons_succ]
            refine wpAnyH_take (i := 1) (oi := { dst := some 66, op := Op.move (Operand.tmp 6), type := 3, pos := "law.go:138", after := #[], guard := none }) (v := ?_) rfl (by kernel_rfl) (by kernel_rfl) (by kernel_rfl) (fun _ _ _ h => h) (Or.inl ⟨by rfl, ?_⟩) (by assumption) ?_
            rotate_left
            · intro wq hSw
              have e0 := hSw
              go_simp
              with_reducible rfl
            simp only [Act.put, List.setIfInBounds_toArray, List.set_cons_zero, List.set_cons_succ]
            refine wpAnyH_take (i := 2) (oi := { dst := some 67, op := Op.nilCheck (Operand.tmp 65), type := 0, pos := "law.go:138", after := #[{ on := 0, ground := Ground.data }], guard := none }) (v := ?_) rfl (by kernel_rfl) (by kernel_rfl) (by kernel_rfl) (fun _ _ _ h => h) (Or.inl ⟨by rfl, ?_⟩) (by assumption) ?_
            rotate_left
            · intro wq hSw
              have e0 := hSw
              go_simp
              with_reducible rfl
            simp only [Act.put, List.setIfInBounds_toArray, List.set_cons_zero, List.set_cons_succ]
            refine wpAnyH_take (i := 3) (oi := { dst := some 68, op := Op.fieldAddr 33 (Operand.tmp 67) 0, type := 0, pos := "law.go:138", after := #[{ on := 2, ground := Ground.data }], guard := none }) (v := ?_) rfl (by kernel_rfl) (by kernel_rfl) (by kernel_rfl) (fun _ _ _ h => h) (Or.inl ⟨by rfl, ?_⟩) (by assumption) ?_
            rotate_left
            · intro wq hSw
              have e0 := hSw
              go_simp
              with_reducible rfl
            simp only [Act.put, List.setIfInBounds_toArray, List.set_cons_zero, List.set_cons_succ]
            refine wpAnyH_take (i := 4) (oi := { dst := some 69, op := Op.indexAddr 27 (Operand.tmp 68) (Operand.tmp 66), type := 0, pos := "law.go:138", after := #[{ on := 3, ground := Ground.data }, { on := 1, ground := Ground.data }], guard := none }) (v := ?_) rfl (by kernel_rfl) (by kernel_rfl) (by kernel_rfl) (fun _ _ _ h => h) (Or.inl ⟨by rfl, ?_⟩) (by assumption) ?_
            rotate_left
            · intro wq hSw
              have e0 := hSw
              go_simp
              with_reducible rfl
            simp only [Act.put, List.setIfInBounds_toArray, List.set_cons_zero, List.set_cons_succ]
            refine wpAnyH_take (i := 5) (oi := { dst := some 70, op := Op.load 25 (Operand.tmp 69), type := 25, pos := "law.go:138", after := #[{ on := 4, ground := Ground.data }], guard := none }) (v := ?_) rfl (by kernel_rfl) (by kernel_rfl) (by kernel_rfl) (fun _ _ _ h => h) (Or.inl ⟨by rfl, ?_⟩) (by assumption) ?_
            rotate_left
            · intro wq hSw
              have e0 := hSw
              go_simp
              with_reducible rfl
            simp only [Act.put, List.setIfInBounds_toArray, List.set_cons_zero, List.set_cons_succ]
            refine wpAnyH_take (i := 7) (oi := { dst := some 72, op := Op.move (Operand.tmp 3), type := 24, pos := "law.go:138", after := #[], guard := none }) (v := ?_) rfl (by kernel_rfl) (by kernel_rfl) (by kernel_rfl) (fun _ _ _ h => h) (Or.inl ⟨by rfl, ?_⟩) (by assumption) ?_
            rotate_left
            · intro wq hSw
              have e0 := hSw
              go_simp
              with_reducible rfl
            simp only [Act.put, List.setIfInBounds_toArray, List.set_cons_zero, List.set_cons_succ]
            refine wpAnyH_take (i := 8) (oi := { dst := some 73, op := Op.move (Operand.tmp 6), type := 3, pos := "law.go:138", after := #[], guard := none }) (v := ?_) rfl (by kernel_rfl) (by kernel_rfl) (by kernel_rfl) (fun _ _ _ h => h) (Or.inl ⟨by rfl, ?_⟩) (by assumption) ?_
            rotate_left
            · intro wq hSw
              have e0 := hSw
              go_simp
              with_reducible rfl
            simp only [Act.put, List.setIfInBounds_toArray, List.set_cons_zero, List.set_cons_succ]
            refine wpAnyH_take (i := 9) (oi := { dst := some 74, op := Op.nilCheck (Operand.tmp 72), type := 0, pos := "law.go:138", after := #[{ on := 7, ground := Ground.data }], guard := none }) (v := ?_) rfl (by kernel_rfl) (by kernel_rfl) (by kernel_rfl) (fun _ _ _ h => h) (Or.inl ⟨by rfl, ?_⟩) (by assumption) ?_
            rotate_left
            · intro wq hSw
              have e0 := hSw
              go_simp
              with_reducible rfl
            simp only [Act.put, List.setIfInBounds_toArray, List.set_cons_zero, List.set_cons_succ]
            refine wpAnyH_take (i := 10) (oi := { dst := some 75, op := Op.fieldAddr 33 (Operand.tmp 74) 0, type := 0, pos := "law.go:138", after := #[{ on := 9, ground := Ground.data }], guard := none }) (v := ?_) rfl (by kernel_rfl) (by kernel_rfl) (by kernel_rfl) (fun _ _ _ h => h) (Or.inl ⟨by rfl, ?_⟩) (by assumption) ?_
            rotate_left
            · intro wq hSw
              have e0 := hSw
              go_simp
              with_reducible rfl
            simp only [Act.put, List.setIfInBounds_toArray, List.set_cons_zero, List.set_cons_succ]
            refine wpAnyH_take (i := 11) (oi := { dst := some 76, op := Op.indexAddr 27 (Operand.tmp 75) (Operand.tmp 73), type := 0, pos := "law.go:138", after := #[{ on := 10, ground := Ground.data }, { on := 8, ground := Ground.data }], guard := none }) (v := ?_) rfl (by kernel_rfl) (by kernel_rfl) (by kernel_rfl) (fun _ _ _ h => h) (Or.inl ⟨by rfl, ?_⟩) (by assumption) ?_
            rotate_left
            · intro wq hSw
              have e0 := hSw
              go_simp
              with_reducible rfl
            simp only [Act.put, List.setIfInBounds_toArray, List.set_cons_zero, List.set_cons_succ]
            refine wpAnyH_take (i := 12) (oi := { dst := some 77, op := Op.load 25 (Operand.tmp 76), type := 25, pos := "law.go:138", after := #[{ on := 11, ground := Ground.data }], guard := none }) (v := ?_) rfl (by kernel_rfl) (by kernel_rfl) (by kernel_rfl) (fun _ _ _ h => h) (Or.inl ⟨by rfl, ?_⟩) (by assumption) ?_
            rotate_left
            · intro wq hSw
              have e0 := hSw
              go_simp
              with_reducible rfl
            simp only [Act.put, List.setIfInBounds_toArray, List.set_cons_zero, List.set_cons_succ]
            refine wpAnyH_ready (rs := [6]) (by kernel_rfl) (by simp) ?_
            refine AllReadyH.cons (o := { dst := some 71, op := Op.call { callee := Callee.value (Operand.func 11), args := #[Operand.tmp 70], argTypes := #[25] }, type := 28, pos := "law.go:138", after := #[{ on := 5, ground := Ground.data }], guard := none }) rfl (fun K hK => ?_) ?_
            · go_simp
              refine (allL B (s'.L false) (s'.q false) (s'.cap false) (s'.l false) Y.drew (by have := hl' false; omega) (((unhide HWY).lst false).below (Below.refl _ _).drew)).mono ?_
              rintro e wa ⟨⟨qa, ca, rfl, hoa⟩, hba⟩
              have Hba := hide (((Below.refl Y.heap.size Y).drew).trans hba)
              have HOA := hide hoa
              have Sa : wa.cell? ⟨G, 0, none⟩ = some (.pointer (some ⟨s'.L false, 0, none⟩)) := ((unhide HWY).below (unhide Hba)).cells 0
              clear hoa hba
              refine hK.out _ _ (Sa) (fun hHeld => ?_)
              clear hK K
              refine wpAnyH_ready (rs := [13]) (by kernel_rfl) (by simp) ?_
              refine AllReadyH.cons (o := { dst := some 78, op := Op.call { callee := Callee.value (Operand.func 11), args := #[Operand.tmp 77], argTypes := #[25] }, type := 28, pos := "law.go:138", after := #[{ on := 12, ground := Ground.data }, { on := 6, ground := Ground.chain }], guard := none }) rfl (fun K hK => ?_) ?_
              · go_simp
                refine (allL B (s'.L false) (s'.q false) (s'.cap false) (s'.l false) wa (by have := hl' false; omega) (((unhide HWY).lst false).below (unhide Hba))).mono ?_
                rintro e wb ⟨⟨qb, cb, rfl, hob⟩, hbb⟩
                have Hbb := hide hbb
                have HOB := hide hob
                have Sb : wb.cell? ⟨G, 0, none⟩ = some (.pointer (some ⟨s'.L false, 0, none⟩)) := ((unhide HWY).below ((unhide Hba).trans (hbb.mono (unhide Hba).size))).cells 0
                clear hob hbb
                refine hK.out _ _ (Sb) (fun hHeld => ?_)
                clear hK K
                refine wpAnyH_take (i := 14) (oi := { dst := some 7, op := Op.assign (Operand.tmp 71), type := 28, pos := "law.go:138", after := #[{ on := 6, ground := Ground.data }, { on := 13, ground := Ground.chain }, { on := 0, ground := Ground.phase }, { on := 1, ground := Ground.phase }, { on := 2, ground := Ground.phase }, { on := 3, ground := Ground.phase }, { on := 4, ground := Ground.phase }, { on := 5, ground := Ground.phase }, { on := 6, ground := Ground.phase }, { on := 7, ground := Ground.textOnly Departure.lateStores }, { on := 8, ground := Ground.textOnly Departure.lateStores }, { on := 9, ground := Ground.textOnly Departure.lateStores }, { on := 10, ground := Ground.textOnly Departure.lateStores }, { on := 11, ground := Ground.textOnly Departure.lateStores }, { on := 12, ground := Ground.textOnly Departure.lateStores }, { on := 13, ground := Ground.textOnly Departure.lateStoresUnsure }], guard := none }) (v := ?_) rfl (by kernel_rfl) (by kernel_rfl) (by kernel_rfl) (fun _ _ _ h => h) (Or.inl ⟨by rfl, ?_⟩) (by assumption) ?_
                rotate_left
                · intro wq hSw
                  have e0 := hSw
                  go_simp
                  with_reducible rfl
                simp only [Act.put, List.setIfInBounds_toArray, List.set_cons_zero, List.set_cons_succ]
                refine wpAnyH_take (i := 15) (oi := { dst := some 8, op := Op.assign (Operand.tmp 78), type := 28, pos := "law.go:138", after := #[{ on := 13, ground := Ground.data }, { on := 14, ground := Ground.chain }, { on := 0, ground := Ground.phase }, { on := 1, ground := Ground.phase }, { on := 2, ground := Ground.phase }, { on := 3, ground := Ground.phase }, { on := 4, ground := Ground.phase }, { on := 5, ground := Ground.phase }, { on := 6, ground := Ground.phase }, { on := 7, ground := Ground.phase }, { on := 8, ground := Ground.phase }, { on := 9, ground := Ground.phase }, { on := 10, ground := Ground.phase }, { on := 11, ground := Ground.phase }, { on := 12, ground := Ground.phase }, { on := 13, ground := Ground.phase }, { on := 14, ground := Ground.phase }], guard := none }) (v := ?_) rfl (by kernel_rfl) (by kernel_rfl) (by kernel_rfl) (fun _ _ _ h => h) (Or.inl ⟨by rfl, ?_⟩) (by assumption) ?_
                rotate_left
                · intro wq hSw
                  have e0 := hSw
                  go_simp
                  with_reducible rfl
                simp only [Act.put, List.setIfInBounds_toArray, List.set_cons_zero, List.set_cons_succ]
                refine wpAnyH_done (by kernel_rfl) ?_ _
                have hn : (s'.l false).length ≤ 1048576 := by have := hl' false; omega
                have hni : ((s'.l false).length : Int) ≤ 1048576 := by omega
                have HBY := hide ((unhide Hba).trans ((unhide Hbb).mono (unhide Hba).size))
                go_wp2
                go_loopw [81] (fun i wz => ∃ (t : Nat) (xs : List Value), t ≤ (s'.l false).length ∧ i = .int .i64 t ∧ wz.ownsRow Y.heap.size 43 2 (.slice qa (s'.l false).length ca) (s'.l false).length xs ∧ wb.grownBy wz (qa.map (·.block))) (fun i _ => (s'.l false).length - (intOf i).toNat)
                case atStart => exact ⟨0, _, by omega, rfl, (unhide HOA).below (unhide Hbb), grown_refl _ _⟩
                case round =>
                  obtain ⟨t, xs, ht, rfl, hrow, hgz⟩ := hrel
                  obtain ⟨Z, rfl⟩ : ∃ Z, Z = wr := ⟨_, rfl⟩
                  by_cases htl : t < (s'.l false).length
                  · obtain ⟨ga, cap', cur, hv, hga, hblk, hcur⟩ : ∃ (ga cap' : Nat) (cur : Array Value), qa = some ⟨ga, 0, none⟩ ∧ Y.heap.size ≤ ga ∧ Z.heap[ga]? = some (.cells cur 43 (0, 0)) ∧ (s'.l false).length * 2 ≤ cur.size := by
                      rcases hrow.2 with ⟨h0, h1⟩ | ⟨g, cp, cur, h0, h1, h2, h3, h4, h5, _⟩
                      · injection h0 with _ h0; omega
                      · injection h0 with h0 _ h6
                        exact ⟨g, cp, cur, h0, h1, h2, by rw [h5]; omega⟩
                    subst hv
                    have ki0 : (0 : Int) ≤ (t : Int) := by omega
                    have ki1 : (t : Int) < ((s'.l false).length : Int) := by omega
                    have hcl : Z.cell? ⟨ga, t * 2, none⟩ = some (cur[t * 2]'(by omega)) := by
                      rw [cell_of_row _ _ _ _ 43 (0, 0) hblk]; exact Array.getElem?_eq_getElem (by omega)
                    have hfr : Z.frozen? ⟨ga, t * 2, none⟩ = false := frozen_free hblk
                    have HST := hide (hrow.stored (t * 2) (.int .i64 (-5)))
                    have HGZ := hide hgz
                    clear hrow hgz hblk
                    go_wp2
                    go_roundw
                    case rel => exact ⟨t + 1, _, by omega, by go_num, (unhide HST).1, grown_trans (unhide HGZ) (unhide HST).2⟩
                    case measure => simp [intOf]; omega
                  · have ki1 : ¬ (t : Int) < ((s'.l false).length : Int) := by omega
                    have hlowa : ∀ j, qa.map (·.block) = some j → Y.heap.size ≤ j := fun j e => by
                      rcases hrow.2 with ⟨h0, _⟩ | ⟨g, cp, cur, h0, h1, _⟩
                      · injection h0 with h0; subst h0; cases e
                      · injection h0 with h0; subst h0; cases e; exact h1
                    have hupa : ∀ a, qa = some a → a.block < wa.heap.size := own_lt (unhide HOA)
                    have hbz : Below Y.heap.size Y Z := (unhide HBY).trans ((Below.refl Y.heap.size wb).grown hgz (unhide HBY).size hlowa)
                    have HBZ := hide hbz
                    have HOBZ := hide ((unhide HOB).keepBlk (w' := Z) fun a e => hgz.block a.block (own_lt (unhide HOB) a e) (by
                      have h1 := (World.ownsRow.lt (unhide HOB) a.block (by rw [own_block, e]; rfl)).1
                      cases e2 : qa with
                      | none => simp
                      | some a2 => have := hupa a2 e2; simp; omega))
                    have HWZ := hide ((unhide HWY).below hbz)
                    have z0 : Z.cell? ⟨G, 0, none⟩ = some (.pointer (some ⟨s'.L false, 0, none⟩)) := (unhide HWZ).cells 0
                    have z2 := (unhide HWZ).cells 2
                    simp [cellsOf, hm'] at z2
                    have q12 := fun (n : Nat) (os : Array Obj) => sameP qb cb (s'.l false) (s'.p false) (s'.c false) (s'.l false) (grow (redrawn Z n) os) ((unhide HOBZ).ls.below (below_regrown Z n os)) ((hm' ▸ (unhide HWZ).ref false : SlOf encP 2 Z (s'.p false) (s'.c false) (s'.l false)).below (below_regrown Z n os)) (by omega)
                    have q13 := fun (n : Nat) (os : Array Obj) => (lenL B (s'.L false) (s'.q false) (s'.cap false) (s'.l false) (grow (redrawn Z n) os) (((unhide HWZ).lst false).below (below_regrown Z n os))).mono (fun e w' (h : e = .returned (.int .i64 ((s'.l false).length : Nat)) ∧ w' = grow (redrawn Z n) os) => (⟨h.1, h.2 ▸ Below.refl _ _⟩ : e = .returned (.int .i64 ((s'.l false).length : Nat)) ∧ Below (grow (redrawn Z n) os).heap.size (grow (redrawn Z n) os) w'))
                    rw [decide_eq_true (rfl : s'.l false = s'.l false)] at q12
                    have r0 := cell_regrown z0
                    have r2 := cell_regrown z2
                    clear hrow hgz hbz z0 z2
                    go_wp2
                    refine wp_region_quiet_below (by assumption) (by kernel_rfl) ?_
                    repeat (go_big_quiet_step (first
                      | (go_at_fn 12; refine Calls.regrown_of (q12 _ _))
                      | (go_at_fn 13; refine Calls.regrown_of (q13 _ _))))
                    refine wpQuiet_nil ?_
                    intro w4 hw'
                    obtain ⟨⟨dq2, osq2⟩, hw''⟩ := hw'
                    have b4 := below_regrown Z dq2 osq2
                    dsimp only at hw''
                    rw [← hw''] at b4
                    have HB4 := hide ((unhide HBZ).trans (b4.mono (unhide HBZ).size))
                    clear hw'' b4 q12 q13 r0 r2
                    go_wp2
                    go_roundw
                    case rel => exact ⟨1, by omega, by go_num, (unhide HWY).below (unhide HB4), (unhide HDY).trans ((unhide HB4).mono (Nat.le_trans hBD (unhide HDY).size))⟩
                    case measure => simp [intOf]
              exact AllReadyH.nil
            exact AllReadyH.nil
          · skip
            have y0 : Y.cell? ⟨G, 1, none⟩ = some (.pointer (some ⟨s'.L true, 0, none⟩)) := (unhide HWY).cells 1
            go_wp2
            refine wp_region_held_drew (S := fun w' => w'.cell? ⟨G, 1, none⟩ = some (.pointer (some ⟨s'.L true, 0, none⟩))) (by kernel_rfl) (y0) (fun hHeld => ?_)
            refine wpAnyH_take (i := 0) (oi := { dst := some 65, op := Op.move (Operand.tmp 3), type := 24, pos := "law.go:138", after := #[], guard := none }) (v := ?_) rfl (by kernel_rfl) (by kernel_rfl) (by kernel_rfl) (fun _ _ _ h => h) (Or.inl ⟨by rfl, ?_⟩) (by assumption) ?_
            rotate_left
            · intro wq hSw
              have e0 := hSw
              go_simp
              with_reducible rfl
            simp only [Act.put, List.setIfInBounds_toArray, List.set_cons_zero, List.set_cons_succ]
            refine wpAnyH_take (i := 1) (oi := { dst := some 66, op := Op.move (Operand.tmp 6), type := 3, pos := "law.go:138", after := #[], guard := none }) (v := ?_) rfl (by kernel_rfl) (by kernel_rfl) (by kernel_rfl) (fun _ _ _ h => h) (Or.inl ⟨by rfl, ?_⟩) (by assumption) ?_
            rotate_left
            · intro wq hSw
              have e0 := hSw
              go_simp
              with_reducible rfl
            simp only [Act.put, List.setIfInBounds_toArray, List.set_cons_zero, List.set_cons_succ]
            refine wpAnyH_take (i := 2) (oi := { dst := some 67, op := Op.nilCheck (Operand.tmp 65), type := 0, pos := "law.go:138", after := #[{ on := 0, ground := Ground.data }], guard := none }) (v := ?_) rfl (by kernel_rfl) (by kernel_rfl) (by kernel_rfl) (fun _ _ _ h => h) (Or.inl ⟨by rfl, ?_⟩) (by assumption) ?_
            rotate_left
            · intro wq hSw
              have e0 := hSw
              go_simp
              with_reducible rfl
            simp only [Act.put, List.setIfInBounds_toArray, List.set_cons_zero, List.set_cons_succ]
            refine wpAnyH_take (i := 3) (oi := { dst := some 68, op := Op.fieldAddr 33 (Operand.tmp 67) 0, type := 0, pos := "law.go:138", after := #[{ on := 2, ground := Ground.data }], guard := none }) (v := ?_) rfl (by kernel_rfl) (by kernel_rfl) (by kernel_rfl) (fun _ _ _ h => h) (Or.inl ⟨by rfl, ?_⟩) (by assumption) ?_
            rotate_left
            · intro wq hSw
              have e0 := hSw
              go_simp
              with_reducible rfl
            simp only [Act.put, List.setIfInBounds_toArray, List.set_cons_zero, List.set_cons_succ]
            refine wpAnyH_take (i := 4) (oi := { dst := some 69, op := Op.indexAddr 27 (Operand.tmp 68) (Operand.tmp 66), type := 0, pos := "law.go:138", after := #[{ on := 3, ground := Ground.data }, { on := 1, ground := Ground.data }], guard := none }) (v := ?_) rfl (by kernel_rfl) (by kernel_rfl) (by kernel_rfl) (fun _ _ _ h => h) (Or.inl ⟨by rfl, ?_⟩) (by assumption) ?_
            rotate_left
            · intro wq hSw
              have e0 := hSw
              go_simp
              with_reducible rfl
            simp only [Act.put, List.setIfInBounds_toArray, List.set_cons_zero, List.set_cons_succ]
            refine wpAnyH_take (i := 5) (oi := { dst := some 70, op := Op.load 25 (Operand.tmp 69), type := 25, pos := "law.go:138", after := #[{ on := 4, ground := Ground.data }], guard := none }) (v := ?_) rfl (by kernel_rfl) (by kernel_rfl) (by kernel_rfl) (fun _ _ _ h => h) (Or.inl ⟨by rfl, ?_⟩) (by assumption) ?_
            rotate_left
            · intro wq hSw
              have e0 := hSw
              go_simp
              with_reducible rfl
            simp only [Act.put, List.setIfInBounds_toArray, List.set_cons_zero, List.set_cons_succ]
            refine wpAnyH_take (i := 7) (oi := { dst := some 72, op := Op.move (Operand.tmp 3), type := 24, pos := "law.go:138", after := #[], guard := none }) (v := ?_) rfl (by kernel_rfl) (by kernel_rfl) (by kernel_rfl) (fun _ _ _ h => h) (Or.inl ⟨by rfl, ?_⟩) (by assumption) ?_
            rotate_left
            · intro wq hSw
              have e0 := hSw
              go_simp
              with_reducible rfl
            simp only [Act.put, List.setIfInBounds_toArray, List.set_cons_zero, List.set_cons_succ]
            refine wpAnyH_take (i := 8) (oi := { dst := some 73, op := Op.move (Operand.tmp 6), type := 3, pos := "law.go:138", after := #[], guard := none }) (v := ?_) rfl (by kernel_rfl) (by kernel_rfl) (by kernel_rfl) (fun _ _ _ h => h) (Or.inl ⟨by rfl, ?_⟩) (by assumption) ?_
            rotate_left
            · intro wq hSw
              have e0 := hSw
              go_simp
              with_reducible rfl
            simp only [Act.put, List.setIfInBounds_toArray, List.set_cons_zero, List.set_cons_succ]
            refine wpAnyH_take (i := 9) (oi := { dst := some 74, op := Op.nilCheck (Operand.tmp 72), type := 0, pos := "law.go:138", after := #[{ on := 7, ground := Ground.data }], guard := none }) (v := ?_) rfl (by kernel_rfl) (by kernel_rfl) (by kernel_rfl) (fun _ _ _ h => h) (Or.inl ⟨by rfl, ?_⟩) (by assumption) ?_
            rotate_left
            · intro wq hSw
              have e0 := hSw
              go_simp
              with_reducible rfl
            simp only [Act.put, List.setIfInBounds_toArray, List.set_cons_zero, List.set_cons_succ]
            refine wpAnyH_take (i := 10) (oi := { dst := some 75, op := Op.fieldAddr 33 (Operand.tmp 74) 0, type := 0, pos := "law.go:138", after := #[{ on := 9, ground := Ground.data }], guard := none }) (v := ?_) rfl (by kernel_rfl) (by kernel_rfl) (by kernel_rfl) (fun _ _ _ h => h) (Or.inl ⟨by rfl, ?_⟩) (by assumption) ?_
            rotate_left
            · intro wq hSw
              have e0 := hSw
              go_simp
              with_reducible rfl
            simp only [Act.put, List.setIfInBounds_toArray, List.set_cons_zero, List.set_cons_succ]
            refine wpAnyH_take (i := 11) (oi := { dst := some 76, op := Op.indexAddr 27 (Operand.tmp 75) (Operand.tmp 73), type := 0, pos := "law.go:138", after := #[{ on := 10, ground := Ground.data }, { on := 8, ground := Ground.data }], guard := none }) (v := ?_) rfl (by kernel_rfl) (by kernel_rfl) (by kernel_rfl) (fun _ _ _ h => h) (Or.inl ⟨by rfl, ?_⟩) (by assumption) ?_
            rotate_left
            · intro wq hSw
              have e0 := hSw
              go_simp
              with_reducible rfl
            simp only [Act.put, List.setIfInBounds_toArray, List.set_cons_zero, List.set_cons_succ]
            refine wpAnyH_take (i := 12) (oi := { dst := some 77, op := Op.load 25 (Operand.tmp 76), type := 25, pos := "law.go:138", after := #[{ on := 11, ground := Ground.data }], guard := none }) (v := ?_) rfl (by kernel_rfl) (by kernel_rfl) (by kernel_rfl) (fun _ _ _ h => h) (Or.inl ⟨by rfl, ?_⟩) (by assumption) ?_
            rotate_left
            · intro wq hSw
              have e0 := hSw
              go_simp
              with_reducible rfl
            simp only [Act.put, List.setIfInBounds_toArray, List.set_cons_zero, List.set_cons_succ]
            refine wpAnyH_ready (rs := [6]) (by kernel_rfl) (by simp) ?_
            refine AllReadyH.cons (o := { dst := some 71, op := Op.call { callee := Callee.value (Operand.func 11), args := #[Operand.tmp 70], argTypes := #[25] }, type := 28, pos := "law.go:138", after := #[{ on := 5, ground := Ground.data }], guard := none }) rfl (fun K hK => ?_) ?_
            · go_simp
              refine (allL B (s'.L true) (s'.q true) (s'.cap true) (s'.l true) Y.drew (by have := hl' true; omega) (((unhide HWY).lst true).below (Below.refl _ _).drew)).mono ?_
              rintro e wa ⟨⟨qa, ca, rfl, hoa⟩, hba⟩
              have Hba := hide (((Below.refl Y.heap.size Y).drew).trans hba)
              have HOA := hide hoa
              have Sa : wa.cell? ⟨G, 1, none⟩ = some (.pointer (some ⟨s'.L true, 0, none⟩)) := ((unhide HWY).below (unhide Hba)).cells 1
              clear hoa hba
              refine hK.out _ _ (Sa) (fun hHeld => ?_)
              clear hK K
              refine wpAnyH_ready (rs := [13]) (by kernel_rfl) (by simp) ?_
              refine AllReadyH.cons (o := { dst := some 78, op := Op.call { callee := Callee.value (Operand.func 11), args := #[Operand.tmp 77], argTypes := #[25] }, type := 28, pos := "law.go:138", after := #[{ on := 12, ground := Ground.data }, { on := 6, ground := Ground.chain }], guard := none }) rfl (fun K hK => ?_) ?_
              · go_simp
                refine (allL B (s'.L true) (s'.q true) (s'.cap true) (s'.l true) wa (by have := hl' true; omega) (((unhide HWY).lst true).below (unhide Hba))).mono ?_
                rintro e wb ⟨⟨qb, cb, rfl, hob⟩, hbb⟩
                have Hbb := hide hbb
                have HOB := hide hob
                have Sb : wb.cell? ⟨G, 1, none⟩ = some (.pointer (some ⟨s'.L true, 0, none⟩)) := ((unhide HWY).below ((unhide Hba).trans (hbb.mono (unhide Hba).size))).cells 1
                clear hob hbb
                refine hK.out _ _ (Sb) (fun hHeld => ?_)
                clear hK K
                refine wpAnyH_take (i := 14) (oi := { dst := some 7, op := Op.assign (Operand.tmp 71), type := 28, pos := "law.go:138", after := #[{ on := 6, ground := Ground.data }, { on := 13, ground := Ground.chain }, { on := 0, ground := Ground.phase }, { on := 1, ground := Ground.phase }, { on := 2, ground := Ground.phase }, { on := 3, ground := Ground.phase }, { on := 4, ground := Ground.phase }, { on := 5, ground := Ground.phase }, { on := 6, ground := Ground.phase }, { on := 7, ground := Ground.textOnly Departure.lateStores }, { on := 8, ground := Ground.textOnly Departure.lateStores }, { on := 9, ground := Ground.textOnly Departure.lateStores }, { on := 10, ground := Ground.textOnly Departure.lateStores }, { on := 11, ground := Ground.textOnly Departure.lateStores }, { on := 12, ground := Ground.textOnly Departure.lateStores }, { on := 13, ground := Ground.textOnly Departure.lateStoresUnsure }], guard := none }) (v := ?_) rfl (by kernel_rfl) (by kernel_rfl) (by kernel_rfl) (fun _ _ _ h => h) (Or.inl ⟨by rfl, ?_⟩) (by assumption) ?_
                rotate_left
                · intro wq hSw
                  have e0 := hSw
                  go_simp
                  with_reducible rfl
                simp only [Act.put, List.setIfInBounds_toArray, List.set_cons_zero, List.set_cons_succ]
                refine wpAnyH_take (i := 15) (oi := { dst := some 8, op := Op.assign (Operand.tmp 78), type := 28, pos := "law.go:138", after := #[{ on := 13, ground := Ground.data }, { on := 14, ground := Ground.chain }, { on := 0, ground := Ground.phase }, { on := 1, ground := Ground.phase }, { on := 2, ground := Ground.phase }, { on := 3, ground := Ground.phase }, { on := 4, ground := Ground.phase }, { on := 5, ground := Ground.phase }, { on := 6, ground := Ground.phase }, { on := 7, ground := Ground.phase }, { on := 8, ground := Ground.phase }, { on := 9, ground := Ground.phase }, { on := 10, ground := Ground.phase }, { on := 11, ground := Ground.phase }, { on := 12, ground := Ground.phase }, { on := 13, ground := Ground.phase }, { on := 14, ground := Ground.phase }], guard := none }) (v := ?_) rfl (by kernel_rfl) (by kernel_rfl) (by kernel_rfl) (fun _ _ _ h => h) (Or.inl ⟨by rfl, ?_⟩) (by assumption) ?_
                rotate_left
                · intro wq hSw
                  have e0 := hSw
                  go_simp
                  with_reducible rfl
                simp only [Act.put, List.setIfInBounds_toArray, List.set_cons_zero, List.set_cons_succ]
                refine wpAnyH_done (by kernel_rfl) ?_ _
                have hn : (s'.l true).length ≤ 1048576 := by have := hl' true; omega
                have hni : ((s'.l true).length : Int) ≤ 1048576 := by omega
                have HBY := hide ((unhide Hba).trans ((unhide Hbb).mono (unhide Hba).size))
                go_wp2
                go_loopw [81] (fun i wz => ∃ (t : Nat) (xs : List Value), t ≤ (s'.l true).length ∧ i = .int .i64 t ∧ wz.ownsRow Y.heap.size 43 2 (.slice qa (s'.l true).length ca) (s'.l true).length xs ∧ wb.grownBy wz (qa.map (·.block))) (fun i _ => (s'.l true).length - (intOf i).toNat)
                case atStart => exact ⟨0, _, by omega, rfl, (unhide HOA).below (unhide Hbb), grown_refl _ _⟩
                case round =>
                  obtain ⟨t, xs, ht, rfl, hrow, hgz⟩ := hrel
                  obtain ⟨Z, rfl⟩ : ∃ Z, Z = wr := ⟨_, rfl⟩
                  by_cases htl : t < (s'.l true).length
                  · obtain ⟨ga, cap', cur, hv, hga, hblk, hcur⟩ : ∃ (ga cap' : Nat) (cur : Array Value), qa = some ⟨ga, 0, none⟩ ∧ Y.heap.size ≤ ga ∧ Z.heap[ga]? = some (.cells cur 43 (0, 0)) ∧ (s'.l true).length * 2 ≤ cur.size := by
                      rcases hrow.2 with ⟨h0, h1⟩ | ⟨g, cp, cur, h0, h1, h2, h3, h4, h5, _⟩
                      · injection h0 with _ h0; omega
                      · injection h0 with h0 _ h6
                        exact ⟨g, cp, cur, h0, h1, h2, by rw [h5]; omega⟩
                    subst hv
                    have ki0 : (0 : Int) ≤ (t : Int) := by omega
                    have ki1 : (t : Int) < ((s'.l true).length : Int) := by omega
                    have hcl : Z.cell? ⟨ga, t * 2, none⟩ = some (cur[t * 2]'(by omega)) := by
                      rw [cell_of_row _ _ _ _ 43 (0, 0) hblk]; exact Array.getElem?_eq_getElem (by omega)
                    have hfr : Z.frozen? ⟨ga, t * 2, none⟩ = false := frozen_free hblk
                    have HST := hide (hrow.stored (t * 2) (.int .i64 (-5)))
                    have HGZ := hide hgz
                    clear hrow hgz hblk
                    go_wp2
                    go_roundw
                    case rel => exact ⟨t + 1, _, by omega, by go_num, (unhide HST).1, grown_trans (unhide HGZ) (unhide HST).2⟩
                    case measure => simp [intOf]; omega
                  · have ki1 : ¬ (t : Int) < ((s'.l true).length : Int) := by omega
                    have hlowa : ∀ j, qa.map (·.block) = some j → Y.heap.size ≤ j := fun j e => by
                      rcases hrow.2 with ⟨h0, _⟩ | ⟨g, cp, cur, h0, h1, _⟩
                      · injection h0 with h0; subst h0; cases e
                      · injection h0 with h0; subst h0; cases e; exact h1
                    have hupa : ∀ a, qa = some a → a.block < wa.heap.size := own_lt (unhide HOA)
                    have hbz : Below Y.heap.size Y Z := (unhide HBY).trans ((Below.refl Y.heap.size wb).grown hgz (unhide HBY).size hlowa)
                    have HBZ := hide hbz
                    have HOBZ := hide ((unhide HOB).keepBlk (w' := Z) fun a e => hgz.block a.block (own_lt (unhide HOB) a e) (by
                      have h1 := (World.ownsRow.lt (unhide HOB) a.block (by rw [own_block, e]; rfl)).1
                      cases e2 : qa with
                      | none => simp
                      | some a2 => have := hupa a2 e2; simp; omega))
                    have HWZ := hide ((unhide HWY).below hbz)
                    have z0 : Z.cell? ⟨G, 1, none⟩ = some (.pointer (some ⟨s'.L true, 0, none⟩)) := (unhide HWZ).cells 1
                    have z2 := (unhide HWZ).cells 3
                    simp [cellsOf, hm'] at z2
                    have q12 := fun (n : Nat) (os : Array Obj) => sameP qb cb (s'.l true) (s'.p true) (s'.c true) (s'.l true) (grow (redrawn Z n) os) ((unhide HOBZ).ls.below (below_regrown Z n os)) ((hm' ▸ (unhide HWZ).ref true : SlOf encP 2 Z (s'.p true) (s'.c true) (s'.l true)).below (below_regrown Z n os)) (by omega)
                    have q13 := fun (n : Nat) (os : Array Obj) => (lenL B (s'.L true) (s'.q true) (s'.cap true) (s'.l true) (grow (redrawn Z n) os) (((unhide HWZ).lst true).below (below_regrown Z n os))).mono (fun e w' (h : e = .returned (.int .i64 ((s'.l true).length : Nat)) ∧ w' = grow (redrawn Z n) os) => (⟨h.1, h.2 ▸ Below.refl _ _⟩ : e = .returned (.int .i64 ((s'.l true).length : Nat)) ∧ Below (grow (redrawn Z n) os).heap.size (grow (redrawn Z n) os) w'))
                    rw [decide_eq_true (rfl : s'.l true = s'.l true)] at q12
                    have r0 := cell_regrown z0
                    have r2 := cell_regrown z2
                    clear hrow hgz hbz z0 z2
                    go_wp2
                    refine wp_region_quiet_below (by assumption) (by kernel_rfl) ?_
                    repeat (go_big_quiet_step (first
                      | (go_at_fn 12; refine Calls.regrown_of (q12 _ _))
                      | (go_at_fn 13; refine Calls.regrown_of (q13 _ _))))
                    refine wpQuiet_nil ?_
                    intro w4 hw'
                    obtain ⟨⟨dq2, osq2⟩, hw''⟩ := hw'
                    have b4 := below_regrown Z dq2 osq2
                    dsimp only at hw''
                    rw [← hw''] at b4
                    have HB4 := hide ((unhide HBZ).trans (b4.mono (unhide HBZ).size))
                    clear hw'' b4 q12 q13 r0 r2
                    go_wp2
                    go_roundw
                    case rel => exact ⟨2, by omega, by go_num, (unhide HWY).below (unhide HB4), (unhide HDY).trans ((unhide HB4).mono (Nat.le_trans hBD (unhide HDY).size))⟩
                    case measure => simp [intOf]
              exact AllReadyH.nil
            exact AllReadyH.nil
        · obtain rfl : jj = 2 := by omega
          go_wp2
          go_roundw
          case rel => exact ⟨k + 1, s', by omega, by go_num, unhide HWY, hm', unhide HK', unhide HL'', unhide HLC'', (unhide HBD).trans (unhide HDY)⟩
          case measure => simp [intOf]; omega
    · have ki1 : ¬ (k : Int) < (os.length : Int) := by omega
      obtain ⟨U, hU⟩ : ∃ U, U = V := ⟨_, rfl⟩
      subst hU
      have HWU := hide hwd
      have HBU := hide hbel
      have hBU : B ≤ U.heap.size := hBV
      have hl : ∀ b, (s.l b).length ≤ 1048576 := fun b => by have := hl0 b; omega
      have cg : ∀ W, Below U.heap.size U W → W.cell? ⟨G, 2, none⟩ = some (.slice (s.p false) (s.l false).length (s.c false)) ∧ W.cell? ⟨G, 3, none⟩ = some (.slice (s.p true) (s.l true).length (s.c true)) := fun W hW => by
        have h2 := ((unhide HWU).below hW).cells 2
        have h3 := ((unhide HWU).below hW).cells 3
        simp [cellsOf, hm] at h2 h3
        exact ⟨h2, h3⟩
      have cp : ∀ W, Below U.heap.size U W → W.cell? ⟨G, 0, none⟩ = some (.pointer (some ⟨s.L false, 0, none⟩)) ∧ W.cell? ⟨G, 1, none⟩ = some (.pointer (some ⟨s.L true, 0, none⟩)) := fun W hW => ⟨((unhide HWU).below hW).cells 0, ((unhide HWU).below hW).cells 1⟩
      clear hwd hbel hl0 hlc0
      go_wp2
      refine wp_region_held_drew (S := fun w' => w'.cell? ⟨G, 2, none⟩ = some (.slice (s.p false) (s.l false).length (s.c false)) ∧ w'.cell? ⟨G, 3, none⟩ = some (.slice (s.p true) (s.l true).length (s.c true))) (by kernel_rfl) (cg U (Below.refl _ _)) (fun hHeld => ?_)
      refine wpAnyH_take (i := 0) (oi := { dst := some 118, op := Op.move (Operand.tmp 3), type := 24, pos := "law.go:147", after := #[], guard := none }) (v := ?_) rfl (by kernel_rfl) (by kernel_rfl) (by kernel_rfl) (fun _ _ _ h => h) (Or.inl ⟨by rfl, ?_⟩) (by assumption) ?_
      rotate_left
      · intro wq hSw
        obtain ⟨e2, e3⟩ := hSw
        go_simp
        with_reducible rfl
      simp only [Act.put, List.setIfInBounds_toArray, List.set_cons_zero, List.set_cons_succ]
      refine wpAnyH_take (i := 1) (oi := { dst := some 119, op := Op.nilCheck (Operand.tmp 118), type := 0, pos := "law.go:147", after := #[{ on := 0, ground := Ground.data }], guard := none }) (v := ?_) rfl (by kernel_rfl) (by kernel_rfl) (by kernel_rfl) (fun _ _ _ h => h) (Or.inl ⟨by rfl, ?_⟩) (by assumption) ?_
      rotate_left
      · intro wq hSw
        obtain ⟨e2, e3⟩ := hSw
        go_simp
        with_reducible rfl
      simp only [Act.put, List.setIfInBounds_toArray, List.set_cons_zero, List.set_cons_succ]
      refine wpAnyH_take (i := 2) (oi := { dst := some 120, op := Op.fieldAddr 33 (Operand.tmp 119) 1, type := 0, pos := "law.go:147", after := #[{ on := 1, ground := Ground.data }], guard := none }) (v := ?_) rfl (by kernel_rfl) (by kernel_rfl) (by kernel_rfl) (fun _ _ _ h => h) (Or.inl ⟨by rfl, ?_⟩) (by assumption) ?_
      rotate_left
      · intro wq hSw
        obtain ⟨e2, e3⟩ := hSw
        go_simp
        with_reducible rfl
      simp only [Act.put, List.setIfInBounds_toArray, List.set_cons_zero, List.set_cons_succ]
      refine wpAnyH_take (i := 3) (oi := { dst := some 121, op := Op.indexAddr 29 (Operand.tmp 120) (Operand.const (Value.int IntKind.i64 0)), type := 0, pos := "law.go:147", after := #[{ on := 2, ground := Ground.data }], guard := none }) (v := ?_) rfl (by kernel_rfl) (by kernel_rfl) (by kernel_rfl) (fun _ _ _ h => h) (Or.inl ⟨by rfl, ?_⟩) (by assumption) ?_
      rotate_left
      · intro wq hSw
        obtain ⟨e2, e3⟩ := hSw
        go_simp
        with_reducible rfl
      simp only [Act.put, List.setIfInBounds_toArray, List.set_cons_zero, List.set_cons_succ]
      refine wpAnyH_take (i := 4) (oi := { dst := some 122, op := Op.load 28 (Operand.tmp 121), type := 28, pos := "law.go:147", after := #[{ on := 3, ground := Ground.data }], guard := none }) (v := ?_) rfl (by kernel_rfl) (by kernel_rfl) (by kernel_rfl) (fun _ _ _ h => h) (Or.inl ⟨by rfl, ?_⟩) (by assumption) ?_
      rotate_left
      · intro wq hSw
        obtain ⟨e2, e3⟩ := hSw
        go_simp
        with_reducible rfl
      simp only [Act.put, List.setIfInBounds_toArray, List.set_cons_zero, List.set_cons_succ]
      refine wpAnyH_take (i := 5) (oi := { dst := some 123, op := Op.move (Operand.tmp 3), type := 24, pos := "law.go:147", after := #[], guard := none }) (v := ?_) rfl (by kernel_rfl) (by kernel_rfl) (by kernel_rfl) (fun _ _ _ h => h) (Or.inl ⟨by rfl, ?_⟩) (by assumption) ?_
      rotate_left
      · intro wq hSw
        obtain ⟨e2, e3⟩ := hSw
        go_simp
        with_reducible rfl
      simp only [Act.put, List.setIfInBounds_toArray, List.set_cons_zero, List.set_cons_succ]
      refine wpAnyH_take (i := 6) (oi := { dst := some 124, op := Op.nilCheck (Operand.tmp 123), type := 0, pos := "law.go:147", after := #[{ on := 5, ground := Ground.data }], guard := none }) (v := ?_) rfl (by kernel_rfl) (by kernel_rfl) (by kernel_rfl) (fun _ _ _ h => h) (Or.inl ⟨by rfl, ?_⟩) (by assumption) ?_
      rotate_left
      · intro wq hSw
        obtain ⟨e2, e3⟩ := hSw
        go_simp
        with_reducible rfl
      simp only [Act.put, List.setIfInBounds_toArray, List.set_cons_zero, List.set_cons_succ]
      refine wpAnyH_take (i := 7) (oi := { dst := some 125, op := Op.fieldAddr 33 (Operand.tmp 124) 1, type := 0, pos := "law.go:147", after := #[{ on := 6, ground := Ground.data }], guard := none }) (v := ?_) rfl (by kernel_rfl) (by kernel_rfl) (by kernel_rfl) (fun _ _ _ h => h) (Or.inl ⟨by rfl, ?_⟩) (by assumption) ?_
      rotate_left
      · intro wq hSw
        obtain ⟨e2, e3⟩ := hSw
        go_simp
        with_reducible rfl
      simp only [Act.put, List.setIfInBounds_toArray, List.set_cons_zero, List.set_cons_succ]
      refine wpAnyH_take (i := 8) (oi := { dst := some 126, op := Op.indexAddr 29 (Operand.tmp 125) (Operand.const (Value.int IntKind.i64 1)), type := 0, pos := "law.go:147", after := #[{ on := 7, ground := Ground.data }], guard := none }) (v := ?_) rfl (by kernel_rfl) (by kernel_rfl) (by kernel_rfl) (fun _ _ _ h => h) (Or.inl ⟨by rfl, ?_⟩) (by assumption) ?_
      rotate_left
      · intro wq hSw
        obtain ⟨e2, e3⟩ := hSw
        go_simp
        with_reducible rfl
      simp only [Act.put, List.setIfInBounds_toArray, List.set_cons_zero, List.set_cons_succ]
      refine wpAnyH_take (i := 9) (oi := { dst := some 127, op := Op.load 28 (Operand.tmp 126), type := 28, pos := "law.go:147", after := #[{ on := 8, ground := Ground.data }], guard := none }) (v := ?_) rfl (by kernel_rfl) (by kernel_rfl) (by kernel_rfl) (fun _ _ _ h => h) (Or.inl ⟨by rfl, ?_⟩) (by assumption) ?_
      rotate_left
      · intro wq hSw
        obtain ⟨e2, e3⟩ := hSw
        go_simp
        with_reducible rfl
      simp only [Act.put, List.setIfInBounds_toArray, List.set_cons_zero, List.set_cons_succ]
      refine wpAnyH_ready (rs := [10]) (by kernel_rfl) (by simp) ?_
      refine AllReadyH.cons (o := { dst := some 128, op := Op.call { callee := Callee.value (Operand.func 14), args := #[Operand.tmp 122, Operand.tmp 127], argTypes := #[28, 28] }, type := 46, pos := "law.go:147", after := #[{ on := 4, ground := Ground.data }, { on := 9, ground := Ground.data }], guard := none }) rfl (fun K hK => ?_) ?_
      · go_simp
        refine (refAdd (s.p false) (s.c false) (s.l false) (s.p true) (s.c true) (s.l true) U.drew (hm ▸ ((unhide HWU).below (Below.refl _ _).drew).ref false) (hm ▸ ((unhide HWU).below (Below.refl _ _).drew).ref true) ((unhide HWU).str false) (by have := hl false; have := hl true; omega)).mono ?_
        rintro e w5 ⟨⟨q5, c5, rfl, ho5⟩, hb5⟩
        have Hb5 := hide (((Below.refl U.heap.size U).drew).trans hb5)
        have HO5 := hide ho5
        have S5 := cg w5 (unhide Hb5)
        clear ho5 hb5
        refine hK.out _ _ (S5) (fun hHeld => ?_)
        clear hK K
        refine wpAnyH_take (i := 11) (oi := { dst := some 117, op := Op.move (Operand.tmp 128), type := 46, pos := "law.go:147", after := #[{ on := 10, ground := Ground.data }], guard := none }) (v := ?_) rfl (by kernel_rfl) (by kernel_rfl) (by kernel_rfl) (fun _ _ _ h => h) (Or.inl ⟨by rfl, ?_⟩) (by assumption) ?_
        rotate_left
        · intro wq hSw
          obtain ⟨e2, e3⟩ := hSw
          go_simp
          with_reducible rfl
        simp only [Act.put, List.setIfInBounds_toArray, List.set_cons_zero, List.set_cons_succ]
        refine wpAnyH_take (i := 12) (oi := { dst := some 129, op := Op.extract (Operand.tmp 117) 0, type := 28, pos := "law.go:147", after := #[{ on := 11, ground := Ground.data }], guard := none }) (v := ?_) rfl (by kernel_rfl) (by kernel_rfl) (by kernel_rfl) (fun _ _ _ h => h) (Or.inl ⟨by rfl, ?_⟩) (by assumption) ?_
        rotate_left
        · intro wq hSw
          obtain ⟨e2, e3⟩ := hSw
          go_simp
          with_reducible rfl
        simp only [Act.put, List.setIfInBounds_toArray, List.set_cons_zero, List.set_cons_succ]
        refine wpAnyH_take (i := 13) (oi := { dst := some 130, op := Op.extract (Operand.tmp 117) 1, type := 3, pos := "law.go:147", after := #[{ on := 11, ground := Ground.data }, { on := 14, ground := Ground.gcOnly Departure.lateStores }], guard := none }) (v := ?_) rfl (by kernel_rfl) (by kernel_rfl) (by kernel_rfl) (fun _ _ _ h => h) (Or.inl ⟨by rfl, ?_⟩) (by assumption) ?_
        rotate_left
        · intro wq hSw
          obtain ⟨e2, e3⟩ := hSw
          go_simp
          with_reducible rfl
        simp only [Act.put, List.setIfInBounds_toArray, List.set_cons_zero, List.set_cons_succ]
        refine wpAnyH_take (i := 14) (oi := { dst := some 10, op := Op.assign (Operand.tmp 129), type := 28, pos := "law.go:147", after := #[{ on := 12, ground := Ground.data }, { on := 10, ground := Ground.chain }, { on := 0, ground := Ground.phase }, { on := 1, ground := Ground.phase }, { on := 2, ground := Ground.phase }, { on := 3, ground := Ground.phase }, { on := 4, ground := Ground.phase }, { on := 5, ground := Ground.phase }, { on := 6, ground := Ground.phase }, { on := 7, ground := Ground.phase }, { on := 8, ground := Ground.phase }, { on := 9, ground := Ground.phase }, { on := 10, ground := Ground.phase }, { on := 11, ground := Ground.phase }, { on := 12, ground := Ground.phase }, { on := 13, ground := Ground.textOnly Departure.lateStores }], guard := none }) (v := ?_) rfl (by kernel_rfl) (by kernel_rfl) (by kernel_rfl) (fun _ _ _ h => h) (Or.inl ⟨by rfl, ?_⟩) (by assumption) ?_
        rotate_left
        · intro wq hSw
          obtain ⟨e2, e3⟩ := hSw
          go_simp
          with_reducible rfl
        simp only [Act.put, List.setIfInBounds_toArray, List.set_cons_zero, List.set_cons_succ]
        refine wpAnyH_take (i := 15) (oi := { dst := some 11, op := Op.assign (Operand.tmp 130), type := 3, pos := "law.go:147", after := #[{ on := 13, ground := Ground.data }, { on := 14, ground := Ground.chain }, { on := 0, ground := Ground.phase }, { on := 1, ground := Ground.phase }, { on := 2, ground := Ground.phase }, { on := 3, ground := Ground.phase }, { on := 4, ground := Ground.phase }, { on := 5, ground := Ground.phase }, { on := 6, ground := Ground.phase }, { on := 7, ground := Ground.phase }, { on := 8, ground := Ground.phase }, { on := 9, ground := Ground.phase }, { on := 10, ground := Ground.phase }, { on := 11, ground := Ground.phase }, { on := 12, ground := Ground.phase }, { on := 13, ground := Ground.phase }, { on := 14, ground := Ground.phase }], guard := none }) (v := ?_) rfl (by kernel_rfl) (by kernel_rfl) (by kernel_rfl) (fun _ _ _ h => h) (Or.inl ⟨by rfl, ?_⟩) (by assumption) ?_
        rotate_left
        · intro wq hSw
          obtain ⟨e2, e3⟩ := hSw
          go_simp
          with_reducible rfl
        simp only [Act.put, List.setIfInBounds_toArray, List.set_cons_zero, List.set_cons_succ]
        refine wpAnyH_done (by kernel_rfl) ?_ _
        go_wp2
        refine wp_region_held_drew (S := fun w' => w'.cell? ⟨G, 0, none⟩ = some (.pointer (some ⟨s.L false, 0, none⟩)) ∧ w'.cell? ⟨G, 1, none⟩ = some (.pointer (some ⟨s.L true, 0, none⟩))) (by kernel_rfl) (cp w5 (unhide Hb5)) (fun hHeld => ?_)
        refine wpAnyH_take (i := 0) (oi := { dst := some 131, op := Op.move (Operand.tmp 3), type := 24, pos := "law.go:148", after := #[], guard := none }) (v := ?_) rfl (by kernel_rfl) (by kernel_rfl) (by kernel_rfl) (fun _ _ _ h => h) (Or.inl ⟨by rfl, ?_⟩) (by assumption) ?_
        rotate_left
        · intro wq hSw
          obtain ⟨e0, e1⟩ := hSw
          go_simp
          with_reducible rfl
        simp only [Act.put, List.setIfInBounds_toArray, List.set_cons_zero, List.set_cons_succ]
        refine wpAnyH_take (i := 1) (oi := { dst := some 132, op := Op.nilCheck (Operand.tmp 131), type := 0, pos := "law.go:148", after := #[{ on := 0, ground := Ground.data }], guard := none }) (v := ?_) rfl (by kernel_rfl) (by kernel_rfl) (by kernel_rfl) (fun _ _ _ h => h) (Or.inl ⟨by rfl, ?_⟩) (by assumption) ?_
        rotate_left
        · intro wq hSw
          obtain ⟨e0, e1⟩ := hSw
          go_simp
          with_reducible rfl
        simp only [Act.put, List.setIfInBounds_toArray, List.set_cons_zero, List.set_cons_succ]
        refine wpAnyH_take (i := 2) (oi := { dst := some 133, op := Op.fieldAddr 33 (Operand.tmp 132) 0, type := 0, pos := "law.go:148", after := #[{ on := 1, ground := Ground.data }], guard := none }) (v := ?_) rfl (by kernel_rfl) (by kernel_rfl) (by kernel_rfl) (fun _ _ _ h => h) (Or.inl ⟨by rfl, ?_⟩) (by assumption) ?_
        rotate_left
        · intro wq hSw
          obtain ⟨e0, e1⟩ := hSw
          go_simp
          with_reducible rfl
        simp only [Act.put, List.setIfInBounds_toArray, List.set_cons_zero, List.set_cons_succ]
        refine wpAnyH_take (i := 3) (oi := { dst := some 134, op := Op.indexAddr 27 (Operand.tmp 133) (Operand.const (Value.int IntKind.i64 0)), type := 0, pos := "law.go:148", after := #[{ on := 2, ground := Ground.data }], guard := none }) (v := ?_) rfl (by kernel_rfl) (by kernel_rfl) (by kernel_rfl) (fun _ _ _ h => h) (Or.inl ⟨by rfl, ?_⟩) (by assumption) ?_
        rotate_left
        · intro wq hSw
          obtain ⟨e0, e1⟩ := hSw
          go_simp
          with_reducible rfl
        simp only [Act.put, List.setIfInBounds_toArray, List.set_cons_zero, List.set_cons_succ]
        refine wpAnyH_take (i := 4) (oi := { dst := some 135, op := Op.load 25 (Operand.tmp 134), type := 25, pos := "law.go:148", after := #[{ on := 3, ground := Ground.data }], guard := none }) (v := ?_) rfl (by kernel_rfl) (by kernel_rfl) (by kernel_rfl) (fun _ _ _ h => h) (Or.inl ⟨by rfl, ?_⟩) (by assumption) ?_
        rotate_left
        · intro wq hSw
          obtain ⟨e0, e1⟩ := hSw
          go_simp
          with_reducible rfl
        simp only [Act.put, List.setIfInBounds_toArray, List.set_cons_zero, List.set_cons_succ]
        refine wpAnyH_take (i := 5) (oi := { dst := some 136, op := Op.move (Operand.tmp 3), type := 24, pos := "law.go:148", after := #[], guard := none }) (v := ?_) rfl (by kernel_rfl) (by kernel_rfl) (by kernel_rfl) (fun _ _ _ h => h) (Or.inl ⟨by rfl, ?_⟩) (by assumption) ?_
        rotate_left
        · intro wq hSw
          obtain ⟨e0, e1⟩ := hSw
          go_simp
          with_reducible rfl
        simp only [Act.put, List.setIfInBounds_toArray, List.set_cons_zero, List.set_cons_succ]
        refine wpAnyH_take (i := 6) (oi := { dst := some 137, op := Op.nilCheck (Operand.tmp 136), type := 0, pos := "law.go:148", after := #[{ on := 5, ground := Ground.data }], guard := none }) (v := ?_) rfl (by kernel_rfl) (by kernel_rfl) (by kernel_rfl) (fun _ _ _ h => h) (Or.inl ⟨by rfl, ?_⟩) (by assumption) ?_
        rotate_left
        · intro wq hSw
          obtain ⟨e0, e1⟩ := hSw
          go_simp
          with_reducible rfl
        simp only [Act.put, List.setIfInBounds_toArray, List.set_cons_zero, List.set_cons_succ]
        refine wpAnyH_take (i := 7) (oi := { dst := some 138, op := Op.fieldAddr 33 (Operand.tmp 137) 0, type := 0, pos := "law.go:148", after := #[{ on := 6, ground := Ground.data }], guard := none }) (v := ?_) rfl (by kernel_rfl) (by kernel_rfl) (by kernel_rfl) (fun _ _ _ h => h) (Or.inl ⟨by rfl, ?_⟩) (by assumption) ?_
        rotate_left
        · intro wq hSw
          obtain ⟨e0, e1⟩ := hSw
          go_simp
          with_reducible rfl
        simp only [Act.put, List.setIfInBounds_toArray, List.set_cons_zero, List.set_cons_succ]
        refine wpAnyH_take (i := 8) (oi := { dst := some 139, op := Op.indexAddr 27 (Operand.tmp 138) (Operand.const (Value.int IntKind.i64 1)), type := 0, pos := "law.go:148", after := #[{ on := 7, ground := Ground.data }], guard := none }) (v := ?_) rfl (by kernel_rfl) (by kernel_rfl) (by kernel_rfl) (fun _ _ _ h => h) (Or.inl ⟨by rfl, ?_⟩) (by assumption) ?_
        rotate_left
        · intro wq hSw
          obtain ⟨e0, e1⟩ := hSw
          go_simp
          with_reducible rfl
        simp only [Act.put, List.setIfInBounds_toArray, List.set_cons_zero, List.set_cons_succ]
        refine wpAnyH_take (i := 9) (oi := { dst := some 140, op := Op.load 25 (Operand.tmp 139), type := 25, pos := "law.go:148", after := #[{ on := 8, ground := Ground.data }], guard := none }) (v := ?_) rfl (by kernel_rfl) (by kernel_rfl) (by kernel_rfl) (fun _ _ _ h => h) (Or.inl ⟨by rfl, ?_⟩) (by assumption) ?_
        rotate_left
        · intro wq hSw
          obtain ⟨e0, e1⟩ := hSw
          go_simp
          with_reducible rfl
        simp only [Act.put, List.setIfInBounds_toArray, List.set_cons_zero, List.set_cons_succ]
        refine wpAnyH_take (i := 10) (oi := { dst := some 141, op := Op.move (Operand.tmp 3), type := 24, pos := "law.go:148", after := #[], guard := none }) (v := ?_) rfl (by kernel_rfl) (by kernel_rfl) (by kernel_rfl) (fun _ _ _ h => h) (Or.inl ⟨by rfl, ?_⟩) (by assumption) ?_
        rotate_left
        · intro wq hSw
          obtain ⟨e0, e1⟩ := hSw
          go_simp
          with_reducible rfl
        simp only [Act.put, List.setIfInBounds_toArray, List.set_cons_zero, List.set_cons_succ]
        refine wpAnyH_take (i := 11) (oi := { dst := some 142, op := Op.nilCheck (Operand.tmp 141), type := 0, pos := "law.go:148", after := #[{ on := 10, ground := Ground.data }], guard := none }) (v := ?_) rfl (by kernel_rfl) (by kernel_rfl) (by kernel_rfl) (fun _ _ _ h => h) (Or.inl ⟨by rfl, ?_⟩) (by assumption) ?_
        rotate_left
        · intro wq hSw
          obtain ⟨e0, e1⟩ := hSw
          go_simp
          with_reducible rfl
        simp only [Act.put, List.setIfInBounds_toArray, List.set_cons_zero, List.set_cons_succ]
        refine wpAnyH_take (i := 12) (oi := { dst := some 143, op := Op.fieldAddr 33 (Operand.tmp 142) 0, type := 0, pos := "law.go:148", after := #[{ on := 11, ground := Ground.data }], guard := none }) (v := ?_) rfl (by kernel_rfl) (by kernel_rfl) (by kernel_rfl) (fun _ _ _ h => h) (Or.inl ⟨by rfl, ?_⟩) (by assumption) ?_
        rotate_left
        · intro wq hSw
          obtain ⟨e0, e1⟩ := hSw
          go_simp
          with_reducible rfl
        simp only [Act.put, List.setIfInBounds_toArray, List.set_cons_zero, List.set_cons_succ]
        refine wpAnyH_take (i := 13) (oi := { dst := some 144, op := Op.indexAddr 27 (Operand.tmp 143) (Operand.const (Value.int IntKind.i64 0)), type := 0, pos := "law.go:148", after := #[{ on := 12, ground := Ground.data }], guard := none }) (v := ?_) rfl (by kernel_rfl) (by kernel_rfl) (by kernel_rfl) (fun _ _ _ h => h) (Or.inl ⟨by rfl, ?_⟩) (by assumption) ?_
        rotate_left
        · intro wq hSw
          obtain ⟨e0, e1⟩ := hSw
          go_simp
          with_reducible rfl
        simp only [Act.put, List.setIfInBounds_toArray, List.set_cons_zero, List.set_cons_succ]
        refine wpAnyH_take (i := 14) (oi := { dst := some 145, op := Op.load 25 (Operand.tmp 144), type := 25, pos := "law.go:148", after := #[{ on := 13, ground := Ground.data }], guard := none }) (v := ?_) rfl (by kernel_rfl) (by kernel_rfl) (by kernel_rfl) (fun _ _ _ h => h) (Or.inl ⟨by rfl, ?_⟩) (by assumption) ?_
        rotate_left
        · intro wq hSw
          obtain ⟨e0, e1⟩ := hSw
          go_simp
          with_reducible rfl
        simp only [Act.put, List.setIfInBounds_toArray, List.set_cons_zero, List.set_cons_succ]
        refine wpAnyH_take (i := 17) (oi := { dst := some 148, op := Op.move (Operand.tmp 10), type := 28, pos := "law.go:148", after := #[], guard := none }) (v := ?_) rfl (by kernel_rfl) (by kernel_rfl) (by kernel_rfl) (fun _ _ _ h => h) (Or.inl ⟨by rfl, ?_⟩) (by assumption) ?_
        rotate_left
        · intro wq hSw
          obtain ⟨e0, e1⟩ := hSw
          go_simp
          with_reducible rfl
        simp only [Act.put, List.setIfInBounds_toArray, List.set_cons_zero, List.set_cons_succ]
        refine wpAnyH_ready (rs := [15]) (by kernel_rfl) (by simp) ?_
        refine AllReadyH.cons (o := { dst := some 146, op := Op.buildSlice 73 3 #[(0, Operand.tmp 135), (1, Operand.tmp 140), (2, Operand.tmp 145)], type := 73, pos := "law.go:148", after := #[{ on := 4, ground := Ground.data }, { on := 9, ground := Ground.data }, { on := 14, ground := Ground.data }], guard := none }) rfl (fun K hK => ?_) ?_
        · go_simp
          obtain ⟨X6, hX6⟩ : ∃ X6, (w5.alloc (.cells #[.pointer (some ⟨s.L false, 0, none⟩), .pointer (some ⟨s.L true, 0, none⟩), .pointer (some ⟨s.L false, 0, none⟩)] 25)).drew = X6 := ⟨_, rfl⟩
          have hb6 : Below w5.heap.size w5 X6 := by rw [← hX6]; exact ((Below.refl _ _).alloc (Nat.le_refl _) _).drew
          have hk6 : X6.heap[w5.heap.size]? = some (.cells #[.pointer (some ⟨s.L false, 0, none⟩), .pointer (some ⟨s.L true, 0, none⟩), .pointer (some ⟨s.L false, 0, none⟩)] 25 (0, 0)) := by rw [← hX6]; exact World.alloc_heap_new w5 _
          have HB6 := hide ((unhide Hb5).trans (hb6.mono (unhide Hb5).size))
          have H56 := hide hb6
          have HK6 := hide hk6
          have S6 := cp X6 (unhide HB6)
          try rw [hX6]
          clear hb6 hk6
          refine hK.out _ _ (S6) (fun hHeld => ?_)
          clear hK K
          refine wpAnyH_ready (rs := [16]) (by kernel_rfl) (by simp) ?_
          refine AllReadyH.cons (o := { dst := some 147, op := Op.call { callee := Callee.value (Operand.func 15), args := #[Operand.tmp 146], argTypes := #[73] }, type := 28, pos := "law.go:148", after := #[{ on := 15, ground := Ground.data }], guard := none }) rfl (fun K hK => ?_) ?_
          · go_simp
            refine (mergeL (some ⟨w5.heap.size, 0, none⟩) 3 [(s.L false, s.l false), (s.L true, s.l true), (s.L false, s.l false)] X6 (lsts_of (unhide HK6) ((unhide HWU).below (unhide HB6))) (by simp) (by have := hl false; have := hl true; simp [allOf]; omega)).mono ?_
            rintro e w7 ⟨⟨q7, c7, rfl, ho7⟩, hb7⟩
            rw [merge_ris] at ho7 ⊢
            have HB7 := hide ((unhide HB6).trans (hb7.mono (unhide HB6).size))
            have H57 := hide ((unhide H56).trans (hb7.mono (unhide H56).size))
            have HO7 := hide ho7
            have S7 := cp w7 (unhide HB7)
            clear ho7 hb7
            refine hK.out _ _ (S7) (fun hHeld => ?_)
            clear hK K
            refine wpAnyH_ready (rs := [18]) (by kernel_rfl) (by simp) ?_
            refine AllReadyH.cons (o := { dst := some 149, op := Op.call { callee := Callee.value (Operand.func 12), args := #[Operand.tmp 147, Operand.tmp 148], argTypes := #[28, 28] }, type := 4, pos := "law.go:148", after := #[{ on := 16, ground := Ground.data }, { on := 17, ground := Ground.data }, { on := 16, ground := Ground.chain }], guard := none }) rfl (fun K hK => ?_) ?_
            · go_simp
              refine (sameP q7 c7 (ris (s.l false ++ s.l true)) q5 c5 (ris (s.l false ++ s.l true)) w7 (unhide HO7).ls ((unhide HO5).ls.below (unhide H57)) (by have := hl false; have := hl true; have := ris_len (s.l false ++ s.l true); rw [List.length_append] at this; omega)).mono ?_
              rintro e w8 ⟨rfl, hb8⟩
              rw [decide_eq_true rfl]
              have HB8 := hide ((unhide HB7).trans (hb8.mono (unhide HB7).size))
              have S8 := cp w8 (unhide HB8)
              clear hb8
              refine hK.out _ _ (S8) (fun hHeld => ?_)
              clear hK K
              refine wpAnyH_take (i := 19) (oi := { dst := some 150, op := Op.move (Operand.tmp 149), type := 4, pos := "law.go:148", after := #[{ on := 18, ground := Ground.data }, { on := 18, ground := Ground.chain }], guard := none }) (v := ?_) rfl (by kernel_rfl) (by kernel_rfl) (by kernel_rfl) (fun _ _ _ h => h) (Or.inl ⟨by rfl, ?_⟩) (by assumption) ?_
              rotate_left
              · intro wq hSw
                obtain ⟨e0, e1⟩ := hSw
                go_simp
                with_reducible rfl
              simp only [Act.put, List.setIfInBounds_toArray, List.set_cons_zero, List.set_cons_succ]
              refine wpAnyH_ready (rs := [20]) (by kernel_rfl) (by simp) ?_
              refine AllReadyH.cons (o := { dst := some 151, op := Op.call { callee := Callee.value (Operand.func 15), args := #[Operand.const (Value.slice none 0 0)], argTypes := #[73] }, type := 28, pos := "law.go:148", after := #[{ on := 19, ground := Ground.chain }, { on := 19, ground := Ground.guard }], guard := some (19, true) }) rfl (fun K hK => ?_) ?_
              · go_simp
                refine (mergeL none 0 [] w8 (fun j x h => by simp at h) (by simp) (by simp [allOf])).mono ?_
                rintro e w9 ⟨⟨q9, c9, rfl, ho9⟩, hb9⟩
                have e9 : (ris (allOf [])).length = 0 := rfl
                rw [e9]
                have HB9 := hide ((unhide HB8).trans (hb9.mono (unhide HB8).size))
                have S9 := cp w9 (unhide HB9)
                clear ho9 hb9
                refine hK.out _ _ (S9) (fun hHeld => ?_)
                clear hK K
                refine wpAnyH_take (i := 21) (oi := { dst := some 152, op := Op.call { callee := Callee.builtin Builtin.len, args := #[Operand.tmp 151], argTypes := #[28] }, type := 3, pos := "law.go:148", after := #[{ on := 20, ground := Ground.data }, { on := 19, ground := Ground.guard }], guard := some (19, true) }) (v := ?_) rfl (by kernel_rfl) (by kernel_rfl) (by kernel_rfl) (fun _ _ _ h => h) (Or.inl ⟨by rfl, ?_⟩) (by assumption) ?_
                rotate_left
                · intro wq hSw
                  obtain ⟨e0, e1⟩ := hSw
                  go_simp
                  with_reducible rfl
                simp only [Act.put, List.setIfInBounds_toArray, List.set_cons_zero, List.set_cons_succ]
                refine wpAnyH_take (i := 22) (oi := { dst := some 153, op := Op.binOp BinOp.eql 3 (Operand.tmp 152) (Operand.const (Value.int IntKind.i64 0)) 3, type := 4, pos := "law.go:148", after := #[{ on := 21, ground := Ground.data }, { on := 19, ground := Ground.guard }], guard := some (19, true) }) (v := ?_) rfl (by kernel_rfl) (by kernel_rfl) (by kernel_rfl) (fun _ _ _ h => h) (Or.inl ⟨by rfl, ?_⟩) (by assumption) ?_
                rotate_left
                · intro wq hSw
                  obtain ⟨e0, e1⟩ := hSw
                  go_simp
                  with_reducible rfl
                simp only [Act.put, List.setIfInBounds_toArray, List.set_cons_zero, List.set_cons_succ]
                refine wpAnyH_take (i := 23) (oi := { dst := some 154, op := Op.pick (Operand.tmp 150) (Operand.tmp 153) (Operand.const (Value.bool false)), type := 4, pos := "law.go:148", after := #[{ on := 19, ground := Ground.data }, { on := 22, ground := Ground.data }], guard := none }) (v := ?_) rfl (by kernel_rfl) (by kernel_rfl) (by kernel_rfl) (fun _ _ _ h => h) (Or.inl ⟨by rfl, ?_⟩) (by assumption) ?_
                rotate_left
                · intro wq hSw
                  obtain ⟨e0, e1⟩ := hSw
                  go_simp
                  with_reducible rfl
                simp only [Act.put, List.setIfInBounds_toArray, List.set_cons_zero, List.set_cons_succ]
                refine wpAnyH_take (i := 24) (oi := { dst := some 2, op := Op.assign (Operand.tmp 154), type := 4, pos := "law.go:148", after := #[{ on := 23, ground := Ground.data }, { on := 20, ground := Ground.chain }, { on := 0, ground := Ground.phase }, { on := 1, ground := Ground.phase }, { on := 2, ground := Ground.phase }, { on := 3, ground := Ground.phase }, { on := 4, ground := Ground.phase }, { on := 5, ground := Ground.phase }, { on := 6, ground := Ground.phase }, { on := 7, ground := Ground.phase }, { on := 8, ground := Ground.phase }, { on := 9, ground := Ground.phase }, { on := 10, ground := Ground.phase }, { on := 11, ground := Ground.phase }, { on := 12, ground := Ground.phase }, { on := 13, ground := Ground.phase }, { on := 14, ground := Ground.phase }, { on := 15, ground := Ground.phase }, { on := 16, ground := Ground.phase }, { on := 17, ground := Ground.phase }, { on := 18, ground := Ground.phase }, { on := 19, ground := Ground.phase }, { on := 20, ground := Ground.phase }, { on := 21, ground := Ground.phase }, { on := 22, ground := Ground.phase }, { on := 23, ground := Ground.phase }], guard := none }) (v := ?_) rfl (by kernel_rfl) (by kernel_rfl) (by kernel_rfl) (fun _ _ _ h => h) (Or.inl ⟨by rfl, ?_⟩) (by assumption) ?_
                rotate_left
                · intro wq hSw
                  obtain ⟨e0, e1⟩ := hSw
                  go_simp
                  with_reducible rfl
                simp only [Act.put, List.setIfInBounds_toArray, List.set_cons_zero, List.set_cons_succ]
                refine wpAnyH_done (by kernel_rfl) ?_ _
                go_wp2
                go_ret
                exact ⟨rfl, by rw [← hBw0]; exact (unhide HBU).trans ((unhide HB9).mono hBU)⟩
              exact AllReadyH.nil
            exact AllReadyH.nil
          exact AllReadyH.nil
        exact AllReadyH.nil
      exact AllReadyH.nil
end Go.Proofs.Ytelgpmjafaopmaa

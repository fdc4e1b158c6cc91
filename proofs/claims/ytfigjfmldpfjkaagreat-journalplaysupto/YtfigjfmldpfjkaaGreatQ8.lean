/- The document's Open, the walk. -/
import Derived.Test.YtfigjfmldpfjkaaGreatZam
namespace Go.Proofs.YtfigjfmldpfjkaaGreat
open Go.RowKit Go.Sort Go.Shelf

theorem dis_none {s : JS} (h : s.f = none) : disM s = (0, s) := by unfold disM; rw [h]
theorem dis_some {s : JS} {fl : Fl} (h : s.f = some fl) : disM s = remR s := by unfold disM; rw [h]
theorem er_R {s : JS} (ho : s.off = false) : (erJ s nR == 0) = s.f.isSome := by
  unfold erJ; rw [errRr, ho]; cases s.f.isSome <;> rfl
theorem er_J0 {s : JS} (ho : s.off = false) (hj : s.j = none) : erJ s nJ = 41 ∧ rdJ s nJ = [] := by
  have h1 : erJ s nJ = 41 := by unfold erJ; rw [errJ, ho, hj]; rfl
  refine ⟨h1, ?_⟩
  unfold rdJ rdB
  exact if_neg (by rw [show errE (s.dk 0) nJ = 41 from h1]; decide)
theorem er_J1 {s : JS} {fl : Fl} (ho : s.off = false) (hj : s.j = some fl) : erJ s nJ = 0 ∧ rdJ s nJ = fl.bytes ∧ lsJ s nJ = looseO s.j := by
  have h1 : erJ s nJ = 0 := by unfold erJ; rw [errJ, ho, hj]; rfl
  have h2 : errE (s.dk 0) nJ = 0 := h1
  refine ⟨h1, ?_, ?_⟩
  · unfold rdJ rdB
    rw [if_pos h2]
    show ((s.get nJ).map Fl.bytes).getD [] = _
    rw [JS.get_J, hj]; rfl
  · unfold lsJ lsN
    rw [if_pos h2]
    show ((s.get nJ).map fun fl => fl.bytes.length - fl.lasts).getD 0 = _
    rw [JS.get_J, hj]; rfl
theorem take_sc {l : List UInt8} {n : Nat} (h1 : scL l = (headB n ++ encs (scC l)).length) (h2 : ∃ r, l = headB n ++ encs (scC l) ++ r) : l.take (scL l) = headB n ++ encs (scC l) := by
  obtain ⟨r, hr⟩ := h2
  have h3 : ∀ X : List UInt8, l = X ++ r → l.take X.length = X := fun X hX => by rw [hX, List.take_left]
  rw [h1]
  exact h3 _ hr
theorem SlIn.move {α : Type} [Inhabited α] {enc : α → List Value} {k : Nat} {P : Nat → Prop} {w w' : World} {q : Option Addr} {c : Nat} {l : List α} (h : SlIn enc k P w q c l) (hk : ∀ i, P i → w'.heap[i]? = w.heap[i]?) (hb : ∀ i, P i → i < w'.heap.size) : SlIn enc k P w' q c l := by
  refine ⟨⟨h.1.1, h.1.2.1, h.1.2.2.1, fun h0 => ?_⟩, h.2⟩
  obtain ⟨b, off, hq, _, hc⟩ := h.1.2.2.2 h0
  exact ⟨b, off, hq, hb b (h.2 h0 _ hq), fun j u hj => (cell_same (hk b (h.2 h0 _ hq))).trans (hc j u hj)⟩
/-- What is scanned stands in the new journal's box. -/
def OpS (P : Nat → Prop) (w : World) (g gs : Nat) (s1 : JS) (M S : Nat) (C : List Ch) (q : Option Addr) (c : Nat) (V : World) : Prop := ∃ (P3 : Nat → Prop) (U : World), OpB P w g gs P3 U ∧ RfJ P3 U g s1 M V ∧ V.heap[gs]? = some (.cells #[.pointer (some ⟨g, 0, none⟩), .slice q C.length c, .int .i64 (S : Int), .int .i64 0, .int .i64 0] 73 (0, 0)) ∧ SlIn encC 3 (fun i => P3 i ∧ i < U.heap.size) V q c C
theorem OpS.below {P : Nat → Prop} {w : World} {g gs : Nat} {s1 : JS} {M S : Nat} {C : List Ch} {q : Option Addr} {c : Nat} {V V' : World} (h : OpS P w g gs s1 M S C q c V) (hb : Below V.heap.size V V') : OpS P w g gs s1 M S C q c V' := by
  obtain ⟨P3, U, h1, h2, h3, h4⟩ := h
  exact ⟨P3, U, h1, h2.back hb, (hb.block _ (Array.getElem?_eq_some_iff.1 h3).1).trans h3, h4.kept hb.size fun i _ hl => hb.block i hl⟩
theorem OpS.made {P P2 : Nat → Prop} {w Y u1 U2 : World} {g gs : Nat} {s1 : JS} {M S cL : Nat} {C : List Ch} {qL : Option Addr} (ob : OpB P w g gs P2 Y) (f : RfJ P2 Y g s1 M u1) (o : OwnK encC 63 3 Y.heap.size u1 qL cL C) (gU : u1.grownBy U2 (some gs)) (kU : U2.heap[gs]? = some (.cells #[.pointer (some ⟨g, 0, none⟩), .slice qL C.length cL, .int .i64 (S : Int), .int .i64 0, .int .i64 0] 73 (0, 0))) : OpS P w g gs s1 M S C qL cL U2 := by
  obtain ⟨ob2, f2⟩ := ob.step f gU
  refine ⟨_, U2, ob2, f2, kU, ?_⟩
  have h1 := o.sl.kept gU.size fun i hi hl => gU.block i hl (by intro e; injection e with e; have h2 : Y.heap.size ≤ i := hi; have := ob.ys; omega)
  exact h1.mono fun i hi hl => ⟨Or.inr hi, hl⟩
set_option maxHeartbeats 8000000 in
set_option maxRecDepth 100000 in
theorem ropen_any {P : Nat → Prop} {w : World} {g c : Nat} {r : Rk} {q : Option Addr} {s : JS} {M : Nat} (h : RIn P w g r q c) (hr : RelJ s r M) (hst : (stB s).length ≤ M) (hM : M ≤ 50000000000) (ha : s.acts ≤ 900000) :
    Calls Tryz.prog 26 #[.pointer (some ⟨g, 0, none⟩)] w fun e w' => OpenR P w g s (M + M) e w' := by
  have hpg := h.pg
  have hgl := h.glt
  have f0 := RfJ.refl h hr
  obtain ⟨⟨c0, c1, c2, c3, c4⟩, _⟩ := cells5 h.box
  rw [hr.off] at c2
  cases ho : s.off with
  | true =>
    replace c2 : w.cell? ⟨g, 2, none⟩ = some (.bool true) := by rw [← ho]; exact c2
    have hop := open_off ho
    have F0 := hide (f0.mono (Nat.le_add_right M M))
    have HOP := hide hop
    clear h hr f0 c0 c1 c3 c4 hop
    go_enter Tryz.func26, Tryz.ntmps26
    go_wp2
    refine bodyPost_ret (v := .tuple #[.pointer none, .int .i64 0, .int .i64 40]) (by simp [results, Tryz.f26, go_sem]) rfl ?_
    exact Or.inl ⟨by rw [unhide HOP]; show (40 : Int) ≠ 0; decide, by rw [unhide HOP], by rw [unhide HOP]; exact unhide F0⟩
  | false =>
    replace c2 : w.cell? ⟨g, 2, none⟩ = some (.bool false) := by rw [← ho]; exact c2
    by_cases hd : (disM s).1 = 0
    · have hop := open_mend ho hd
      have o1 := dis_off ho hd
      have n1 := dis_f ho hd
      have j1 := dis_j s
      have hst1 := stB_j (s := (disM s).2) (s' := s) j1
      have a1 := dis_acts s
      have hth := f0.cThere nR s.f.isSome (er_R ho)
      have hrm : ∀ fl, s.f = some fl → Calls Tryz.prog 48 #[.pointer (some ⟨g, 0, none⟩), .string nR] w fun e w' => e = .returned (.int .i64 0) ∧ RfJ P w g (disM s).2 M w' := fun fl hf => by
        have := f0.cRemR hpg hgl (by omega) ho hf
        rw [← dis_some hf, hd] at this
        exact this
      have hsame : s.f = none → RfJ P w g (disM s).2 M w := fun hf => by rw [dis_none hf]; exact f0
      obtain ⟨s1, hs1⟩ : ∃ s1, (disM s).2 = s1 := ⟨_, rfl⟩
      rw [hs1] at hop o1 n1 j1 hst1 a1
      simp only [hs1] at hrm hsame
      have HTH := hide hth
      have HRM := hide hrm
      have HSM := hide hsame
      have HOP := hide hop
      have HST1 := hide hst1
      clear h hr f0 c0 c1 c3 c4 hth hrm hsame hop hst1 hs1 hd
      go_enter Tryz.func26, Tryz.ntmps26
      go_upto_if 22 with (go_at_call 47; refine (unhide HTH).mono ?_; rintro e wt ⟨rfl, hwt⟩; obtain rfl := hwt.symm)
      go_cut [5] from 22 (fun _ V => Hid (RfJ P w g s1 M V))
      case first =>
        cases hf : s.f with
        | none =>
          have f9 := hide (unhide HSM hf)
          go_wp2
          go_meet
          exact f9
        | some fl =>
          have f9 := unhide HRM fl hf
          go_wp2_with (go_at_call 48; refine f9.mono ?_; rintro e wm ⟨rfl, fm⟩; have FM := hide fm; clear fm)
          go_meet
          exact FM
      case rest =>
        have FV := hcut
        obtain ⟨V1, rfl⟩ : ∃ V1, V1 = wc := ⟨_, rfl⟩
        clear hcut HTH HRM HSM c2
        obtain ⟨Y, hY⟩ : ∃ Y, V1.alloc (.cells #[.pointer (some ⟨g, 0, none⟩), .slice none 0 0, .int .i64 0, .int .i64 0, .int .i64 0] 73) = Y := ⟨_, rfl⟩
        obtain ⟨⟨P2, ob, fY⟩, kY⟩ := op_start hpg hgl (unhide FV) hY
        have hgs : V1.heap.size ≠ g := by have := ob.ge; omega
        have lY : V1.heap.size < Y.heap.size := ob.ys
        have hjn := unhide HOP
        have hst1 := unhide HST1
        have hrd := fY.cRead nJ
        have kf : ∀ u, Y.grownBy u (some g) → u.heap[V1.heap.size]? = some (.cells #[.pointer (some ⟨g, 0, none⟩), .slice none 0 0, .int .i64 0, .int .i64 0, .int .i64 0] 73 (0, 0)) := fun u hu => (hu.block _ lY (by intro e; injection e with e; exact hgs e)).trans kY
        have frz : ∀ u, RfJ P2 Y g s1 M u → Y.grownBy u (some g) := fun u hu => by obtain ⟨_, _, _, hh⟩ := hu; exact hh
        cases hj : s.j with
        | none =>
          rw [hj] at j1
          obtain ⟨er, rd⟩ := er_J0 o1 j1
          rw [er, rd] at hrd
          have e0 : stB s = headB 1 := by unfold stB; rw [hj]
          have e1 : headB 1 ++ encs ([] : List Ch) = headB 1 := by simp [encs]
          have hsc := sc_of 1 [] (by decide) (by decide) (by simp)
          rw [e1, ← e0] at hsc
          obtain ⟨sc1, sc2, sc3, sc4⟩ := hsc
          have e2 : mendM s1 = writeM s1 (headB 1) := by
            rw [mend_write (by rw [hst1]; exact sc1) (by rw [j1]; simp), hst1, sc4, List.take_length, e0]
          obtain ⟨b, hb⟩ : ∃ b, headB 1 = b := ⟨_, rfl⟩
          rw [hb] at e1 e2 e0
          have hbl : b.length ≤ M := by rw [← e0]; exact hst
          have han := fY.cAnew ob.pg (Nat.lt_of_lt_of_le hgl ob.gr.size) (by omega) (by omega) 1 (by decide) (by decide) none 0 [] (SlOf.none _) (by simp) (by simp) b (by rw [hb]; exact e1) (by omega)
          have e3 : openM s = writeM s1 b := hjn.trans e2
          obtain ⟨E, hE⟩ : ∃ E, (writeM s1 b).1 = E := ⟨_, rfl⟩
          rw [hE] at han
          have HAN := hide han
          have HRD := hide hrd
          have OB := hide ob
          have KF := hide kf
          have HE3 := hide e3
          have HEE := hide hE
          have HSC := hide (And.intro sc2 (And.intro sc3 sc4))
          have HE0 := hide e0
          have hMb : M + b.length ≤ M + M := by omega
          obtain ⟨⟨y0, y1, y2, y3, y4⟩, _⟩ := cells5 kY
          clear hrd han ob fY kY kf frz e0 e1 e2 e3 sc1 sc2 sc3 sc4 hE er rd hb hjn hst1 FV HOP HST1
          by_cases hz : E = 0
          · have bz : (E != 0) = false := by simp [hz]
            clear hz
            go_upto_region 21 with (first
              | (go_at_call 49; refine (unhide HRD).mono ?_; rintro e u0 ⟨⟨qq, cc, rfl, _⟩, hu0⟩; obtain rfl := hu0.symm)
              | (go_at_call 52; refine (unhide HAN).mono ?_; rintro e u1 ⟨rfl, f1⟩; have F1 := hide f1; (have k1 := unhide KF u1 (by obtain ⟨_, _, _, hh⟩ := f1; exact hh)); (obtain ⟨⟨x0, x1, x2, x3, x4⟩, z0, z1, z2, z3⟩ := cells5 k1); have K1 := hide k1; clear f1 k1))
            obtain ⟨U2, hU2⟩ : ∃ U2, u1.setCell ⟨V1.heap.size, 2, none⟩ (.int .i64 (b.length : Int)) = U2 := ⟨_, rfl⟩
            have gU : u1.grownBy U2 (some V1.heap.size) := by rw [← hU2]; exact grown_set _ _ _ _
            have kU : U2.heap[V1.heap.size]? = some (.cells #[.pointer (some ⟨g, 0, none⟩), .slice none 0 0, .int .i64 (b.length : Int), .int .i64 0, .int .i64 0] 73 (0, 0)) := by rw [← hU2]; exact heap_setCell_same u1 V1.heap.size 2 _ 73 (.int .i64 (b.length : Int)) (unhide K1)
            obtain ⟨⟨t0, t1, t2, t3, t4⟩, _⟩ := cells5 kU
            have hnx := rnext 1 none 0 [] U2 (SlOf.none _) (by simp) (by simp)
            have hy := (unhide OB).fin (unhide F1) gU (L := []) kU ⟨SlOf.none _, fun h => absurd h (by simp)⟩
            have HY := hide hy
            clear gU kU hy
            go_wp2_with (go_at_call 53; refine hnx.mono ?_; rintro e u3 ⟨rfl, hu3⟩; obtain rfl := hu3.symm)
            refine bodyPost_ret (v := .tuple #[.pointer (some ⟨V1.heap.size, 0, none⟩), .int .i64 (nextN 1 []), .int .i64 0]) (by simp [results, Tryz.f26, go_sem]) rfl ?_
            obtain ⟨sc2, sc3, sc4⟩ := unhide HSC
            have e3 := unhide HE3
            have hE0 : E = 0 := by simpa using bz
            refine Or.inr ⟨by rw [e3, unhide HEE]; exact hE0, V1.heap.size, ?_, ?_⟩
            · rw [sc2, sc3]; rfl
            · obtain ⟨⟨r', y1, y2⟩, y3, y4⟩ := unhide HY
              rw [e3, sc3, sc4, unhide HE0]
              exact ⟨⟨r', Rel.mono y1 hMb, y2⟩, y3, y4⟩
          · have bz : (E != 0) = true := by simp [hz]
            have HZ := hide hz
            clear hz
            go_wp2_with (first
              | (go_at_call 49; refine (unhide HRD).mono ?_; rintro e u0 ⟨⟨qq, cc, rfl, _⟩, hu0⟩; obtain rfl := hu0.symm)
              | (go_at_call 52; refine (unhide HAN).mono ?_; rintro e u1 ⟨rfl, f1⟩; have F1 := hide f1; clear f1))
            refine bodyPost_ret (v := .tuple #[.pointer none, .int .i64 0, .int .i64 E]) (by simp [results, Tryz.f26, go_sem]) rfl ?_
            have e3 := unhide HE3
            exact Or.inl ⟨by rw [e3, unhide HEE]; exact unhide HZ, by rw [e3, unhide HEE], by rw [e3]; exact ((unhide OB).no (unhide F1)).mono hMb⟩
        | some fl =>
          rw [hj] at j1
          obtain ⟨er, rd, lo⟩ := er_J1 o1 j1
          have e0 : stB s = fl.bytes := by unfold stB; rw [hj]
          rw [er, rd, ← e0] at hrd
          rw [j1, ← hj] at lo
          obtain ⟨l, hl⟩ : ∃ l, stB s = l := ⟨_, rfl⟩
          rw [hl] at hrd hst hst1
          have hsn := fun (qq : Option Addr) (cc : Nat) (hh : SlOf encB 1 Y qq cc l) => rscan_one qq cc l Y hh (by omega)
          by_cases hse : scE l = 0
          · obtain ⟨n, sn, hn1, hn2, hmay, hsl, hrr⟩ := sc_back hse
            have htk := take_sc hsl hrr
            have hle := sc_le hse
            obtain ⟨C, hC⟩ : ∃ C, scC l = C := ⟨_, rfl⟩
            obtain ⟨b, hb⟩ : ∃ b, headB n ++ encs C = b := ⟨_, rfl⟩
            obtain ⟨S, hS⟩ : ∃ S, scL l = S := ⟨_, rfl⟩
            rw [hC] at hmay hsl htk
            rw [hb] at hsl htk
            rw [hS] at hsl htk hle
            have hCl : C.length * 8 ≤ S := by
              have h8 : C.length * 8 ≤ (encs C).length := by
                clear hmay hb htk hC hsl hle hsn
                induction C with
                | nil => simp [encs]
                | cons x C ih => rw [encs_cons, List.length_append, List.length_cons]; have := one_len8 x; omega
              rw [hsl, ← hb, List.length_append]; omega
            simp only [hse, hC, hS, sn] at hsn
            have hng : Y.grownBy Y (some g) := grown_refl _ _
            obtain ⟨LO, hLO⟩ : ∃ LO, lsJ s1 nJ = LO := ⟨_, rfl⟩
            have hlo2 : looseO s.j = LO := by rw [← lo]; exact hLO
            have HRD := hide hrd
            have HSN := hide hsn
            have OB := hide ob
            have FY := hide fY
            have KF := hide kf
            have HB := hide hb
            have HMY := hide hmay
            have HLO := hide hLO
            have hop2 : ∀ (X : Int × JS), mendM s1 = X → openM s = X := fun X hX => hjn.trans hX
            have hkeep : S = l.length → LO = 0 → openM s = (0, s1) := fun h1 h2 => hop2 _ (mend_same (by rw [hst1]; exact hse) ⟨by rw [j1]; rfl, by rw [hst1, hS]; exact h1, by rw [j1, ← hj, hlo2]; exact h2⟩)
            have hwrit : ¬ (S = l.length ∧ LO = 0) → openM s = writeM s1 b := fun h1 => hop2 _ (by rw [mend_write (by rw [hst1]; exact hse) (by rw [hst1, hS]; rw [j1, ← hj, hlo2]; exact fun h2 => h1 h2.2), hst1, hS, htk])
            have HKP := hide hkeep
            have HWR := hide hwrit
            have hfin : nextN (scN (stB s)) (scC (stB s)) = nextN (n : Int) C ∧ scC (stB s) = C ∧ scL (stB s) = S := by rw [hl]; exact ⟨by rw [sn, hC], hC, hS⟩
            have HFN := hide hfin
            have HSL := hide hsl
            clear hrd hsn ob fY kf frz e0 er rd hl hst1 hjn FV HOP HST1 hse hsl hrr htk hC hb hS hop2 hkeep hwrit hfin hmay lo hlo2 hLO hng sn
            obtain ⟨WR, hWR⟩ : ∃ WR, (!decide (S = l.length ∧ LO = 0)) = WR := ⟨_, rfl⟩
            have HWRD := hide hWR
            have KY := hide kY
            have hlS : S ≤ 50000000000 := by omega
            have hLOz : (0 : Int) ≤ (LO : Int) := by omega
            clear kY hWR
            go_upto_if 39 with (go_at_call 49; refine (unhide HRD).mono ?_; rintro e u0 ⟨⟨qq, cc, rfl, sq⟩, hu0⟩; obtain rfl := hu0.symm; have SQ := hide sq; clear sq)
            go_cut [7, 10, 11, 12, 13, 14] from 40 (fun s7 s10 _ _ _ _ V => s7 = .int .i64 (n : Int) ∧ s10 = .bool WR ∧ ∃ q c, Hid (OpS P w g V1.heap.size s1 M S C q c V))
            case first =>
              go_upto_region 16 with (go_at_call 50; refine (unhide HSN qq cc (unhide SQ).1).mono ?_; rintro e u1 ⟨⟨qL, cL, rfl, oL⟩, bL⟩; (have k1 := (bL.block _ lY).trans (unhide KY)); (have k2 := heap_setCell_same u1 V1.heap.size 1 _ 73 (.slice qL C.length cL) k1); (have k3 := heap_setCell_same _ V1.heap.size 2 _ 73 (.int .i64 (S : Int)) k2); (obtain ⟨⟨x0, x1, x2, x3, x4⟩, p0, p1, p2, p3⟩ := cells5 k1); (obtain ⟨⟨y0', y1', y2', y3', y4'⟩, q0, q1, q2, q3⟩ := cells5 k2); have ST := hide (OpS.made (S := S) (unhide OB) ((unhide FY).back bL) oL (grown_trans (grown_set _ _ _ _) (grown_set _ _ _ _)) k3); clear oL bL k1 k2 k3)
              by_cases hlt : S < l.length
              · have b1 : (S : Int) < (l.length : Int) := by omega
                have hW : WR = true := by rw [← unhide HWRD]; simp; omega
                subst hW
                clear hlt
                go_wp2
                go_meet
                exact ⟨rfl, rfl, qL, cL, ST⟩
              · have b1 : ¬ (S : Int) < (l.length : Int) := by omega
                have hSl : S = l.length := by omega
                have hlo := (unhide ST)
                obtain ⟨P3, U3, _, f3, _, _⟩ := hlo
                have hls := f3.cLoose (by omega) nJ
                rw [unhide HLO] at hls
                by_cases hz : LO = 0
                · have b2 : ¬ (0 : Int) < (LO : Int) := by omega
                  have b3 : decide (0 < LO) = false := decide_eq_false (by omega)
                  have hW : WR = false := by rw [← unhide HWRD]; simp [hSl, hz]
                  subst hW
                  clear hz hSl hlt f3
                  go_wp2_with (go_at_call 51; refine hls.mono ?_; rintro e u4 ⟨rfl, b4⟩; have ST4 := hide ((unhide ST).below b4); clear b4)
                  go_meet
                  exact ⟨rfl, rfl, qL, cL, ST4⟩
                · have b2 : (0 : Int) < (LO : Int) := by omega
                  have b3 : decide (0 < LO) = true := decide_eq_true (by omega)
                  have hW : WR = true := by rw [← unhide HWRD]; simp [hz]
                  subst hW
                  clear hz hSl hlt f3
                  go_wp2_with (go_at_call 51; refine hls.mono ?_; rintro e u4 ⟨rfl, b4⟩; have ST4 := hide ((unhide ST).below b4); clear b4)
                  go_meet
                  exact ⟨rfl, rfl, qL, cL, ST4⟩
            case rest =>
              obtain ⟨rfl, rfl, qL, cL, ST⟩ := hcut
              obtain ⟨V, rfl⟩ : ∃ V, V = wc := ⟨_, rfl⟩
              obtain ⟨P3, U, ob3, f3, kV, rw3⟩ := unhide ST
              obtain ⟨⟨x0, x1, x2, x3, x4⟩, z0, z1, z2, z3⟩ := cells5 kV
              have hgsU : V1.heap.size < U.heap.size := ob3.ys
              have hws := hgl
              cases hWc : WR with
              | false =>
                have hk : S = l.length ∧ LO = 0 := by have := unhide HWRD; rw [hWc] at this; simpa using this
                have hop := unhide HKP hk.1 hk.2
                have hnx := rnext (n : Int) qL cL C V rw3.1 (by omega) (unhide HMY)
                have hy := ob3.fin (u' := V) f3 (grown_refl _ _) kV (rw3.mono fun i hi _ => Or.inl hi.1)
                have HY := hide hy
                have HOP2 := hide hop
                subst hWc
                clear ob3 f3 kV rw3 hy hop hk ST
                go_wp2_with (go_at_call 53; refine hnx.mono ?_; rintro e u3 ⟨rfl, hu3⟩; obtain rfl := hu3.symm)
                refine bodyPost_ret (v := .tuple #[.pointer (some ⟨V1.heap.size, 0, none⟩), .int .i64 (nextN (n : Int) C), .int .i64 0]) (by simp [results, Tryz.f26, go_sem]) rfl ?_
                obtain ⟨g1, g2, g3⟩ := unhide HFN
                have e3 := unhide HOP2
                refine Or.inr ⟨by rw [e3], V1.heap.size, by rw [g1], ?_⟩
                obtain ⟨⟨r', y1, y2⟩, y3, y4⟩ := unhide HY
                rw [e3, g2, g3]
                exact ⟨⟨r', Rel.mono y1 (Nat.le_add_right M M), y2⟩, y3, y4⟩
              | true =>
                have hk : ¬ (S = l.length ∧ LO = 0) := fun h => by have := unhide HWRD; rw [hWc, decide_eq_true h] at this; cases this
                have hop := unhide HWR hk
                have hbS : b.length = S := (unhide HSL).symm
                have han := f3.cAnew ob3.pg (Nat.lt_of_lt_of_le hgl ob3.gr.size) (by omega) (by omega) n hn1 hn2 qL cL C rw3.1 (by omega) (unhide HMY) b (unhide HB) (by omega)
                obtain ⟨E, hE⟩ : ∃ E, (writeM s1 b).1 = E := ⟨_, rfl⟩
                rw [hE, hbS] at han
                have hMb : M + S ≤ M + M := by omega
                have HAN := hide han
                have HOP2 := hide hop
                have HEE := hide hE
                have OB3 := hide ob3
                have rwm : ∀ u, RfJ P3 U g (writeM s1 b).2 (M + S) u → SlIn encC 3 (fun i => P3 i ∧ i < U.heap.size) u qL cL C := fun u hu => by
                  obtain ⟨_, _, _, hh⟩ := hu
                  obtain ⟨_, _, _, hv⟩ := f3
                  refine rw3.move (fun i hi => ?_) (fun i hi => Nat.lt_of_lt_of_le hi.2 hh.size)
                  have hne : some i ≠ some g := by intro e; injection e with e; exact ob3.pg (e ▸ hi.1)
                  exact (hh.block i hi.2 hne).trans (hv.block i hi.2 hne).symm
                have kfw : ∀ u, RfJ P3 U g (writeM s1 b).2 (M + S) u → u.heap[V1.heap.size]? = some (.cells #[.pointer (some ⟨g, 0, none⟩), .slice qL C.length cL, .int .i64 (S : Int), .int .i64 0, .int .i64 0] 73 (0, 0)) := fun u hu => by
                  obtain ⟨_, _, _, hh⟩ := hu
                  obtain ⟨_, _, _, hv⟩ := f3
                  have hne : some V1.heap.size ≠ some g := by intro e; injection e with e; exact hgs e
                  exact (hh.block _ hgsU hne).trans ((hv.block _ hgsU hne).symm.trans kV)
                have RWM := hide rwm
                have KFW := hide kfw
                subst hWc
                clear ob3 f3 kV rw3 hop hk han hE ST hbS rwm kfw
                by_cases hz : E = 0
                · have bz : (E != 0) = false := by simp [hz]
                  clear hz
                  go_upto_region 21 with (go_at_call 52; refine (unhide HAN).mono ?_; rintro e u1 ⟨rfl, f1⟩; (have k1 := unhide KFW u1 f1); (obtain ⟨⟨x0, x1, x2, x3, x4⟩, z0, z1, z2, z3⟩ := cells5 k1); have F1 := hide f1; have K1 := hide k1; clear f1 k1)
                  obtain ⟨U2, hU2⟩ : ∃ U2, u1.setCell ⟨V1.heap.size, 2, none⟩ (.int .i64 (S : Int)) = U2 := ⟨_, rfl⟩
                  have gU : u1.grownBy U2 (some V1.heap.size) := by rw [← hU2]; exact grown_set _ _ _ _
                  have kU : U2.heap[V1.heap.size]? = some (.cells #[.pointer (some ⟨g, 0, none⟩), .slice qL C.length cL, .int .i64 (S : Int), .int .i64 0, .int .i64 0] 73 (0, 0)) := by rw [← hU2]; exact heap_setCell_same u1 V1.heap.size 2 _ 73 (.int .i64 (S : Int)) (unhide K1)
                  obtain ⟨⟨t0, t1, t2, t3, t4⟩, _⟩ := cells5 kU
                  have rU := unhide RWM u1 (unhide F1)
                  have kkU : SlOf encC 3 U2 qL cL C := (rU.kept gU.size fun i hi hl => gU.block i hl (by intro e; injection e with e; exact ((unhide OB3).p2 i hi.1).2 e)).1
                  have hnx := rnext (n : Int) qL cL C U2 kkU (by omega) (unhide HMY)
                  have hy := (unhide OB3).fin (unhide F1) gU kU (rU.mono fun i hi _ => Or.inl hi.1)
                  have HY := hide hy
                  clear gU kU hy
                  go_wp2_with (go_at_call 53; refine hnx.mono ?_; rintro e u3 ⟨rfl, hu3⟩; obtain rfl := hu3.symm)
                  refine bodyPost_ret (v := .tuple #[.pointer (some ⟨V1.heap.size, 0, none⟩), .int .i64 (nextN (n : Int) C), .int .i64 0]) (by simp [results, Tryz.f26, go_sem]) rfl ?_
                  obtain ⟨g1, g2, g3⟩ := unhide HFN
                  have e3 := unhide HOP2
                  have hE0 : E = 0 := by simpa using bz
                  refine Or.inr ⟨by rw [e3, unhide HEE]; exact hE0, V1.heap.size, by rw [g1], ?_⟩
                  obtain ⟨⟨r', y1, y2⟩, y3, y4⟩ := unhide HY
                  rw [e3, g2, g3]
                  exact ⟨⟨r', Rel.mono y1 hMb, y2⟩, y3, y4⟩
                · have bz : (E != 0) = true := by simp [hz]
                  have HZ := hide hz
                  clear hz
                  go_wp2_with (go_at_call 52; refine (unhide HAN).mono ?_; rintro e u1 ⟨rfl, f1⟩; have F1 := hide f1; clear f1)
                  refine bodyPost_ret (v := .tuple #[.pointer none, .int .i64 0, .int .i64 E]) (by simp [results, Tryz.f26, go_sem]) rfl ?_
                  have e3 := unhide HOP2
                  exact Or.inl ⟨by rw [e3, unhide HEE]; exact unhide HZ, by rw [e3, unhide HEE], by rw [e3]; exact ((unhide OB3).no (unhide F1)).mono hMb⟩
          · have hop := hjn.trans (mend_bad (by rw [hst1]; exact hse))
            rw [hst1] at hop
            have HOP2 := hide hop
            obtain ⟨E, hE⟩ : ∃ E, scE l = E := ⟨_, rfl⟩
            rw [hE] at hse
            simp only [hE] at hsn
            have HEE := hide hE
            have bz : (E != 0) = true := by simp [hse]
            have HZ := hide hse
            have HRD := hide hrd
            have HSN := hide hsn
            have hno := hide ((ob.no fY).mono (Nat.le_add_right M M))
            have OB := hide ob
            clear hrd hsn ob fY kY kf frz e0 er rd hl hst1 hjn FV HOP HST1 hse hE hop lo
            go_wp2_with (first
              | (go_at_call 49; refine (unhide HRD).mono ?_; rintro e u0 ⟨⟨qq, cc, rfl, sq⟩, hu0⟩; obtain rfl := hu0.symm; have SQ := hide sq; clear sq)
              | (go_at_call 50; refine (unhide HSN qq cc (unhide SQ).1).mono ?_; rintro e u1 ⟨⟨qL, cL, rfl, oL⟩, bL⟩; have BL := hide bL; clear oL bL))
            refine bodyPost_ret (v := .tuple #[.pointer none, .int .i64 0, .int .i64 E]) (by simp [results, Tryz.f26, go_sem]) rfl ?_
            have e3 := unhide HOP2
            exact Or.inl ⟨by rw [e3]; show scE l ≠ 0; rw [unhide HEE]; exact unhide HZ, by rw [e3, unhide HEE], by rw [e3]; exact (unhide hno).back (unhide BL)⟩
    · have hop := open_dis ho hd
      cases hf : s.f with
      | none => exact absurd (by rw [dis_none hf]) hd
      | some fl =>
        have hth := f0.cThere nR true (by rw [er_R ho, hf]; rfl)
        have hrm := f0.cRemR hpg hgl (by omega) ho hf
        rw [← dis_some hf] at hrm
        obtain ⟨E, hE⟩ : ∃ E, (disM s).1 = E := ⟨_, rfl⟩
        rw [hE] at hrm hd
        have bz : (E != 0) = true := by simp [hd]
        have HTH := hide hth
        have HRM := hide hrm
        have HOP := hide hop
        have HEE := hide hE
        have HZ := hide hd
        clear h hr f0 c0 c1 c3 c4 hth hrm hop hE hd
        go_enter Tryz.func26, Tryz.ntmps26
        go_wp2_with (first
          | (go_at_call 47; refine (unhide HTH).mono ?_; rintro e wt ⟨rfl, hwt⟩; obtain rfl := hwt.symm)
          | (go_at_call 48; refine (unhide HRM).mono ?_; rintro e wm ⟨rfl, fm⟩; have FM := hide fm; clear fm))
        refine bodyPost_ret (v := .tuple #[.pointer none, .int .i64 0, .int .i64 E]) (by simp [results, Tryz.f26, go_sem]) rfl ?_
        have e3 := unhide HOP
        exact Or.inl ⟨by rw [e3, unhide HEE]; exact unhide HZ, by rw [e3, unhide HEE], by rw [e3]; exact (unhide FM).mono (Nat.le_add_right M M)⟩
end Go.Proofs.YtfigjfmldpfjkaaGreat

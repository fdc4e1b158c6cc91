/- The statement JournalPlays, over one call of its world. -/
import Derived.Test.YtfigjfmldpfjkaaGreatZap
import Derived.Test.YtfigjfmldpfjkaaGreatJ8
import Derived.Deep.RegionLaw
namespace Go.Proofs.YtfigjfmldpfjkaaGreat
open Go.RowKit Go.Sort Go.Shelf

/-- One call of the world does as it should. -/
def DoOk : Prop := ∀ (A0 : Nat) (B P : Nat → Prop) (w : World) (gw d g : Nat) (s : JS) (M A : Nat), KS B P w gw d g s M A → Lo A0 B gw g w → 20 ≤ M → A ≤ 4000 → ∀ (kd : Int) (pc : Option Addr) (cc : Nat) (cs : List Ch) (n m : Int) (pi : Option Addr) (ci : Nat) (is : List Int) (pb : Option Addr) (cb : Nat) (bs : List UInt8), SlIn encC 3 (· < A0) w pc cc cs → SlIn encI 1 (· < A0) w pi ci is → SlIn encB 1 (· < A0) w pb cb bs → M + (20 + cs.length * 4130 + bs.length) ≤ 25000000000 → is.length ≤ 25000000000 → n ≤ 9223372036854775807 →
    Calls Tryz.prog 9 #[.pointer (some ⟨gw, 0, none⟩), .agg #[.int .i64 kd, .slice pc cs.length cc, .int .i64 n, .int .i64 m, .slice pi is.length ci, .slice pb bs.length cb]] w fun e w' => e = .returned (.bool true) ∧ ∃ s', KX B P w gw g s' (M + (20 + cs.length * 4130 + bs.length)) (A + 4) w'
theorem sl_inJ {α : Type} [Inhabited α] {enc : α → List Value} {k : Nat} {w : World} {q : Option Addr} {c : Nat} {l : List α} (h : SlOf enc k w q c l) : SlIn enc k (· < w.heap.size) w q c l := ⟨h, fun h0 a ha => by
  obtain ⟨b, off, hq, hb, _⟩ := h.2.2.2 h0
  rw [ha] at hq
  injection hq with hq
  rw [hq]
  exact hb⟩
/-- Sizes behind the first calls. -/
def mkN (l : List Od) (k : Nat) : Nat := 100 + ((l.take k).map fun o => 20 + o.cs.length * 4130 + o.bs.length).sum
theorem mkN_snoc {l : List Od} {k : Nat} {o : Od} (h : l[k]? = some o) : mkN l (k + 1) = mkN l k + (20 + o.cs.length * 4130 + o.bs.length) := by
  unfold mkN
  rw [List.take_add_one, h]
  simp
  omega
theorem mkN_le (l : List Od) (k : Nat) : mkN l k ≤ 100 + 20 * l.length + odsW l * 4130 := by
  unfold mkN
  induction l generalizing k with
  | nil => simp
  | cons a l ih =>
    cases k with
    | zero => simp; omega
    | succ k => have := ih k; simp only [List.take_succ_cons, List.map_cons, List.sum_cons, odsW, odW, List.length_cons]; omega
/-- The loop's state. -/
structure LpJ (w : World) (ops : List Od) (k : Nat) (gw : Nat) (wr : World) : Prop where
  ex : ∃ (B P : Nat → Prop) (d g : Nat) (s : JS), KS B P wr gw d g s (mkN ops k) (4 + 4 * k) ∧ Lo w.heap.size B gw g wr
  bel : Below w.heap.size w wr
theorem ksStart {w1 w2 w4 : World} (hd : JAt (· < w1.heap.size) w2 (w1.heap.size + 1) newJ) (b2 : Below w1.heap.size w1 w2) (b4 : Below w2.heap.size w2 w4) (hb : w4.heap[w2.heap.size]? = some (.cells #[.slice none 0 0, .int .i64 0, .bool false, .int .i64 0, .int .i64 0] 30 (0, 0))) (hw : w4.heap[w2.heap.size + 1]? = some (.cells #[.pointer (some ⟨w1.heap.size + 1, 0, none⟩), .pointer none, .pointer (some ⟨w2.heap.size, 0, none⟩), .pointer none] 34 (0, 0))) : KS (fun i => i < w1.heap.size ∨ (w2.heap.size ≤ i ∧ i < w4.heap.size)) (fun _ => False) w4 (w2.heap.size + 1) (w1.heap.size + 1) w2.heap.size newJ 100 0 := by
  have h2 := b2.size
  have h4 : w2.heap.size + 1 < w4.heap.size := (Array.getElem?_eq_some_iff.1 hw).1
  refine ⟨⟨[], 0, false, 0, 0⟩, ⟨⟨fun nm fl => ?_, List.Pairwise.nil, fun x hx => by simp at hx⟩, rfl, rfl, fun _ => ⟨rfl, rfl⟩⟩, ⟨Nat.zero_le _, Nat.zero_le _, Nat.le_refl _⟩, Or.inl ⟨⟨fun i hi => by omega, hw, Or.inr ⟨by omega, h4⟩, Or.inr ⟨Nat.le_refl _, by omega⟩, fun i hi => hi.elim, fun h => h, by omega, none, 0, ⟨fun h => h, by simp, hb, ⟨SlOf.none _, fun h => absurd h (by simp)⟩, fun x hx => by simp at hx⟩⟩, ?_⟩⟩
  · constructor
    · intro h
      have : newJ.get nm = some fl := h
      by_cases e1 : nm = nJ
      · subst e1; rw [JS.get_J] at this; cases this
      · by_cases e2 : nm = nR
        · subst e2; rw [JS.get_R] at this; cases this
        · rw [JS.get_no _ e1 e2] at this; cases this
    · rintro ⟨x, hx, _⟩; simp at hx
  · refine (hd.more fun i hi => ?_).below b4
    rcases hi with hi | hi
    · exact Or.inl hi
    · exact Or.inr (Or.inl hi.1)
theorem LpJ.next {w Y w' : World} {ops : List Od} {k gw : Nat} {B P : Nat → Prop} {g : Nat} {s' : JS} {o : Od} (ho : ops[k]? = some o) (hlo : Lo w.heap.size B gw g Y) (bY : Below w.heap.size w Y) (h : KX B P Y gw g s' (mkN ops k + (20 + o.cs.length * 4130 + o.bs.length)) (4 + 4 * k + 4) w') : LpJ w ops (k + 1) gw w' := by
  obtain ⟨B', P', d', g', h1, h2, h3⟩ := h.lo hlo
  refine ⟨⟨B', P', d', g', s', ?_, h2⟩, bY.trans h3⟩
  rw [mkN_snoc ho]
  exact h1.mono (Nat.le_refl _) (by omega)
set_option maxRecDepth 100000 in
theorem open_nil (w : World) : Calls Tryz.prog 7 #[.pointer none] w fun e w' => e = .returned (.tuple #[.pointer none, .int .i64 0, .slice none 0 0, .int .i64 1]) ∧ w' = w := by
  go_enter Tryz.func7, Tryz.ntmps7
  go_wp2
  refine bodyPost_ret (v := .tuple #[.pointer none, .int .i64 0, .slice none 0 0, .int .i64 1]) (by simp [results, Tryz.f7, go_sem]) rfl ?_
  exact ⟨rfl, rfl⟩
set_option maxRecDepth 100000 in
theorem jplays_long (q0 : Option Addr) (k0 n0 : Nat) (w : World) (h : 120 < n0) :
    Calls Tryz.prog 3 #[.slice q0 n0 k0] w fun e w' => e = .returned (.bool true) ∧ Below w.heap.size w w' := by
  have hfx := fixed_any w
  have hN := fun (W : World) => new_js W
  have j1 : (120 : Int) < (n0 : Int) := by omega
  go_enter Tryz.func3, Tryz.ntmps3
  go_wp2_with (first
    | (go_at_call 5; refine hfx.mono ?_; rintro e w1 ⟨rfl, b1⟩; have B1 := hide b1; clear b1)
    | (go_at_call 6; refine (hN w1).mono ?_; rintro e w2 ⟨rfl, d2, b2⟩; have B2 := hide (below_sub (unhide B1) b2); clear d2 b2))
  go_ret
  exact ⟨rfl, ((unhide B2).alloc (unhide B2).size _).alloc (by have := (unhide B2).size; simp; omega) _⟩
end Go.Proofs.YtfigjfmldpfjkaaGreat
namespace Go.Proofs.YtfigjfmldpfjkaaGreat
open Go.RowKit Go.Sort Go.Shelf

set_option maxHeartbeats 8000000 in
set_option maxRecDepth 100000 in
theorem do_n {A0 : Nat} {B P : Nat → Prop} {w : World} {gw d g : Nat} {s : JS} {M A : Nat} {r : Rk} (h : KM B P w gw d g none none r) (hd : JAt B w d s) (hr : RelJ s r M) (hs : Sz s M A) (hlo : Lo A0 B gw g w) (h20 : 20 ≤ M) (kd : Int) (pc : Option Addr) (cc : Nat) (cs : List Ch) (n m : Int) (pi : Option Addr) (ci : Nat) (is : List Int) (pb : Option Addr) (cb : Nat) (bs : List UInt8) (sc : SlIn encC 3 (· < A0) w pc cc cs) (si : SlIn encI 1 (· < A0) w pi ci is) (sb : SlIn encB 1 (· < A0) w pb cb bs) (hM : M + (20 + cs.length * 4130 + bs.length) ≤ 25000000000) (k4 : kd ≠ 4) (k5 : kd ≠ 5) (k6 : kd ≠ 6) (k7 : kd ≠ 7) :
    Calls Tryz.prog 9 #[.pointer (some ⟨gw, 0, none⟩), .agg #[.int .i64 kd, .slice pc cs.length cc, .int .i64 n, .int .i64 m, .slice pi is.length ci, .slice pb bs.length cb]] w fun e w' => e = .returned (.bool true) ∧ ∃ s', KX B P w gw g s' (M + (20 + cs.length * 4130 + bs.length)) (A + 4) w' := by
  obtain ⟨Y, hY⟩ : ∃ Y, w.alloc (.cells #[.int .i64 kd, .slice pc cs.length cc, .int .i64 n, .int .i64 m, .slice pi is.length ci, .slice pb bs.length cb] 42) = Y := ⟨_, rfl⟩
  have bY : Below w.heap.size w Y := by rw [← hY]; exact (Below.refl _ _).alloc (Nat.le_refl _) _
  have kY : Y.heap[w.heap.size]? = some (.cells #[.int .i64 kd, .slice pc cs.length cc, .int .i64 n, .int .i64 m, .slice pi is.length ci, .slice pb bs.length cb] 42 (0, 0)) := by rw [← hY]; exact heap_alloc_new _ _
  have hlY : w.heap.size < Y.heap.size := (Array.getElem?_eq_some_iff.1 kY).1
  have hcells : ∀ W : World, W.heap[w.heap.size]? = Y.heap[w.heap.size]? → ((W.cell? ⟨w.heap.size, 0, none⟩ = some (.int .i64 kd) ∧ W.cell? ⟨w.heap.size, 1, none⟩ = some (.slice pc cs.length cc)) ∧ (W.cell? ⟨w.heap.size, 2, none⟩ = some (.int .i64 n) ∧ W.cell? ⟨w.heap.size, 3, none⟩ = some (.int .i64 m))) ∧ (W.cell? ⟨w.heap.size, 4, none⟩ = some (.slice pi is.length ci) ∧ W.cell? ⟨w.heap.size, 5, none⟩ = some (.slice pb bs.length cb)) := fun W hW => by
    have h1 := hW.trans kY
    refine ⟨⟨⟨?_, ?_⟩, ?_, ?_⟩, ?_, ?_⟩ <;> (unfold World.cell?; rw [h1]; rfl)
  obtain ⟨⟨⟨z0, z1⟩, z2, z3⟩, z4, z5⟩ := hcells Y rfl
  have scY : SlOf encC 3 Y pc cc cs := (sc.kept bY.size fun i _ hl => bY.block i hl).1
  have HC := hide hcells
  have BY := hide bY
  have SCY := hide scY
  have own0 : OwnK encC 63 3 Y.heap.size (Y.alloc (.cells #[] 63)) (some ⟨Y.heap.size, 0, none⟩) 0 [] := by
    have : (flatK encC 3 ([] : List Ch).toArray).toList = [] := by simp [flatK]
    unfold OwnK; rw [this]; exact World.ownsRow_made Y #[] 0 (Nat.le_refl _) (by decide) (by simp)
  have bX : Below Y.heap.size Y (Y.alloc (.cells #[] 63)) := (Below.refl _ _).alloc (Nat.le_refl _) _
  have OW0 := hide own0
  have SCX := hide (scY.below bX).src
  have BX := hide bX
  have HNAT := hide h
  have HLO := hide hlo
  have SC := hide sc
  have SI := hide si
  have SB := hide sb
  have hks : KS B P w gw d g s M A := ⟨r, hr, hs, Or.inl ⟨h, hd⟩⟩
  have HGS := hide hks.gs
  have HD := hide hd
  have HR := hide hr
  have HS := hide hs
  clear hcells bY scY own0 bX h hlo sc si sb kY hks hd hr hs
  obtain ⟨MM, hMM⟩ : ∃ MM, M + (20 + cs.length * 4130 + bs.length) = MM := ⟨_, rfl⟩
  rw [hMM]
  rw [hMM] at hM
  go_enter Tryz.func9, Tryz.ntmps9
  go_upto_block 0 with (at_builtin; refine wpList_appC rfl _ _ rfl Y.heap.size (some ⟨Y.heap.size, 0, none⟩) 0 [] pc cc cs 0 cs.length cs.length rfl rfl (Nat.zero_add _) rfl rfl (unhide OW0) (unhide SCX) (by unfold maxLen; omega) (by omega) (unhide BX).size ?_; intro q2 c2 w2 o2 g2 _; have O2 := hide o2; have G2 := hide g2; clear o2 g2)
  replace O2 : Hid (OwnK encC 63 3 Y.heap.size w2 q2 c2 cs) := O2
  have B2 : Hid (Below Y.heap.size Y w2) := hide (by
    have hb := unhide BX
    have g2 := unhide G2
    refine ⟨g2.os.trans hb.os, g2.tape.trans hb.tape, g2.output.trans hb.output, Nat.le_trans hb.size g2.size, fun i hi => (g2.block i (Nat.lt_of_lt_of_le hi hb.size) (fun e => ?_)).trans (hb.block i hi)⟩
    have e2 : i = Y.heap.size := by injection e
    omega)
  have b2 : Below w.heap.size w w2 := below_sub (unhide BY) (unhide B2)
  obtain ⟨B1, hB1⟩ : ∃ B1, moreB B w w2 = B1 := ⟨_, rfl⟩
  have hgl : g < w.heap.size := (unhide HNAT).gl
  have hwl : gw < w.heap.size := (unhide HNAT).lt
  have hw2 : w.heap.size < w2.heap.size := Nat.lt_of_lt_of_le hlY (unhide B2).size
  have hl0 := (unhide HLO)
  have hGS := unhide HGS
  have k2 : w2.heap[w.heap.size]? = Y.heap[w.heap.size]? := (unhide B2).block _ hlY
  have hc3 : w2.cell? ⟨gw, 3, none⟩ = w.cell? ⟨gw, 3, none⟩ := cell_same (b2.block gw hwl)
  have hqb : ∀ p, q2 = some p → w.heap.size ≤ p.block ∧ p.block < w2.heap.size := fun p hp => by
    obtain ⟨h1, cur, hc⟩ := own_cellsG (unhide O2) hp
    exact ⟨by omega, (Array.getElem?_eq_some_iff.1 hc).1⟩
  have hkp : ∀ s' M' A' V, KX B1 P w2 gw g s' M' A' V → Kpt (fun i => w.heap.size ≤ i ∨ i < A0) w2 V := fun s' M' A' V hx => by
    obtain ⟨d', g', _, B', P', _, _, hk, _⟩ := hx
    refine ⟨hk.os, hk.tape, hk.output, hk.size, fun i hi hl => hk.block i ⟨?_, ?_, ?_, fun e => ?_⟩ hl⟩
    · rw [← hB1]
      rcases hi with hi | hi
      · exact Or.inr ⟨hi, hl⟩
      · exact Or.inl (hl0.all i hi)
    · have := hl0.og
      omega
    · have := hl0.ow
      omega
    · rw [hc3] at e
      have h1 := hGS i e
      have h2 := hl0.os i e
      omega
  have hinp : ∀ i, i < A0 → B1 i ∧ i ≠ g ∧ i ≠ gw := fun i hi => by
    have h1 := hl0.og
    have h2 := hl0.ow
    exact ⟨by rw [← hB1]; exact Or.inl (hl0.all i hi), by omega, by omega⟩
  have scW : SlIn encC 3 (· < A0) w2 pc cc cs := (unhide SC).kept b2.size fun i _ hl => b2.block i hl
  have siW : SlIn encI 1 (· < A0) w2 pi ci is := (unhide SI).kept b2.size fun i _ hl => b2.block i hl
  have sbW : SlIn encB 1 (· < A0) w2 pb cb bs := (unhide SB).kept b2.size fun i _ hl => b2.block i hl
  have hfin : ∀ s' V, KX B1 P w2 gw g s' MM (A + 4) V → ((V.heap[w.heap.size]? = Y.heap[w.heap.size]? ∧ OwnK encC 63 3 Y.heap.size V q2 c2 cs) ∧ SlOf encC 3 V pc cc cs) ∧ ∀ V1 V2, Below V.heap.size V V1 → V1.grownBy V2 (q2.map (·.block)) → Calls Tryz.prog 34 #[.pointer (some ⟨gw, 0, none⟩)] V2 fun e w' => e = .returned (.bool true) ∧ ∃ s', KX B P w gw g s' MM (A + 4) w' := fun s' V hx => by
    have hk := hkp s' _ _ V hx
    refine ⟨⟨⟨(hk.block _ (Or.inl (Nat.le_refl _)) hw2).trans k2, own_sameG (unhide O2) fun p hp => hk.block _ (Or.inl (hqb p hp).1) (hqb p hp).2⟩, (scW.kept hk.size fun i hi hl => hk.block i (Or.inr hi) hl).1⟩, fun V1 V2 b1 gg => ?_⟩
    rw [← hB1] at hx
    have hx1 := KX.turn (hx.below b1 (Nat.lt_of_lt_of_le (Nat.lt_trans hwl hw2) hk.size)) (unhide HNAT) hGS b2 hqb gg
    have hx2 := hx1
    obtain ⟨d', g', _, B', P', hks, _⟩ := hx1
    refine (wsame_any hks (by omega)).mono ?_
    rintro e w' ⟨e1, e2⟩
    exact ⟨e1, s', hx2.below e2 (Nat.lt_of_lt_of_le (Nat.lt_trans hwl hw2) (Nat.le_trans hk.size (Nat.le_trans b1.size gg.size)))⟩
  have HKP := hide hkp
  have HINP := hide hinp
  have SCW := hide scW
  have SIW := hide siW
  have SBW := hide sbW
  have HFIN := hide hfin
  have HB1 := hide hB1
  have BW2 := hide b2
  obtain ⟨⟨⟨z0, z1⟩, z2, z3⟩, z4, z5⟩ := unhide HC w2 k2
  have hbx : ∀ V, Kpt (fun i => w.heap.size ≤ i ∨ i < A0) w2 V → V.heap[w.heap.size]? = Y.heap[w.heap.size]? := fun V hk => (hk.block _ (Or.inl (Nat.le_refl _)) hw2).trans k2
  have HBX := hide hbx
  have km2 : KM B1 P w2 gw d g none none r := by rw [← hB1]; exact (unhide HNAT).more b2
  have jd2 : JAt B1 w2 d s := by rw [← hB1]; exact (unhide HD).moreY b2
  obtain ⟨⟨y0, y1, y2, y3⟩, yf⟩ := cellsW km2.box
  replace y1 : w2.cell? ⟨gw, 1, none⟩ = some (.pointer none) := y1
  replace y3 : w2.cell? ⟨gw, 3, none⟩ = some (.pointer none) := y3
  have hself : KX B P w gw g s MM (A + 4) w2 := by
    have h9 : KX B1 P w2 gw g s MM (A + 4) w2 := KX.mono (KE.kx (d' := d) ⟨B1, P, ⟨r, unhide HR, unhide HS, Or.inl ⟨km2, jd2⟩⟩, fun _ hi => hi, Kpt.refl _ _, fun _ hi => Or.inl hi, fun _ h9 => Or.inr h9⟩) (by omega) (by omega)
    rw [← hB1] at h9
    exact h9.back b2 hwl
  have HSELF := hide hself
  clear km2 jd2 hself
  clear hbx k2 hc3 hqb hkp hinp scW siW sbW hfin hB1 b2 hl0 hGS HNAT SC SI SB OW0 SCX BX hY
  have e4 : (kd == 4) = false := beq_eq_false_iff_ne.2 k4
  have e5 : (kd == 5) = false := beq_eq_false_iff_ne.2 k5
  have e6 : (kd == 6) = false := beq_eq_false_iff_ne.2 k6
  have e7 : (kd == 7) = false := beq_eq_false_iff_ne.2 k7
  go_wp2
  go_ret
  exact ⟨rfl, s, unhide HSELF⟩
end Go.Proofs.YtfigjfmldpfjkaaGreat

/- conj.Make. -/
import Derived.Test.YtimklglliffpcaaGreatQCjMust
namespace Go.Proofs.YtimklglliffpcaaGreat
open Go.RowKit Go.Sort Go.Shelf

theorem pred_pd (u : Pv) (p : Pd) (w : World) (hu : PdIn w u p) (hs : p.small) : Calls Tryz.prog 54 #[.agg #[.int .i64 u.kind, .string u.attr, .slice u.qi u.ni u.ci, .slice u.qw u.nw u.cw, .int .i64 u.lo, .int .i64 u.hi]] w fun e w' => e = .returned (.int .i64 (code p.ok)) ∧ Below w.heap.size w w' := by
  obtain ⟨hk, ha, hi, hw, hl, hh, s1, s2⟩ := hu
  rw [hk, ha, hi, hw, hl, hh]
  exact pred_any p.kind p.attr u.qi u.ci p.ints u.qw u.cw p.words p.lo p.hi w s1 s2 (by have := hs.1; omega) (by have := hs.2; omega)
theorem GrowD.setB {B g : Nat} {w : World} {q : Option Addr} {c n : Nat} {ls : List Pd} (h : GrowD B w q c n ls) (hg : g < B) (o : Nat) (v : Value) : GrowD B (w.setCell ⟨g, o, none⟩ v) q c n ls := by
  obtain ⟨h1, us, h2, h3, h4⟩ := h
  refine ⟨h1, us, h2, own_otherD h3 (grown_setC (grown_belowC (Below.refl _ w) (some g)) o v) (fun p e e2 => ?_), h4.set hg v⟩
  injection e2 with e2
  have := h3.from p e
  omega
/-- A conjunction that a call has made: its lists lie from the block B on. -/
structure Cv where
  never : Bool
  qp : Option Addr
  np : Nat
  cp : Nat
  qn : Option Addr
  nn : Nat
  cn : Nat
instance : Inhabited Cv := ⟨⟨false, none, 0, 0, none, 0, 0⟩⟩
def encC (v : Cv) : List Value := [.bool v.never, .slice v.qp v.np v.cp, .slice v.qn v.nn v.cn]
def CdNew (B : Nat) (w : World) (v : Cv) (d : Cd) : Prop := v.never = d.never ∧ GrowD B w v.qp v.cp v.np d.pos ∧ GrowD B w v.qn v.cn v.nn d.neg
theorem CdNew.below {B : Nat} {w w' : World} {v : Cv} {d : Cd} (h : CdNew B w v d) (hb : Below w.heap.size w w') : CdNew B w' v d := ⟨h.1, h.2.1.below hb, h.2.2.below hb⟩
theorem CdNew.mono {B C : Nat} {w : World} {v : Cv} {d : Cd} (h : CdNew B w v d) (hC : C ≤ B) : CdNew C w v d := ⟨h.1, growD_mono h.2.1 hC, growD_mono h.2.2 hC⟩
theorem CdNew.setB {B g : Nat} {w : World} {v : Cv} {d : Cd} (h : CdNew B w v d) (hg : g < B) (o : Nat) (x : Value) : CdNew B (w.setCell ⟨g, o, none⟩ x) v d := ⟨h.1, h.2.1.setB hg o x, h.2.2.setB hg o x⟩
theorem CdNew.nil (B : Nat) (w : World) (b : Bool) : CdNew B w ⟨b, none, 0, 0, none, 0, 0⟩ ⟨b, [], []⟩ := ⟨rfl, GrowD.nil _ _, GrowD.nil _ _⟩
set_option maxHeartbeats 4000000 in
set_option maxRecDepth 100000 in
/-- conj.Make. -/
theorem make_any (q : Option Addr) (c : Nat) (ls : List Lt) (w : World) (h : LitsOf w q c ls) (hs : SmallL ls) (hf : NamesFit ls) (hl : ls.length ≤ 100000000) :
    Calls Tryz.prog 24 #[.slice q ls.length c] w fun e w' => (∃ v : Cv, e = .returned (.tuple #[.agg #[.bool v.never, .slice v.qp v.np v.cp, .slice v.qn v.nn v.cn], .int .i64 (makeE ls)]) ∧ CdNew w.heap.size w' v (makeD ls)) ∧ Below w.heap.size w w' := by
  have i9 : (ls.length : Int) ≤ 100000000 := by omega
  obtain ⟨X, HX⟩ : ∃ X, w.alloc (.cells #[.bool false, .slice none 0 0, .slice none 0 0] 39) = X := ⟨_, rfl⟩
  have bX : Below w.heap.size w X := by rw [← HX]; exact (Below.refl _ _).alloc (Nat.le_refl _) _
  have x8 : X.heap[w.heap.size]? = some (.cells #[.bool false, .slice none 0 0, .slice none 0 0] 39 (0, 0)) := by rw [← HX]; exact World.alloc_heap_new _ _
  have SX := hide (show X.heap.size = w.heap.size + 1 by rw [← HX]; simp)
  have HL := hide (h.below bX)
  have HS := hide hs
  have HF := hide hf
  have BX := hide bX
  have X8 := hide x8
  clear h hs hf bX x8
  go_enter Tryz.func24, Tryz.ntmps24
  go_wp2
  go_loopw [11] (fun iv wr => ∃ k : Nat, k ≤ ls.length ∧ iv = .int .i64 k ∧ Hid (∀ (j : Nat) (l : Lt), j < k → ls[j]? = some l → (ltPd l).ok = true) ∧ Hid (Below X.heap.size X wr)) (fun iv _ => ls.length - (intOf iv).toNat)
  case atStart => exact ⟨0, Nat.zero_le _, rfl, hide (fun j l hj => absurd hj (by omega)), hide (Below.refl _ _)⟩
  case round =>
    obtain ⟨k, hk, rfl, HA, HB⟩ := hrel
    by_cases hlt : k < ls.length
    · obtain ⟨l, hx, _⟩ := get_at hlt
      obtain ⟨b, off, u, hq, hbb, hin, g0, g1, g2, g3, g4, g5, g6⟩ := ((unhide HL).below (unhide HB)).at hx
      subst hq
      have ki0 : (0 : Int) ≤ (k : Int) := by omega
      have ki1 : (k : Int) < (ls.length : Int) := by omega
      obtain ⟨G, hG⟩ : ∃ G, u.neg = G := ⟨_, rfl⟩
      rw [hG] at g6
      obtain ⟨Z, HZ⟩ : ∃ Z, wr.alloc (.cells #[.int .i64 u.kind, .string u.attr, .slice u.qi u.ni u.ci, .slice u.qw u.nw u.cw, .int .i64 u.lo, .int .i64 u.hi, .bool G] 64) = Z := ⟨_, rfl⟩
      have bZ : Below wr.heap.size wr Z := by rw [← HZ]; exact (Below.refl _ _).alloc (Nat.le_refl _) _
      have zk : Z.heap[wr.heap.size]? = some (.cells #[.int .i64 u.kind, .string u.attr, .slice u.qi u.ni u.ci, .slice u.qw u.nw u.cw, .int .i64 u.lo, .int .i64 u.hi, .bool G] 64 (0, 0)) := by rw [← HZ]; exact box_nw _ _
      obtain ⟨z0, z1, z2, z3, z4, z5, z6⟩ := of7' zk
      have hP := pred_pd u.pv (ltPd l) Z (hin.pd.keep bZ) (unhide HS l (List.mem_of_getElem? hx))
      unfold Lv.pv at hP
      have HXX := hide hx
      have BZ := hide bZ
      cases ho : (ltPd l).ok with
      | true =>
        rw [ho] at hP
        have HO := hide ho
        clear bZ hin zk hG hx ho
        go_wp2_with (go_at_call 54; refine hP.mono ?_; rintro e w2 ⟨rfl, b2⟩; have B2 := hide b2; clear b2)
        go_roundw
        case rel =>
          refine ⟨k + 1, by omega, by go_num, hide (fun j y hj hy => ?_), hide (below_sub (unhide HB) (below_sub (unhide BZ) (unhide B2)))⟩
          by_cases e : j = k
          · subst e; rw [unhide HXX] at hy; cases hy; exact unhide HO
          · exact unhide HA j y (by omega) hy
        case measure => simp [intOf]; omega
      | false =>
        rw [ho] at hP
        have HE := hide (show okL ls = false by
          unfold okL
          rw [List.all_eq_false]
          exact ⟨l, List.mem_of_getElem? (unhide HXX), by simp [ho]⟩)
        clear bZ hin zk hG hx ho
        go_upto_region 5 with (go_at_call 54; refine hP.mono ?_; rintro e w2 ⟨rfl, b2⟩; have B2 := hide b2; clear b2)
        have b5 := hide (below_sub (unhide HB) (below_sub (unhide BZ) (unhide B2)))
        have x8 := ((unhide b5).block w.heap.size (by have := unhide SX; omega)).trans (unhide X8)
        obtain ⟨x0, x1, x2⟩ := of3C x8
        have xf := fun o => frozen_free (o := o) x8
        clear x8
        go_wp2
        refine bodyPost_ret (v := .tuple #[.agg #[.bool false, .slice none 0 0, .slice none 0 0], .int .i64 1]) (by simp [results, Tryz.results24, go_sem, code, *]) rfl ?_
        have hD : makeD ls = ⟨false, [], []⟩ := by unfold makeD; rw [unhide HE]; rfl
        have hE : makeE ls = 1 := by unfold makeE; rw [unhide HE]; rfl
        refine ⟨⟨⟨false, none, 0, 0, none, 0, 0⟩, by rw [hE], by rw [hD]; exact CdNew.nil _ _ _⟩, ?_⟩
        exact ((((unhide BX).trans ((unhide b5).mono (unhide BX).size)).setCell (p := ⟨w.heap.size, 0, none⟩) (Nat.le_refl _) _).setCell (p := ⟨w.heap.size, 1, none⟩) (Nat.le_refl _) _).setCell (p := ⟨w.heap.size, 2, none⟩) (Nat.le_refl _) _
    · have ki1 : ¬ (k : Int) < (ls.length : Int) := by omega
      have HE := hide (show okL ls = true by
        unfold okL
        rw [List.all_eq_true]
        intro l hl
        obtain ⟨j, hj⟩ := List.getElem?_of_mem hl
        exact unhide HA j l (by have := (List.getElem?_eq_some_iff.1 hj).1; omega) hj)
      have hE : makeE ls = 0 := by unfold makeE; rw [unhide HE]; rfl
      have hMu := must_any q c ls wr ((unhide HL).below (unhide HB)) (unhide HS) (unhide HF) hl
      have hEE := hide hE
      clear hE
      cases hpd : posD ls with
      | none =>
        rw [hpd] at hMu
        have hD := hide (show makeD ls = ⟨true, [], []⟩ by unfold makeD makeC; rw [unhide HE, hpd]; rfl)
        clear hpd
        go_upto_region 9 with (go_at_call 74; refine hMu.mono ?_; rintro e w2 ⟨⟨q2, n2, c2, rfl, _⟩, b2⟩; have B2 := hide b2; clear b2)
        have b5 := hide (below_sub (unhide HB) (unhide B2))
        have x8 := ((unhide b5).block w.heap.size (by have := unhide SX; omega)).trans (unhide X8)
        obtain ⟨x0, x1, x2⟩ := of3C x8
        have xf := fun o => frozen_free (o := o) x8
        clear x8
        go_wp2
        refine bodyPost_ret (v := .tuple #[.agg #[.bool true, .slice none 0 0, .slice none 0 0], .int .i64 0]) (by simp [results, Tryz.results24, go_sem, *]) rfl ?_
        refine ⟨⟨⟨true, none, 0, 0, none, 0, 0⟩, by rw [unhide hEE], by rw [unhide hD]; exact CdNew.nil _ _ _⟩, ?_⟩
        exact ((((unhide BX).trans ((unhide b5).mono (unhide BX).size)).setCell (p := ⟨w.heap.size, 0, none⟩) (Nat.le_refl _) _).setCell (p := ⟨w.heap.size, 1, none⟩) (Nat.le_refl _) _).setCell (p := ⟨w.heap.size, 2, none⟩) (Nat.le_refl _) _
      | some ps =>
        rw [hpd] at hMu
        have hD := hide (show makeD ls = ⟨false, ps, negD ls⟩ by unfold makeD makeC; rw [unhide HE, hpd]; rfl)
        clear hpd
        go_upto_region 9 with (go_at_call 74; refine hMu.mono ?_; rintro e w2 ⟨⟨q2, n2, c2, rfl, hg2⟩, b2⟩; have B2 := hide b2; have G2 := hide hg2; clear b2 hg2)
        have hMn := mustNot_any q c ls w2 ((unhide HL).below (below_sub (unhide HB) (unhide B2))) (unhide HS) hl
        obtain ⟨n3, hn3⟩ : ∃ n3, (negD ls).length = n3 := ⟨_, rfl⟩
        rw [hn3] at hMn
        clear hn3 hMu
        go_upto_region 11 with (fail)
        have hx9 : ∀ W, Below w2.heap.size w2 W → W.heap[w.heap.size]? = some (.cells #[.bool false, .slice none 0 0, .slice none 0 0] 39 (0, 0)) := fun W hW => ((below_sub (unhide HB) (below_sub (unhide B2) hW)).block w.heap.size (by have := unhide SX; omega)).trans (unhide X8)
        have HX9 := hide hx9
        clear hx9
        go_wp2_with (go_at_call 75; refine hMn.mono ?_; rintro e w3 ⟨⟨q3, c3, rfl, hg3⟩, b3⟩; have B3 := hide b3; have G3 := hide hg3; obtain ⟨x0, x1, x2⟩ := of3C (unhide HX9 w3 b3); have xf := (fun o => frozen_free (o := o) (unhide HX9 w3 (unhide B3))); clear b3 hg3)
        refine bodyPost_ret (v := .tuple #[.agg #[.bool false, .slice q2 n2 c2, .slice q3 n3 c3], .int .i64 0]) (by simp [results, Tryz.results24, go_sem, *]) rfl ?_
        have hw9 : w.heap.size < wr.heap.size := by have := unhide SX; have := (unhide HB).size; omega
        have hw2 := (unhide B2).size
        have C3 : CdNew wr.heap.size w3 ⟨false, q2, n2, c2, q3, n3, c3⟩ ⟨false, ps, negD ls⟩ := ⟨rfl, (unhide G2).below (unhide B3), growD_mono (unhide G3) hw2⟩
        refine ⟨⟨⟨false, q2, n2, c2, q3, n3, c3⟩, by rw [unhide hEE], by rw [unhide hD]; exact (((C3.setB hw9 0 _).setB hw9 1 _).setB hw9 2 _).mono (Nat.le_of_lt hw9)⟩, ?_⟩
        exact ((((unhide BX).trans ((below_sub (unhide HB) (below_sub (unhide B2) (unhide B3))).mono (unhide BX).size)).setCell (p := ⟨w.heap.size, 0, none⟩) (Nat.le_refl _) _).setCell (p := ⟨w.heap.size, 1, none⟩) (Nat.le_refl _) _).setCell (p := ⟨w.heap.size, 2, none⟩) (Nat.le_refl _) _
end Go.Proofs.YtimklglliffpcaaGreat

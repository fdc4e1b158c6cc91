/- The law SpanLists: Cover, Path and Common answer as the document's; what is handed in stays; the answers are new memory. -/
import Derived.Test.YtjclojeihjgnkaaDoorRefCommon
namespace Go.Proofs.YtjclojeihjgnkaaDoor
open Go.RowKit

/-- m cells of the block g may be written. -/
def Wb (w : World) (g m : Nat) : Prop := (∀ o, o < m → ∃ v, w.cell? ⟨g, o, none⟩ = some v) ∧ (∀ o, w.frozen? ⟨g, o, none⟩ = false) ∧ g < w.heap.size
theorem Wb.put {w : World} {g m : Nat} (h : Wb w g m) (o : Nat) (v : Value) : Wb (w.setCell ⟨g, o, none⟩ v) g m := by
  refine ⟨fun j hj => ?_, fun j => by simpa using h.2.1 j, by simpa [World.setCell] using h.2.2⟩
  obtain ⟨u, hu⟩ := h.1 j hj
  by_cases e : o = j
  · subst e; exact ⟨v, near v hu⟩
  · exact ⟨u, (far w g o j v e).trans hu⟩
/-- But for the block g all is as it was. -/
def Oth (w0 w : World) (g : Nat) : Prop := w.heap.size = w0.heap.size ∧ ∀ j, j ≠ g → w.heap[j]? = w0.heap[j]?
theorem Oth.refl (w : World) (g : Nat) : Oth w w g := ⟨rfl, fun _ _ => rfl⟩
theorem Oth.put {w0 w : World} {g : Nat} (h : Oth w0 w g) (o : Nat) (v : Value) : Oth w0 (w.setCell ⟨g, o, none⟩ v) g :=
  ⟨by simpa [World.setCell] using h.1, fun j hj => (Below.heap_setCell w ⟨g, o, none⟩ v j hj).trans (h.2 j hj)⟩
theorem LsOf.oth {w0 w : World} {g B : Nat} {q : Option Addr} {l : List (Nat × Nat)} (h : LsOf encP 2 w0 q l) (ho : Oth w0 w g) (hq : ∀ b off, q = some ⟨b, off, none⟩ → B ≤ b) (hB : g < B) : LsOf encP 2 w q l := fun h0 => by
  obtain ⟨b, off, rfl, hb, hA⟩ := h h0
  have hne : b ≠ g := by have := hq b off rfl; omega
  exact ⟨b, off, rfl, by rw [ho.1]; exact hb, fun j u hj => (World.cell?_of_block (a := ⟨b, off + j, none⟩) (ho.2 b hne)).trans (hA j u hj)⟩
theorem LsOf.oth' {w0 w : World} {g B : Nat} {q : Option Addr} {l : List (Nat × Nat)} (h : LsOf encP 2 w0 q l) (ho : Oth w0 w g) (hq : ∀ b off, q = some ⟨b, off, none⟩ → b < B) (hB : B ≤ g) : LsOf encP 2 w q l := fun h0 => by
  obtain ⟨b, off, rfl, hb, hA⟩ := h h0
  have hne : b ≠ g := by have := hq b off rfl; omega
  exact ⟨b, off, rfl, by rw [ho.1]; exact hb, fun j u hj => (World.cell?_of_block (a := ⟨b, off + j, none⟩) (ho.2 b hne)).trans (hA j u hj)⟩
theorem PthAt.oth {w0 w : World} {g b p : Nat} (h : PthAt w0 b p 33) (ho : Oth w0 w g) (hne : b ≠ g) : PthAt w b p 33 :=
  ⟨fun j hj => ⟨(World.cell?_of_block (a := ⟨b, j * 2, none⟩) (ho.2 b hne)).trans (h.1 j hj).1, (World.cell?_of_block (a := ⟨b, j * 2 + 1, none⟩) (ho.2 b hne)).trans (h.1 j hj).2⟩, fun o => by
    have := h.2.1 o
    unfold World.frozen? at this ⊢
    simp only [ho.2 b hne]
    exact this, by rw [ho.1]; exact h.2.2⟩
/-- Where an answer of the call's own lies. -/
theorem OwnK.where {B : Nat} {w : World} {q : Option Addr} {cap : Nat} {l : List (Nat × Nat)} (h : OwnK encP 23 2 B w q cap l) : ∀ b off, q = some ⟨b, off, none⟩ → B ≤ b ∧ b < w.heap.size := fun b off e => by
  rcases h.2 with ⟨h0, _⟩ | ⟨g, cp, cur, hv, hB, hblk, _⟩
  · injection h0 with h1
    rw [e] at h1; cases h1
  · injection hv with h1
    rw [e] at h1
    injection h1 with h1
    injection h1 with h1
    subst h1
    exact ⟨hB, (Array.getElem?_eq_some_iff.1 hblk).1⟩
theorem OwnK.wb {B : Nat} {w : World} {q : Option Addr} {cap : Nat} {l : List (Nat × Nat)} (h : OwnK encP 23 2 B w q cap l) (h0 : 0 < l.length) : ∃ g, q = some ⟨g, 0, none⟩ ∧ Wb w g (l.length * 2) := by
  rcases h.2 with ⟨h1, _⟩ | ⟨g, cp, cur, hv, hB, hblk, _⟩
  · injection h1 with _ h1
    omega
  · injection hv with h1
    refine ⟨g, h1, fun o ho => ?_, fun o => frozen_free hblk, (Array.getElem?_eq_some_iff.1 hblk).1⟩
    subst h1
    have hx := World.ownsRow.cellAt (h : w.ownsRow B 23 2 (.slice (some ⟨g, 0, none⟩) l.length cap) l.length _) o ho
    have hl : o < (Sort.flatK encP 2 l.toArray).toList.length := by simpa using ho
    exact ⟨_, hx.trans (List.getElem?_eq_getElem hl)⟩
theorem Wb.below {w w' : World} {g m : Nat} (h : Wb w g m) (hb : Below w.heap.size w w') : Wb w' g m :=
  ⟨fun o ho => by obtain ⟨v, hv⟩ := h.1 o ho; exact ⟨v, (hb.cell (p := ⟨g, o, none⟩) h.2.2).trans hv⟩, fun o => (hb.frozen (p := ⟨g, o, none⟩) h.2.2).trans (h.2.1 o), Nat.lt_of_lt_of_le h.2.2 hb.size⟩
theorem PthAt.wb {w : World} {b p : Nat} (h : PthAt w b p 33) : Wb w b 66 :=
  ⟨fun o ho => by
    obtain ⟨c0, c1⟩ := h.1 (o / 2) (by omega)
    have hm : o % 2 = 0 ∨ o % 2 = 1 := by omega
    rcases hm with e | e
    · have e2 : o = o / 2 * 2 := by omega
      rw [show (⟨b, o, none⟩ : Addr) = ⟨b, o / 2 * 2, none⟩ by rw [← e2]]
      exact ⟨_, c0⟩
    · have e2 : o = o / 2 * 2 + 1 := by omega
      rw [show (⟨b, o, none⟩ : Addr) = ⟨b, o / 2 * 2 + 1, none⟩ by rw [← e2]]
      exact ⟨_, c1⟩, h.2.1, h.2.2⟩

set_option maxHeartbeats 4000000 in
theorem lists_num (lo hi : Int) (p : Nat) (hp1 : lo + 2147483648 = p) (hp2 : p < 4294967296) (q : Option Addr) (cap : Nat) (xs : List Int) (w : World) (hG : G w) (hS : SlOf encI 1 w q cap xs) (hm : xs.length * 8 + 64 ≤ 140737488355328) :
    Calls Tryd.prog 4 #[.int .i64 lo, .int .i64 hi, .slice q xs.length cap] w fun e w' => e = .returned (.bool true) ∧ Below w.heap.size w w' := by
  have hfix := fixed_any
  have hpa := path_any lo p hp1 hp2
  have hra := rpath_any lo p hp1 hp2
  have hmem := fun (V : World) (hv : Below w.heap.size w V) => memI q cap xs V (hS.below hv) hm
  have hco := fun (g cp : Nat) (V : World) (h : OwnK encI 3 1 w.heap.size V (some ⟨g, 0, none⟩) cp (xs ++ spI)) => com_all xs (some ⟨g, 0, none⟩) cp V (by omega) (by have h2 := LsOf.take (by decide) h.ls.2.2.2 xs.length; rwa [List.take_left] at h2)
  have hrc := fun (V : World) (hv : Below w.heap.size w V) => rcom_any q cap xs V (by omega) (hS.below hv).2.2.2
  have hke := fun (g cp : Nat) (V : World) (hv : Below w.heap.size w V) (h : OwnK encI 3 1 w.heap.size V (some ⟨g, 0, none⟩) cp (xs ++ spI)) (hc : xs.length + 2 ≤ cp) => keptI g cp q cap xs V (by omega) h.ls.2.2.2 hc h.ls.2.2.1 (hS.below hv)
  have hcv := cover_any lo hi
  have hrv := rcover_any lo hi
  have hclen : (coverZ lo hi).length ≤ 62 := by
    by_cases hxy : max lo (-2147483648) ≤ min hi 2147483647
    · unfold coverZ
      exact cover_len _ _ (by omega)
    · rw [covZ_none hxy]; simp
  obtain ⟨cv, hcvl⟩ : ∃ cv, coverZ lo hi = cv := ⟨_, rfl⟩
  rw [hcvl] at hcv hrv hclen
  clear hcvl
  obtain ⟨m, hml⟩ : ∃ m, cv.length = m := ⟨_, rfl⟩
  rw [hml] at hcv hrv hclen
  have HML := hide hml
  obtain ⟨n, hn⟩ : ∃ n, xs.length = n := ⟨_, rfl⟩
  rw [hn] at hm hmem hco hrc hke ⊢
  obtain ⟨o, ho⟩ : ∃ o, comZ xs = o := ⟨_, rfl⟩
  rw [ho] at hco hrc
  clear hn ho hml hS
  obtain ⟨sa, sb, sk, hval⟩ : ∃ (sa sb : Int) (sk : Bool), comV o = .tuple #[.agg #[.int .i64 sa, .int .i64 sb], .bool sk] := by
    cases o with
    | none => exact ⟨0, 0, false, rfl⟩
    | some x => exact ⟨x.1, x.2, true, rfl⟩
  rw [hval] at hco hrc
  clear hval
  have qn := neqS sa sb sa sb
  rw [show (!decide (sa = sa ∧ sb = sb)) = false by simp] at qn
  have sks : (sk != sk) = false := by simp
  have HG := hide hG
  clear hG
  go_enter Tryd.func4, Tryd.ntmps4
  go_wp2_with (first
    | (go_at_call 9; refine (hfix _ (unhide HG)).mono ?_; rintro e w1 ⟨rfl, b1⟩; have B1 := hide b1; clear b1)
    | (go_at_call 18; refine (hmem _ (unhide B1)).mono ?_; rintro e w2 ⟨⟨g, cp, rfl, o2, hcp⟩, b2⟩; have O2 := hide (And.intro (o2.mono (unhide B1).size) hcp); have B2 := hide (below_sub (unhide B1) b2); clear b2 o2 hcp)
    | (go_at_call 19; refine (hco _ _ _ (unhide O2).1).mono ?_; rintro e w3 ⟨rfl, b3⟩; have O3 := hide ((unhide O2).1.below b3); have B3 := hide (below_sub (unhide B2) b3); clear b3)
    | (go_at_call 20; refine (hrc _ ((unhide B3).alloc (unhide B3).size _)).mono ?_; rintro e w4 ⟨rfl, b4⟩; obtain ⟨x0, x1, bel4, s4⟩ := box_cells b4; have O4 := hide ((unhide O3).below bel4); have B4 := hide (below_sub (unhide B3) bel4); clear b4 bel4)
    | (go_at_call 21; refine (hke _ _ _ ((unhide B4).alloc (unhide B4).size _) ((unhide O4).below ((Below.refl _ _).alloc (Nat.le_refl _) _)) (unhide O2).2).mono ?_; rintro e w5 ⟨rfl, b5⟩; have B5 := hide (below_sub (unhide B4) (below_al b5)); clear b5)
    | (go_at_call 22; have tst := unhide OA; clear tst; refine (hcv _ ((unhide HG).below' (below_sub (unhide B5) (unhide B6)))).mono ?_; rintro e w7 ⟨qb, cb, rfl, ob, b7⟩; have OB := hide ob; have B7 := hide b7; clear ob b7)
    | (go_at_call 22; refine (hcv _ ((unhide HG).below' (unhide B5))).mono ?_; rintro e w6 ⟨qa, ca, rfl, oa, b6⟩; have OA := hide oa; have B6 := hide b6; clear oa b6)
    | (go_at_call 23; have tst := unhide OP1; clear tst; refine (hpa _).mono ?_; rintro e w9 ⟨rfl, op, bp⟩; have OP2 := hide op; have B9 := hide bp; clear op bp)
    | (go_at_call 23; refine (hpa _).mono ?_; rintro e w8 ⟨rfl, op, bp⟩; have OP1 := hide op; have B8 := hide bp; clear op bp))
  have hW := hide (unhide OB).where
  have HA6 := hide (show 0 < m → ∃ ga, qa = some ⟨ga, 0, none⟩ ∧ w5.heap.size ≤ ga ∧ ga < w6.heap.size ∧ Wb w6 ga (m * 2) from fun h0 => by
    obtain ⟨ga, e, hw⟩ := (unhide OA).wb (by rw [unhide HML]; exact h0)
    rw [unhide HML] at hw
    exact ⟨ga, e, ((unhide OA).where ga 0 e).1, hw.2.2, hw⟩)
  have B59 := hide (below_sub (unhide B6) (below_sub (unhide B7) (below_sub (unhide B8) (unhide B9))))
  have s56 := (unhide B6).size
  have s67 := (unhide B7).size
  have s78 := (unhide B8).size
  have s89 := (unhide B9).size
  have s5w := (unhide B5).size
  have sp8 := (unhide OP1).2.2
  obtain ⟨gp, hgp⟩ : ∃ gp, w7.heap.size = gp := ⟨_, rfl⟩
  obtain ⟨gq, hgq⟩ : ∃ gq, w8.heap.size = gq := ⟨_, rfl⟩
  rw [hgp] at OP1 hW sp8
  rw [hgq] at OP2
  rw [hgp, hgq]
  have HI0 := hide (And.intro (LsOf.below (LsOf.below (unhide OB).ls.2.2.2 (unhide B8)) (unhide B9)) (And.intro ((unhide OP1).below (unhide B9)) (unhide OP2)))
  have r1 : w6.heap.size ≤ gp := by omega
  have r2 : gp < gq := by omega
  have r4 : w.heap.size ≤ gp := by omega
  have r3 : w.heap.size ≤ w5.heap.size := s5w
  have HSZ := hide (show w6.heap.size ≤ w9.heap.size by omega)
  have BW9 := hide (below_sub (unhide B5) (unhide B59))
  have HW6 := hide (show ∀ ga, Wb w6 ga (m * 2) → Wb w9 ga (m * 2) from fun ga h => ((h.below (unhide B7)).below (unhide B8)).below (unhide B9))
  clear s56 s67 s78 s89 sp8 hgp hgq s5w
  go_loopw [58] (fun i wr => ∃ k : Nat, k ≤ m ∧ i = .int .i64 k ∧ LsOf encP 2 wr qb cv ∧ PthAt wr gp p 33 ∧ PthAt wr gq p 33 ∧ Below w.heap.size w wr ∧ (0 < m → ∃ ga, qa = some ⟨ga, 0, none⟩ ∧ w5.heap.size ≤ ga ∧ ga < w6.heap.size ∧ Wb wr ga (m * 2))) (fun i _ => m - (intOf i).toNat)
  case atStart =>
    refine ⟨0, by omega, rfl, (unhide HI0).1, (unhide HI0).2.1, (unhide HI0).2.2, unhide BW9, fun h0 => ?_⟩
    obtain ⟨ga, e, h1, h2, h3⟩ := unhide HA6 h0
    exact ⟨ga, e, h1, h2, unhide HW6 ga h3⟩
  case round =>
    obtain ⟨k, hk, rfl, hqb, hgp, hgq, hbel, hwa⟩ := hrel
    by_cases hlt : k < m
    · obtain ⟨ga, rfl, h1, h2, h3⟩ := hwa (by omega)
      obtain ⟨u0, e0⟩ := h3.1 (k * 2) (by omega)
      obtain ⟨u1, e1⟩ := h3.1 (k * 2 + 1) (by omega)
      have ef := h3.2.1
      have HR := hide (And.intro hqb (And.intro hgp (And.intro hgq (And.intro hbel h3))))
      have ki0 : (0 : Int) ≤ (k : Int) := by omega
      have ki1 : (k : Int) < (m : Int) := by omega
      clear hqb hgp hgq hbel hwa h3
      go_wp2
      obtain ⟨hqb, hgp, hgq, hbel, h3⟩ := unhide HR
      have ho : Oth wr ((wr.setCell ⟨ga, k * 2, none⟩ (.int .i64 77)).setCell ⟨ga, k * 2 + 1, none⟩ (.int .i64 0)) ga := ((Oth.refl wr ga).put _ _).put _ _
      refine ⟨⟨k + 1, by omega, by simp, LsOf.oth (B := w6.heap.size) hqb ho (fun b off e => (unhide hW b off e).1) h2, hgp.oth ho (by omega), hgq.oth ho (by omega), (hbel.setCell (by show w.heap.size ≤ ga; omega) _).setCell (by show w.heap.size ≤ ga; omega) _, fun _ => ⟨ga, rfl, h1, h2, (h3.put _ _).put _ _⟩⟩, by simp [intOf]; omega⟩
    · have ki1 : ¬ (k : Int) < (m : Int) := by omega
      have HQB := hide hqb
      have HGQ := hide hgq
      have HBL := hide hbel
      have HWP := hide hgp.wb
      obtain ⟨U, hU⟩ : ∃ U, U = wr := ⟨_, rfl⟩
      subst hU
      clear hqb hgp hgq hbel hwa
      go_wp2
      go_loopw [68] (fun i wr => ∃ t : Nat, t ≤ 33 ∧ i = .int .i64 t ∧ LsOf encP 2 wr qb cv ∧ Wb wr gp 66 ∧ PthAt wr gq p 33 ∧ Below w.heap.size w wr) (fun i _ => 33 - (intOf i).toNat)
      case atStart => exact ⟨0, by omega, rfl, unhide HQB, unhide HWP, unhide HGQ, unhide HBL⟩
      case round =>
        obtain ⟨t, ht, rfl, hqb, hwp, hgq, hbel⟩ := hrel
        by_cases htl : t < 33
        · obtain ⟨u0, e0⟩ := hwp.1 (t * 2) (by omega)
          obtain ⟨u1, e1⟩ := hwp.1 (t * 2 + 1) (by omega)
          have ef := hwp.2.1
          have HR := hide (And.intro hqb (And.intro hwp (And.intro hgq hbel)))
          have ti0 : (0 : Int) ≤ (t : Int) := by omega
          have ti1 : (t : Int) < 33 := by omega
          clear hqb hwp hgq hbel
          go_wp2
          obtain ⟨hqb, hwp, hgq, hbel⟩ := unhide HR
          have ho : Oth wr ((wr.setCell ⟨gp, t * 2, none⟩ (.int .i64 77)).setCell ⟨gp, t * 2 + 1, none⟩ (.int .i64 0)) gp := ((Oth.refl wr gp).put _ _).put _ _
          exact ⟨⟨t + 1, by omega, by simp, LsOf.oth' (B := gp) hqb ho (fun b off e => (unhide hW b off e).2) (Nat.le_refl _), (hwp.put _ _).put _ _, hgq.oth ho (by omega), (hbel.setCell (by show w.heap.size ≤ gp; omega) _).setCell (by show w.heap.size ≤ gp; omega) _⟩, by simp [intOf]; omega⟩
        · obtain rfl : t = 33 := by omega
          have hsa := fun (q2 : Option Addr) (c2 : Nat) (V : World) (hv : Below wr.heap.size wr V) (h2 : LsOf encP 2 V q2 cv) => same_yes qb q2 cb c2 cv V (by rw [unhide HML]; omega) (hqb.below hv) h2
          rw [unhide HML] at hsa
          have hsp := fun (q2 : Option Addr) (c2 : Nat) (V : World) (hv : Below wr.heap.size wr V) (h2 : LsOf encP 2 V q2 (pathL p 33)) => same_yes (some ⟨gq, 0, none⟩) q2 33 c2 (pathL p 33) V (by rw [pathL_len]; omega) (hgq.below hv).ls h2
          rw [pathL_len] at hsp
          have HBE := hide hbel
          clear hqb hwp hgq hbel
          go_wp2_with (first
            | (go_at_call 25; refine (hrv _).mono ?_; rintro e v1 ⟨q2, c2, rfl, o1, b1⟩; have V1 := hide b1; have W1 := hide o1.ls.2.2.2; clear o1 b1)
            | (go_at_call 24; have tst := unhide V3; clear tst; refine (hsp _ _ _ (unhide V3) (unhide W3)).mono ?_; rintro e v4 ⟨rfl, b4⟩; have V4 := hide (below_sub (unhide V3) b4); clear b4)
            | (go_at_call 24; refine (hsa _ _ _ (unhide V1) (unhide W1)).mono ?_; rintro e v2 ⟨rfl, b2⟩; have V2 := hide (below_sub (unhide V1) b2); clear b2)
            | (go_at_call 26; refine (hra _).mono ?_; rintro e v3 ⟨q3, c3, rfl, o3, b3⟩; have V3 := hide (below_sub (unhide V2) b3); have W3 := hide o3.ls.2.2.2; clear o3 b3))
          go_ret
          exact ⟨rfl, below_sub (unhide HBE) (unhide V4)⟩

set_option maxHeartbeats 4000000 in
theorem lists_not (lo hi : Int) (hno : ¬ (-2147483648 ≤ lo ∧ lo ≤ 2147483647)) (q : Option Addr) (cap : Nat) (xs : List Int) (w : World) (hG : G w) (hS : SlOf encI 1 w q cap xs) (hm : xs.length * 8 + 64 ≤ 140737488355328) :
    Calls Tryd.prog 4 #[.int .i64 lo, .int .i64 hi, .slice q xs.length cap] w fun e w' => e = .returned (.bool true) ∧ Below w.heap.size w w' := by
  have hfix := fixed_any
  have hpa := path_none lo hno
  have hra := rpath_none lo hno
  have hmem := fun (V : World) (hv : Below w.heap.size w V) => memI q cap xs V (hS.below hv) hm
  have hco := fun (g cp : Nat) (V : World) (h : OwnK encI 3 1 w.heap.size V (some ⟨g, 0, none⟩) cp (xs ++ spI)) => com_all xs (some ⟨g, 0, none⟩) cp V (by omega) (by have h2 := LsOf.take (by decide) h.ls.2.2.2 xs.length; rwa [List.take_left] at h2)
  have hrc := fun (V : World) (hv : Below w.heap.size w V) => rcom_any q cap xs V (by omega) (hS.below hv).2.2.2
  have hke := fun (g cp : Nat) (V : World) (hv : Below w.heap.size w V) (h : OwnK encI 3 1 w.heap.size V (some ⟨g, 0, none⟩) cp (xs ++ spI)) (hc : xs.length + 2 ≤ cp) => keptI g cp q cap xs V (by omega) h.ls.2.2.2 hc h.ls.2.2.1 (hS.below hv)
  have hcv := cover_any lo hi
  have hrv := rcover_any lo hi
  have hclen : (coverZ lo hi).length ≤ 62 := by
    by_cases hxy : max lo (-2147483648) ≤ min hi 2147483647
    · unfold coverZ
      exact cover_len _ _ (by omega)
    · rw [covZ_none hxy]; simp
  obtain ⟨cv, hcvl⟩ : ∃ cv, coverZ lo hi = cv := ⟨_, rfl⟩
  rw [hcvl] at hcv hrv hclen
  clear hcvl
  obtain ⟨m, hml⟩ : ∃ m, cv.length = m := ⟨_, rfl⟩
  rw [hml] at hcv hrv hclen
  have HML := hide hml
  obtain ⟨n, hn⟩ : ∃ n, xs.length = n := ⟨_, rfl⟩
  rw [hn] at hm hmem hco hrc hke ⊢
  obtain ⟨o, ho⟩ : ∃ o, comZ xs = o := ⟨_, rfl⟩
  rw [ho] at hco hrc
  clear hn ho hml hS
  obtain ⟨sa, sb, sk, hval⟩ : ∃ (sa sb : Int) (sk : Bool), comV o = .tuple #[.agg #[.int .i64 sa, .int .i64 sb], .bool sk] := by
    cases o with
    | none => exact ⟨0, 0, false, rfl⟩
    | some x => exact ⟨x.1, x.2, true, rfl⟩
  rw [hval] at hco hrc
  clear hval
  have qn := neqS sa sb sa sb
  rw [show (!decide (sa = sa ∧ sb = sb)) = false by simp] at qn
  have sks : (sk != sk) = false := by simp
  have HG := hide hG
  clear hG
  go_enter Tryd.func4, Tryd.ntmps4
  go_wp2_with (first
    | (go_at_call 9; refine (hfix _ (unhide HG)).mono ?_; rintro e w1 ⟨rfl, b1⟩; have B1 := hide b1; clear b1)
    | (go_at_call 18; refine (hmem _ (unhide B1)).mono ?_; rintro e w2 ⟨⟨g, cp, rfl, o2, hcp⟩, b2⟩; have O2 := hide (And.intro (o2.mono (unhide B1).size) hcp); have B2 := hide (below_sub (unhide B1) b2); clear b2 o2 hcp)
    | (go_at_call 19; refine (hco _ _ _ (unhide O2).1).mono ?_; rintro e w3 ⟨rfl, b3⟩; have O3 := hide ((unhide O2).1.below b3); have B3 := hide (below_sub (unhide B2) b3); clear b3)
    | (go_at_call 20; refine (hrc _ ((unhide B3).alloc (unhide B3).size _)).mono ?_; rintro e w4 ⟨rfl, b4⟩; obtain ⟨x0, x1, bel4, s4⟩ := box_cells b4; have O4 := hide ((unhide O3).below bel4); have B4 := hide (below_sub (unhide B3) bel4); clear b4 bel4)
    | (go_at_call 21; refine (hke _ _ _ ((unhide B4).alloc (unhide B4).size _) ((unhide O4).below ((Below.refl _ _).alloc (Nat.le_refl _) _)) (unhide O2).2).mono ?_; rintro e w5 ⟨rfl, b5⟩; have B5 := hide (below_sub (unhide B4) (below_al b5)); clear b5)
    | (go_at_call 22; have tst := unhide OA; clear tst; refine (hcv _ ((unhide HG).below' (below_sub (unhide B5) (unhide B6)))).mono ?_; rintro e w7 ⟨qb, cb, rfl, ob, b7⟩; have OB := hide ob; have B7 := hide b7; clear ob b7)
    | (go_at_call 22; refine (hcv _ ((unhide HG).below' (unhide B5))).mono ?_; rintro e w6 ⟨qa, ca, rfl, oa, b6⟩; have OA := hide oa; have B6 := hide b6; clear oa b6)
    | (go_at_call 23; refine (hpa _).mono ?_; rintro e w8 ⟨rfl, hw8⟩; rw [hw8]; clear hw8 w8))
  have hW := hide (unhide OB).where
  have HA6 := hide (show 0 < m → ∃ ga, qa = some ⟨ga, 0, none⟩ ∧ w5.heap.size ≤ ga ∧ ga < w6.heap.size ∧ Wb w6 ga (m * 2) from fun h0 => by
    obtain ⟨ga, e, hw⟩ := (unhide OA).wb (by rw [unhide HML]; exact h0)
    rw [unhide HML] at hw
    exact ⟨ga, e, ((unhide OA).where ga 0 e).1, hw.2.2, hw⟩)
  have s5w := (unhide B5).size
  have HI0 := hide (unhide OB).ls.2.2.2
  have BW9 := hide (below_sub (unhide B5) (below_sub (unhide B6) (unhide B7)))
  have HW6 := hide (show ∀ ga, Wb w6 ga (m * 2) → Wb w7 ga (m * 2) from fun ga h => h.below (unhide B7))
  go_loopw [58] (fun i wr => ∃ k : Nat, k ≤ m ∧ i = .int .i64 k ∧ LsOf encP 2 wr qb cv ∧ Below w.heap.size w wr ∧ (0 < m → ∃ ga, qa = some ⟨ga, 0, none⟩ ∧ w5.heap.size ≤ ga ∧ ga < w6.heap.size ∧ Wb wr ga (m * 2))) (fun i _ => m - (intOf i).toNat)
  case atStart =>
    refine ⟨0, by omega, rfl, unhide HI0, unhide BW9, fun h0 => ?_⟩
    obtain ⟨ga, e, h1, h2, h3⟩ := unhide HA6 h0
    exact ⟨ga, e, h1, h2, unhide HW6 ga h3⟩
  case round =>
    obtain ⟨k, hk, rfl, hqb, hbel, hwa⟩ := hrel
    by_cases hlt : k < m
    · obtain ⟨ga, rfl, h1, h2, h3⟩ := hwa (by omega)
      obtain ⟨u0, e0⟩ := h3.1 (k * 2) (by omega)
      obtain ⟨u1, e1⟩ := h3.1 (k * 2 + 1) (by omega)
      have ef := h3.2.1
      have HR := hide (And.intro hqb (And.intro hbel h3))
      have ki0 : (0 : Int) ≤ (k : Int) := by omega
      have ki1 : (k : Int) < (m : Int) := by omega
      clear hqb hbel hwa h3
      go_wp2
      obtain ⟨hqb, hbel, h3⟩ := unhide HR
      have ho : Oth wr ((wr.setCell ⟨ga, k * 2, none⟩ (.int .i64 77)).setCell ⟨ga, k * 2 + 1, none⟩ (.int .i64 0)) ga := ((Oth.refl wr ga).put _ _).put _ _
      refine ⟨⟨k + 1, by omega, by simp, LsOf.oth (B := w6.heap.size) hqb ho (fun b off e => (unhide hW b off e).1) h2, (hbel.setCell (by show w.heap.size ≤ ga; omega) _).setCell (by show w.heap.size ≤ ga; omega) _, fun _ => ⟨ga, rfl, h1, h2, (h3.put _ _).put _ _⟩⟩, by simp [intOf]; omega⟩
    · have ki1 : ¬ (k : Int) < (m : Int) := by omega
      have HQB := hide hqb
      have HBL := hide hbel
      obtain ⟨U, hU⟩ : ∃ U, U = wr := ⟨_, rfl⟩
      subst hU
      clear hqb hbel hwa
      go_wp2
      go_loopw [68] (fun i wr => i = .int .i64 0 ∧ wr = U) (fun _ _ => 0)
      case atStart => exact ⟨rfl, rfl⟩
      case round =>
        obtain ⟨rfl, rfl⟩ := hrel
        have hsa := fun (q2 : Option Addr) (c2 : Nat) (V : World) (hv : Below wr.heap.size wr V) (h2 : LsOf encP 2 V q2 cv) => same_yes qb q2 cb c2 cv V (by rw [unhide HML]; omega) ((unhide HQB).below hv) h2
        rw [unhide HML] at hsa
        have hsp : ∀ V : World, Calls Tryd.prog 24 #[.slice none 0 0, .slice none 0 0] V fun e w' => e = .returned (.bool true) ∧ Below V.heap.size V w' := fun V => same_yes none none 0 0 [] V (by simp) (LsOf.nil _ _) (LsOf.nil _ _)
        go_wp2_with (first
          | (go_at_call 25; refine (hrv _).mono ?_; rintro e v1 ⟨q2, c2, rfl, o1, b1⟩; have V1 := hide b1; have W1 := hide o1.ls.2.2.2; clear o1 b1)
          | (go_at_call 26; refine (hra _).mono ?_; rintro e v3 ⟨rfl, hv3⟩; rw [hv3]; have V3 := V2; clear hv3)
          | (go_at_call 24; have tst := unhide V3; clear tst; refine (hsp _).mono ?_; rintro e v4 ⟨rfl, b4⟩; have V4 := hide (below_sub (unhide V3) b4); clear b4)
          | (go_at_call 24; refine (hsa _ _ _ (unhide V1) (unhide W1)).mono ?_; rintro e v2 ⟨rfl, b2⟩; have V2 := hide (below_sub (unhide V1) b2); clear b2))
        go_ret
        exact ⟨rfl, below_sub (unhide HBL) (unhide V4)⟩

theorem spanLists_any (lo hi : Int) (q : Option Addr) (cap : Nat) (xs : List Int) (w : World) (hG : G w) (hS : SlOf encI 1 w q cap xs) (hm : xs.length * 8 + 64 ≤ 140737488355328) :
    Calls Tryd.prog 4 #[.int .i64 lo, .int .i64 hi, .slice q xs.length cap] w fun e w' => e = .returned (.bool true) ∧ Below w.heap.size w w' := by
  by_cases h : -2147483648 ≤ lo ∧ lo ≤ 2147483647
  · exact lists_num lo hi (lo + 2147483648).toNat (by omega) (by omega) q cap xs w hG hS hm
  · exact lists_not lo hi h q cap xs w hG hS hm
end Go.Proofs.YtjclojeihjgnkaaDoor

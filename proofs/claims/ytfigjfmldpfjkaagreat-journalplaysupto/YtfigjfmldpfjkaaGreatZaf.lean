/- The reader in memory: sums. -/
import Derived.Test.YtfigjfmldpfjkaaGreatRd3
import Derived.Laws.BytesArg
import Derived.Laws.IdiomStrings
import Derived.Laws.ResultCell
namespace Go.Proofs.YtfigjfmldpfjkaaGreat
open Go.RowKit Go.Sort

theorem conv_sl {w : World} {q : Option Addr} {c : Nat} {l : List UInt8} (h : SlOf encB 1 w q c l) : (convert 40 9 (.slice q l.length c)).run Tryz.prog w = .ok (.string ⟨l.toArray⟩) w := by
  by_cases hl : 0 < l.length
  · obtain ⟨b, off, rfl, _, hA⟩ := h.2.2.2 hl
    refine run_convert_bytes_back w 40 9 5 _ c l Tryz.underlying40 Tryz.underlying5 Tryz.underlying9 fun j hj => ?_
    rw [add_plain]
    exact hA j _ (by rw [flatB, List.getElem?_map, List.getElem?_eq_getElem hj]; rfl)
  · obtain rfl : l = [] := List.length_eq_zero_iff.1 (by omega)
    cases q with
    | none =>
      have := (h.1 rfl).2
      subst this
      exact run_convert_bytes_nil w 40 5 Tryz.underlying40 Tryz.underlying5 0 0 9 Tryz.underlying9
    | some a => exact run_convert_bytes_back w 40 9 5 a c [] Tryz.underlying40 Tryz.underlying5 Tryz.underlying9 fun j hj => by simp at hj
theorem bytes_eq (l m : List UInt8) : (l == m) = decide (l = m) := by rw [Bool.eq_iff_iff]; simp
theorem sl_grown {w w' : World} {g b off c : Nat} {l : List UInt8} (h : SlOf encB 1 w (some ⟨b, off, none⟩) c l) (hg : w.grownBy w' (some g)) (hne : b ≠ g) : SlOf encB 1 w' (some ⟨b, off, none⟩) c l := by
  refine ⟨h.1, h.2.1, h.2.2.1, fun hl => ?_⟩
  obtain ⟨b', off', hq, hb, hA⟩ := h.2.2.2 hl
  injection hq with hq
  injection hq with h1 h2
  subst h1 h2
  refine ⟨b, off, rfl, Nat.lt_of_lt_of_le hb hg.size, fun j u hj => ?_⟩
  have hblk := hg.block b hb (fun e => hne (by injection e))
  have hc : w'.cell? ⟨b, off + j, none⟩ = w.cell? ⟨b, off + j, none⟩ := by unfold World.cell?; simp only [hblk]
  exact hc.trans (hA j u hj)
set_option maxHeartbeats 1000000 in
theorem equal_any (q q' : Option Addr) (c c' : Nat) (l m : List UInt8) (w : World) (h : SlOf encB 1 w q c l) (h' : SlOf encB 1 w q' c' m) :
    Calls Tryz.prog 124 #[.slice q l.length c, .slice q' m.length c'] w fun e w' => e = .returned (.bool (decide (l = m))) ∧ w' = w := by
  have c1 := conv_sl h
  have c2 := conv_sl h'
  have HB := hide (bytes_eq l m)
  clear h h'
  go_enter Tryz.func124, Tryz.ntmps124
  go_wp2
  go_ret
  exact ⟨ret_bool (unhide HB), rfl⟩
theorem readerOf_any (q : Option Addr) (c : Nat) (l : List UInt8) (w : World) (h : SlOf encB 1 w q c l) :
    Calls Tryz.prog 106 #[.slice q l.length c] w fun e w' => e = .returned (.pointer (some ⟨w.heap.size, 0, none⟩)) ∧ Rd w' w.heap.size q c l 0 false ∧ Below w.heap.size w w' := by
  have H := hide h
  clear h
  go_enter Tryz.func106, Tryz.ntmps106
  go_wp2
  go_ret
  have hb : Below w.heap.size w (w.alloc (.cells #[.slice q l.length c, .int .i64 0, .bool false] 150)) := (Below.refl _ _).alloc (Nat.le_refl _) _
  exact ⟨rfl, ⟨heap_alloc_new _ _, (unhide H).below hb, Nat.zero_le _⟩, hb⟩
/-- Bytes in a new block. -/
theorem slB (w : World) (m : List UInt8) (hm : m.length ≤ maxLen) : SlOf encB 1 (w.alloc (.cells (m.map bv).toArray 5)) (some ⟨w.heap.size, 0, none⟩) m.length m := (ownA w w.heap.size m (Nat.le_refl _) hm).ls
/-- What a sum's reading does: torn, unless the four bytes of the sum of all that was read come. -/
def sealS (l : List UInt8) (a : Nat) (t : Bool) : Nat × Bool := if t = false ∧ a + 4 ≤ l.length ∧ (l.drop a).take 4 = four (sumB (l.take a)) then (a + 4, false) else (if t = false ∧ a + 4 ≤ l.length then a + 4 else a, true)
set_option maxHeartbeats 1000000 in
theorem rseal_any (g : Nat) (q : Option Addr) (cap : Nat) (l : List UInt8) (a : Nat) (t : Bool) (w : World) (h : Rd w g q cap l a t) (hl : l.length ≤ 1000000000000000) :
    Calls Tryz.prog 109 #[.pointer (some ⟨g, 0, none⟩)] w fun e w' => (∃ v, e = .returned v) ∧ Rd w' g q cap l (sealS l a t).1 (sealS l a t).2 ∧ w.grownBy w' (some g) := by
  have hah := ahead_any g q cap l a t w h
  have hsl : SlOf encB 1 w q cap (l.take a) := by
    have := cut_sl h.2.1 0 a (by have := h.2.2; omega)
    rw [List.drop_zero, Nat.sub_zero] at this
    by_cases h0 : cap = 0
    · subst h0; rw [cutA_same] at this; exact this
    · rw [cutA_ne q h0] at this
      have e : Option.map (fun x : Addr => x.add 0) q = q := by
        cases q with
        | none => rfl
        | some p => obtain ⟨b, off, s⟩ := p; simp [Addr.add]
      rw [e] at this; exact this
  have hse := seal_any q cap (l.take a) w.drew hsl (by simp; omega)
  rw [show (l.take a).length = a by rw [List.length_take]; have := h.2.2; omega] at hse
  have H := hide h
  obtain ⟨F, hF⟩ : ∃ F, four (sumB (l.take a)) = F := ⟨_, rfl⟩
  have hFl : F.length = 4 := by rw [← hF]; rfl
  have HF := hide hFl
  by_cases hc : t = false ∧ a + 4 ≤ l.length
  · obtain ⟨rfl, h4⟩ := hc
    have hS : sealS l a false = (a + 4, !decide ((l.drop a).take 4 = F)) := by
      unfold sealS
      rw [hF]
      by_cases h5 : (l.drop a).take 4 = F
      · rw [if_pos ⟨rfl, h4, h5⟩, decide_eq_true h5]; rfl
      · rw [if_neg (fun h => h5 h.2.2), if_pos ⟨rfl, h4⟩, decide_eq_false h5]; rfl
    rw [hS]
    rw [hF] at hse
    have ht := fun (W : World) (hW : Rd W g q cap l a false) => take_yes g q cap l a 4 W hW hl h4
    have hnd := need_any g q cap l (a + 4) false (decide ((l.drop a).take 4 = F))
    rw [Bool.false_or] at hnd
    have hT : ((l.drop a).take 4).length = 4 := by simp; omega
    have heq := fun (W V : World) (hW : Rd W g q cap l (a + 4) false) (hV : SlOf encB 1 W (some ⟨V.heap.size, 0, none⟩) 4 F) => equal_any (cutA q cap a) (some ⟨V.heap.size, 0, none⟩) (cap - a) 4 ((l.drop a).take 4) F W (cut_sl hW.2.1 a 4 h4) hV
    rw [hT, hFl] at heq
    generalize decide ((l.drop a).take 4 = F) = R at heq hnd ⊢
    generalize cutA q cap a = Z at ht heq
    generalize cap - a = cp at ht heq
    clear h hsl hS hF hFl hT
    go_enter Tryz.func109, Tryz.ntmps109
    go_wp2_with (first
      | (go_at_call 123; refine hah.mono ?_; rintro e w1 ⟨rfl, rfl⟩)
      | (go_at_call 117; refine hse.mono ?_; rintro e w2 ⟨W, hW0, rfl, rfl⟩; have hW := below_undrew hW0; clear hW0; have hb2 := hW.alloc hW.size (.cells (F.map bv).toArray 5); have R2 := hide ((unhide H).below hb2); have B2 := hide hb2; have NE : Hid (W.heap.size ≠ g) := hide (by have h1 := (unhide H).lt; have h2 : w.heap.size ≤ W.heap.size := hW.size; omega); have S2 := hide (slB W F (by rw [unhide HF]; unfold maxLen; omega)); clear hW hb2)
      | (go_at_call 125; refine (ht _ (unhide R2)).mono ?_; rintro e w3 ⟨rfl, r3, g3⟩; have S3 : Hid (SlOf encB 1 w3 (some ⟨W.heap.size, 0, none⟩) 4 F) := (by have := unhide S2; rw [unhide HF] at this; exact hide (sl_grown this g3 (unhide NE))); have R3 := hide r3; have G3 := hide (grown_trans (grown_below (unhide B2) (some g)) g3); clear r3 g3)
      | (go_at_call 124; refine (heq _ _ (unhide R3) (unhide S3)).mono ?_; rintro e w4 ⟨rfl, hw4⟩; obtain rfl := hw4.symm)
      | (go_at_call 121; refine (hnd _ (unhide R3)).mono ?_; rintro e w5 ⟨⟨v5, rfl⟩, r5, g5⟩; have R5 := hide r5; have G5 := hide (grown_trans (unhide G3) g5); clear r5 g5))
    go_end0
    exact ⟨⟨_, rfl⟩, unhide R5, unhide G5⟩
  · have hS : sealS l a t = (a, true) := by
      unfold sealS
      rw [if_neg (fun h => hc ⟨h.1, h.2.1⟩), if_neg hc]
    rw [hS]
    rw [hF] at hse
    have ht := fun (W : World) (hW : Rd W g q cap l a t) => take_no g q cap l a t 4 W hW hc
    have hnd := need_any g q cap l a true false
    have hne : ¬ ([] : List UInt8) = F := fun e => by rw [← e] at hFl; simp at hFl
    have heq := fun (W V : World) (hV : SlOf encB 1 W (some ⟨V.heap.size, 0, none⟩) 4 F) => equal_any none (some ⟨V.heap.size, 0, none⟩) 0 4 [] F W (SlOf.none _) hV
    rw [hFl, decide_eq_false hne] at heq
    clear h hsl hS hF hFl hc hne
    go_enter Tryz.func109, Tryz.ntmps109
    go_wp2_with (first
      | (go_at_call 123; refine hah.mono ?_; rintro e w1 ⟨rfl, rfl⟩)
      | (go_at_call 117; refine hse.mono ?_; rintro e w2 ⟨W, hW0, rfl, rfl⟩; have hW := below_undrew hW0; clear hW0; have hb2 := hW.alloc hW.size (.cells (F.map bv).toArray 5); have R2 := hide ((unhide H).below hb2); have B2 := hide hb2; have NE : Hid (W.heap.size ≠ g) := hide (by have h1 := (unhide H).lt; have h2 : w.heap.size ≤ W.heap.size := hW.size; omega); have S2 := hide (slB W F (by rw [unhide HF]; unfold maxLen; omega)); clear hW hb2)
      | (go_at_call 125; refine (ht _ (unhide R2)).mono ?_; rintro e w3 ⟨rfl, r3, g3⟩; have S3 : Hid (SlOf encB 1 w3 (some ⟨W.heap.size, 0, none⟩) 4 F) := (by have := unhide S2; rw [unhide HF] at this; exact hide (sl_grown this g3 (unhide NE))); have R3 := hide r3; have G3 := hide (grown_trans (grown_below (unhide B2) (some g)) g3); clear r3 g3)
      | (go_at_call 124; refine (heq _ _ (unhide S3)).mono ?_; rintro e w4 ⟨rfl, hw4⟩; obtain rfl := hw4.symm)
      | (go_at_call 121; refine (hnd _ (unhide R3)).mono ?_; rintro e w5 ⟨⟨v5, rfl⟩, r5, g5⟩; have R5 := hide r5; have G5 := hide (grown_trans (unhide G3) g5); clear r5 g5))
    go_end0
    exact ⟨⟨_, rfl⟩, unhide R5, unhide G5⟩
end Go.Proofs.YtfigjfmldpfjkaaGreat
namespace Go.Proofs.YtfigjfmldpfjkaaGreat
open Go.RowKit Go.Sort

theorem results_ct {P : Program} {fn : Func} {p u : Tmp} {ty : TypeId} (h : fn.results = #[.cell p ty, .tmp u]) (tmps : Array Value) (w : World) (g : Nat) (t : TypeId) (cs : Array Value) (fr : Nat × Nat) (d : TypeDesc)
    (hp : tmps.getD p undef = .pointer (some ⟨g, 0, none⟩)) (hg : w.heap[g]? = some (.cells cs t fr))
    (hu : P.underlying ty = some d) (hd : (match d with | .struct _ | .array _ _ => true | _ => false) = true) (hi : (P.info? ty).map (·.size) = some cs.size) :
    (results fn tmps).run P w = .ok (.tuple #[.agg cs, tmps.getD u undef]) w := by
  rw [results_cell_tmp h]
  rw [hp]
  simp [asAddr, run_loadVar_row w g t ty cs fr d hg hu hd hi]
theorem results_ctt {P : Program} {fn : Func} {p u v : Tmp} {ty : TypeId} (h : fn.results = #[.cell p ty, .tmp u, .tmp v]) (tmps : Array Value) (w : World) (g : Nat) (t : TypeId) (cs : Array Value) (fr : Nat × Nat) (d : TypeDesc)
    (hp : tmps.getD p undef = .pointer (some ⟨g, 0, none⟩)) (hg : w.heap[g]? = some (.cells cs t fr))
    (hu : P.underlying ty = some d) (hd : (match d with | .struct _ | .array _ _ => true | _ => false) = true) (hi : (P.info? ty).map (·.size) = some cs.size) :
    (results fn tmps).run P w = .ok (.tuple #[.agg cs, tmps.getD u undef, tmps.getD v undef]) w := by
  have hp' : tmps[p]?.getD undef = .pointer (some ⟨g, 0, none⟩) := by simpa using hp
  simp [results, h, hp', asAddr, run_loadVar_row w g t ty cs fr d hg hu hd hi]
theorem Tryz.info32s : (Tryz.prog.info? 63).map (·.size) = some 3 := by kernel_rfl
/-- Three cells of a block are written. -/
def set3 (w : World) (g : Nat) (a b c : Value) : World := ((w.setCell ⟨g, 0, none⟩ a).setCell ⟨g, 1, none⟩ b).setCell ⟨g, 2, none⟩ c
theorem set3_blk {w : World} {g : Nat} {x y z : Value} (h : w.heap[g]? = some (.cells #[x, y, z] 63 (0, 0))) (a b c : Value) : (set3 w g a b c).heap[g]? = some (.cells #[a, b, c] 63 (0, 0)) := by
  have h0 := heap_setCell_same w g 0 _ 63 a h
  have h1 := heap_setCell_same _ g 1 _ 63 b h0
  have h2 := heap_setCell_same _ g 2 _ 63 c h1
  exact h2
theorem set3_below {w w' : World} {B g : Nat} (h : Below B w w') (hg : B ≤ g) (a b c : Value) : Below B w (set3 w' g a b c) :=
  ((h.setCell (p := ⟨g, 0, none⟩) hg a).setCell (p := ⟨g, 1, none⟩) hg b).setCell (p := ⟨g, 2, none⟩) hg c
theorem cells3 {w : World} {g : Nat} {a b c : Value} {t : TypeId} (h : w.heap[g]? = some (.cells #[a, b, c] t (0, 0))) : (w.cell? ⟨g, 0, none⟩ = some a ∧ w.cell? ⟨g, 1, none⟩ = some b ∧ w.cell? ⟨g, 2, none⟩ = some c) ∧ w.frozen? ⟨g, 0, none⟩ = false ∧ w.frozen? ⟨g, 1, none⟩ = false ∧ w.frozen? ⟨g, 2, none⟩ = false := by
  refine ⟨⟨?_, ?_, ?_⟩, frozen_free h, frozen_free h, frozen_free h⟩ <;> (unfold World.cell?; rw [h]; rfl)

/-- What a body tells: a change, and whether the body is that of a change that may be. -/
def bodyC (l : List UInt8) : Ch := ⟨((st1 l 0 false).1.toNat : Int), ((varS l 6 0 0 (st1 l 0 false).2.1 (st1 l 0 false).2.2).1 : Int), ⟨(l.drop (varS l 6 0 0 (st1 l 0 false).2.1 (st1 l 0 false).2.2).2.1).toArray⟩⟩
def bodyOk (l : List UInt8) : Bool := !(varS l 6 0 0 (st1 l 0 false).2.1 (st1 l 0 false).2.2).2.2 && decide (MayB (bodyC l))
set_option maxRecDepth 100000 in
set_option maxHeartbeats 4000000 in
theorem readBody_any (q : Option Addr) (c : Nat) (l : List UInt8) (w : World) (h : SlOf encB 1 w q c l) (hl : l.length ≤ 1000000000000000) :
    Calls Tryz.prog 126 #[.slice q l.length c] w fun e w' => e = .returned (.tuple #[.agg #[.int .i64 (bodyC l).kind, .int .i64 (bodyC l).id, .string (bodyC l).text], .bool (bodyOk l)]) ∧ Below w.heap.size w w' := by
  obtain ⟨z, hz⟩ : ∃ z, w.alloc (.cells #[.int .i64 0, .int .i64 0, .string ⟨#[]⟩] 63) = z := ⟨_, rfl⟩
  have bz : Below w.heap.size w z := by rw [← hz]; exact (Below.refl _ _).alloc (Nat.le_refl _) _
  have blkz : z.heap[w.heap.size]? = some (.cells #[.int .i64 0, .int .i64 0, .string ⟨#[]⟩] 63 (0, 0)) := by rw [← hz]; exact heap_alloc_new _ _
  have hzs : z.heap.size = w.heap.size + 1 := by rw [← hz]; simp
  have hro := readerOf_any q c l z (h.below bz)
  obtain ⟨s, hs⟩ : ∃ s, st1 l 0 false = s := ⟨_, rfl⟩
  obtain ⟨y, a1, t1⟩ := s
  have hone := fun (W : World) (H : Rd W z.heap.size q c l 0 false) => one_any z.heap.size q c l 0 false W H hl
  rw [hs] at hone
  simp only at hone
  obtain ⟨v, hv⟩ : ∃ v, varS l 6 0 0 a1 t1 = v := ⟨_, rfl⟩
  obtain ⟨n, a2, t2⟩ := v
  have hvar := fun (W : World) (H : Rd W z.heap.size q c l a1 t1) => varint_any z.heap.size q c l a1 t1 W H hl
  rw [hv] at hvar
  simp only at hvar
  have hbeh := fun (W : World) (H : Rd W z.heap.size q c l a2 t2) => behind_any z.heap.size q c l a2 t2 W H
  have hcv := fun (W : World) (H : Rd W z.heap.size q c l a2 t2) => conv_sl (cut_sl (h := H.2.1) a2 (l.length - a2) (by have := H.2.2; omega))
  rw [List.take_of_length_le (show (l.drop a2).length ≤ l.length - a2 by simp), List.length_drop] at hcv
  have hC : bodyC l = ⟨(y.toNat : Int), (n : Int), ⟨(l.drop a2).toArray⟩⟩ := by unfold bodyC; rw [hs]; simp only; rw [hv]
  have hO : bodyOk l = (!t2 && decide (MayB ⟨(y.toNat : Int), (n : Int), ⟨(l.drop a2).toArray⟩⟩)) := by unfold bodyOk; rw [hC, hs]; simp only; rw [hv]
  rw [hC, hO]
  generalize (⟨(l.drop a2).toArray⟩ : ByteArray) = T at hcv ⊢
  have hmay := may_any ⟨(y.toNat : Int), (n : Int), T⟩
  simp only at hmay
  generalize decide (MayB ⟨(y.toNat : Int), (n : Int), T⟩) = M at hmay ⊢
  generalize hZ : cutA q c a2 = Z at hbeh hcv
  generalize hcp : c - a2 = cp at hbeh hcv
  generalize hlm : l.length - a2 = lm at hbeh hcv
  have e1 := wrap_nat y.toNat (by have := y.toNat_lt; omega)
  have BZ := hide bz
  have BLZ := hide blkz
  have ZS := hide hzs
  simp only
  clear h hs hv hC hO hZ hcp hlm bz blkz hzs
  go_enter Tryz.func126, Tryz.ntmps126
  go_wp2_with (first
    | (go_at_call 106; refine hro.mono ?_; rintro e w1 ⟨rfl, r1, b1⟩; have R1 := hide r1; have B1 := hide b1; clear r1 b1)
    | (go_at_call 122; refine (hone _ (unhide R1)).mono ?_; rintro e w2 ⟨rfl, r2, g2⟩; have R2 := hide r2; have B2 := hide ((unhide B1).trans (below_grown g2 (Nat.le_refl _) (unhide B1).size)); clear r2 g2)
    | (go_at_call 108; refine (hvar _ (unhide R2)).mono ?_; rintro e w3 ⟨rfl, r3, g3⟩; have R3 := hide r3; have B3 := hide ((unhide B2).trans (below_grown g3 (Nat.le_refl _) (unhide B2).size)); have cv3 := hcv _ r3.drew; clear r3 g3)
    | (go_at_call 141; refine (hbeh _ (unhide R3)).mono ?_; rintro e w4 ⟨rfl, rfl⟩))
  have hB3 := unhide B3
  have hbx : Below z.heap.size z (w3.alloc (.cells #[.int .i64 (y.toNat : Int), .int .i64 (n : Int), .string T] 63)).drew := (hB3.alloc hB3.size _).drew
  have hbl : Below w3.heap.size w3 (w3.alloc (.cells #[.int .i64 (y.toNat : Int), .int .i64 (n : Int), .string T] 63)).drew := ((Below.refl _ _).alloc (Nat.le_refl _) _).drew
  have blkC : (w3.alloc (.cells #[.int .i64 (y.toNat : Int), .int .i64 (n : Int), .string T] 63)).drew.heap[w3.heap.size]? = some (.cells #[.int .i64 (y.toNat : Int), .int .i64 (n : Int), .string T] 63 (0, 0)) := heap_alloc_new _ _
  have hR4 := (unhide R3).below hbl
  have blkR := (hbx.block w.heap.size (by have := unhide ZS; omega)).trans (unhide BLZ)
  have hs4 : w3.heap.size < (w3.alloc (.cells #[.int .i64 (y.toNat : Int), .int .i64 (n : Int), .string T] 63)).drew.heap.size := by simp
  generalize (w3.alloc (.cells #[.int .i64 (y.toNat : Int), .int .i64 (n : Int), .string T] 63)).drew = W at *
  obtain ⟨c0, c1, c2⟩ := hR4.cells
  obtain ⟨⟨d0, d1, d2⟩, _⟩ := cells3 blkC
  obtain ⟨⟨x0, x1, x2⟩, f0, f1, f2⟩ := cells3 blkR
  have hlt : w.heap.size < W.heap.size := by have h1 := unhide ZS; have h2 := hB3.size; omega
  have HBX := hide hbx
  have HBR := hide blkR
  have HBC := hide blkC
  have HS4 := hide hs4
  have HLT := hide hlt
  have fin : ∀ V : World, Below W.heap.size W V → ∀ a b c : Value, (set3 V w.heap.size a b c).heap[w.heap.size]? = some (.cells #[a, b, c] 63 (0, 0)) ∧ Below w.heap.size w (set3 V w.heap.size a b c) := fun V hV a b c =>
    ⟨set3_blk ((hV.block _ hlt).trans blkR) a b c, set3_below ((unhide BZ).trans (((hbx.mono (by have h1 := unhide ZS; omega)).trans (hV.mono (by omega))))) (Nat.le_refl _) a b c⟩
  have HFIN := hide fin
  have hm2 := hmay W.drew
  clear fin hbx hbl blkC blkR hR4 hB3 hs4 hlt hro hone hvar hbeh hcv cv3 hmay
  cases t2
  · go_region_with (go_at_call 68; refine hm2.mono ?_; rintro e V ⟨rfl, hV0⟩; have hV := below_undrew hV0; obtain ⟨⟨d0', d1', d2'⟩, _⟩ := cells3 ((hV.block _ (unhide HS4)).trans (unhide HBC)); obtain ⟨⟨x0', x1', x2'⟩, f0', f1', f2'⟩ := cells3 ((hV.block _ (unhide HLT)).trans (unhide HBR)); have HV := hide hV; clear hV hV0)
    all_goals
      go_wp2
      have X := unhide HFIN V (unhide HV) (.int .i64 (y.toNat : Int)) (.int .i64 (n : Int)) (.string T)
      refine bodyPost_ret (v := .tuple #[.agg #[.int .i64 (y.toNat : Int), .int .i64 (n : Int), .string T], .bool M]) (results_ct (fn := Tryz.f126) (p := 2) (u := 3) (ty := 63) rfl _ _ w.heap.size 63 _ (0, 0) _ (by rfl) X.1 Tryz.underlying63 rfl Tryz.info32s) rfl ?_
      exact ⟨rfl, X.2⟩
  · go_region_with (fail)
    all_goals
      go_wp2
      have X := unhide HFIN W (Below.refl _ _) (.int .i64 (y.toNat : Int)) (.int .i64 (n : Int)) (.string T)
      have X1 : (set3 W w.heap.size (.int .i64 (y.toNat : Int)) (.int .i64 (n : Int)) (.string T)).drew.heap[w.heap.size]? = some (.cells #[.int .i64 (y.toNat : Int), .int .i64 (n : Int), .string T] 63 (0, 0)) := X.1
      refine bodyPost_ret (v := .tuple #[.agg #[.int .i64 (y.toNat : Int), .int .i64 (n : Int), .string T], .bool false]) (results_ct (fn := Tryz.f126) (p := 2) (u := 3) (ty := 63) rfl _ _ w.heap.size 63 _ (0, 0) _ (by rfl) X1 Tryz.underlying63 rfl Tryz.info32s) rfl ?_
      exact ⟨rfl, X.2.drew⟩
end Go.Proofs.YtfigjfmldpfjkaaGreat

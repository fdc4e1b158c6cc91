/- A record is read. -/
import Derived.Test.YtfigjfmldpfjkaaGreatZaf
namespace Go.Proofs.YtfigjfmldpfjkaaGreat
open Go.RowKit Go.Sort

/-- Four cells of a block are written. -/
def set4 (w : World) (g : Nat) (a b c d : Value) : World := (((w.setCell ⟨g, 0, none⟩ a).setCell ⟨g, 1, none⟩ b).setCell ⟨g, 2, none⟩ c).setCell ⟨g, 3, none⟩ d
theorem set4_blk {w : World} {g : Nat} {x y z u : Value} (h : w.heap[g]? = some (.cells #[x, y, z, u] 113 (0, 0))) (a b c d : Value) : (set4 w g a b c d).heap[g]? = some (.cells #[a, b, c, d] 113 (0, 0)) := by
  have h0 := heap_setCell_same w g 0 _ 113 a h
  have h1 := heap_setCell_same _ g 1 _ 113 b h0
  have h2 := heap_setCell_same _ g 2 _ 113 c h1
  have h3 := heap_setCell_same _ g 3 _ 113 d h2
  exact h3
theorem set4_below {w w' : World} {B g : Nat} (h : Below B w w') (hg : B ≤ g) (a b c d : Value) : Below B w (set4 w' g a b c d) :=
  (((h.setCell (p := ⟨g, 0, none⟩) hg a).setCell (p := ⟨g, 1, none⟩) hg b).setCell (p := ⟨g, 2, none⟩) hg c).setCell (p := ⟨g, 3, none⟩) hg d
theorem set4_other {w : World} {g k : Nat} (hk : k ≠ g) (a b c d : Value) : (set4 w g a b c d).heap[k]? = w.heap[k]? := by
  unfold set4
  have hne : ∀ (W : World) (o : Nat) (v : Value), (W.setCell ⟨g, o, none⟩ v).heap[k]? = W.heap[k]? := fun W o v => Below.heap_setCell _ _ _ _ (fun e => hk e)
  rw [hne, hne, hne, hne]
theorem cells4 {w : World} {g : Nat} {a b c d : Value} {t : TypeId} (h : w.heap[g]? = some (.cells #[a, b, c, d] t (0, 0))) : (w.cell? ⟨g, 0, none⟩ = some a ∧ w.cell? ⟨g, 1, none⟩ = some b ∧ w.cell? ⟨g, 2, none⟩ = some c ∧ w.cell? ⟨g, 3, none⟩ = some d) ∧ w.frozen? ⟨g, 0, none⟩ = false ∧ w.frozen? ⟨g, 1, none⟩ = false ∧ w.frozen? ⟨g, 2, none⟩ = false ∧ w.frozen? ⟨g, 3, none⟩ = false := by
  refine ⟨⟨?_, ?_, ?_, ?_⟩, frozen_free h, frozen_free h, frozen_free h, frozen_free h⟩ <;> (unfold World.cell?; rw [h]; rfl)

/-- Where a record's body begins, and how long it is told to be. -/
def recV (l : List UInt8) : Nat × Nat × Bool := varS l 6 0 0 (st1 l 0 false).2.1 ((st1 l 0 false).2.2 || !(((st1 l 0 false).1.toNat : Int) == ((67 : UInt8).toNat : Int)))
/-- A record's body, and the record's length. -/
def recS (l : List UInt8) : Option (List UInt8 × Nat) :=
  if (recV l).2.2 = false ∧ (recV l).2.1 + (recV l).1 ≤ l.length ∧ (sealS l ((recV l).2.1 + (recV l).1) false).2 = false then some ((l.drop (recV l).2.1).take (recV l).1, (recV l).2.1 + (recV l).1 + 4) else none
def ReadR (q : Option Addr) (c : Nat) (l : List UInt8) : Value := match recS l with
  | some (b, a) => .tuple #[.agg #[.int .i64 (bodyC b).kind, .int .i64 (bodyC b).id, .string (bodyC b).text, .slice q a c], .bool (bodyOk b)]
  | none => .tuple #[.agg #[.int .i64 0, .int .i64 0, .string ⟨#[]⟩, .slice none 0 0], .bool false]
theorem sealS_true (l : List UInt8) (a : Nat) : sealS l a true = (a, true) := by
  unfold sealS
  rw [if_neg (fun h => by simp at h), if_neg (fun h => by simp at h)]
set_option maxRecDepth 100000 in
set_option maxHeartbeats 1000000 in
theorem read_yesR (q : Option Addr) (c : Nat) (l : List UInt8) (w : World) (h : SlOf encB 1 w q c l) (hl : l.length ≤ 1000000000000000) (hx : ((recV l).2.2 = false ∧ (recV l).2.1 + (recV l).1 ≤ l.length) ∧ (sealS l ((recV l).2.1 + (recV l).1) false).2 = false) :
    Calls Tryz.prog 110 #[.slice q l.length c] w fun e w' => e = .returned (ReadR q c l) ∧ Below w.heap.size w w' := by
  obtain ⟨z, hz⟩ : ∃ z, w.alloc (.cells #[.int .i64 0, .int .i64 0, .string ⟨#[]⟩, .slice none 0 0] 113) = z := ⟨_, rfl⟩
  have bz : Below w.heap.size w z := by rw [← hz]; exact (Below.refl _ _).alloc (Nat.le_refl _) _
  have blkz : z.heap[w.heap.size]? = some (.cells #[.int .i64 0, .int .i64 0, .string ⟨#[]⟩, .slice none 0 0] 113 (0, 0)) := by rw [← hz]; exact heap_alloc_new _ _
  have hzs : z.heap.size = w.heap.size + 1 := by rw [← hz]; simp
  have hro := readerOf_any q c l z (h.below bz)
  obtain ⟨s, hs⟩ : ∃ s, st1 l 0 false = s := ⟨_, rfl⟩
  obtain ⟨y, a1, t0⟩ := s
  have hmk := fun (W : World) (H : Rd W z.heap.size q c l 0 false) => mark_any z.heap.size q c l 0 false 67 W H hl
  rw [hs] at hmk
  simp only at hmk
  obtain ⟨t1, ht1⟩ : ∃ t1, (t0 || !((y.toNat : Int) == ((67 : UInt8).toNat : Int))) = t1 := ⟨_, rfl⟩
  rw [ht1] at hmk
  obtain ⟨v, hv⟩ : ∃ v, varS l 6 0 0 a1 t1 = v := ⟨_, rfl⟩
  have hV : recV l = v := by unfold recV; rw [hs]; simp only; rw [ht1, hv]
  obtain ⟨n, a2, t2⟩ := v
  have hvar := fun (W : World) (H : Rd W z.heap.size q c l a1 t1) => varint_any z.heap.size q c l a1 t1 W H hl
  rw [hv] at hvar
  simp only at hvar
  have BZ := hide bz
  have BLZ := hide blkz
  have ZS := hide hzs
  have hlt : w.heap.size < z.heap.size := by omega
  have fin : ∀ V : World, Below z.heap.size z V → ∀ a b c d : Value, (set4 V w.heap.size a b c d).heap[w.heap.size]? = some (.cells #[a, b, c, d] 113 (0, 0)) ∧ Below w.heap.size w (set4 V w.heap.size a b c d) := fun V hV a b c d =>
    ⟨set4_blk ((hV.block _ hlt).trans blkz) a b c d, set4_below (bz.trans (hV.mono (by omega))) (Nat.le_refl _) a b c d⟩
  have HFIN := hide fin
  have cz : ∀ V : World, Below z.heap.size z V → V.heap[w.heap.size]? = some (.cells #[.int .i64 0, .int .i64 0, .string ⟨#[]⟩, .slice none 0 0] 113 (0, 0)) := fun V hV => (hV.block _ hlt).trans blkz
  have CZ := hide cz
  rw [hV] at hx
  simp only at hx
  obtain ⟨hc, h4⟩ := hx
  obtain ⟨rfl, hn⟩ := hc
  have htk := fun (W : World) (H : Rd W z.heap.size q c l a2 false) => take_yes z.heap.size q c l a2 n W H hl hn
  have hse := fun (W : World) (H : Rd W z.heap.size q c l (a2 + n) false) => rseal_any z.heap.size q c l (a2 + n) false W H hl
  obtain ⟨b, hb⟩ : ∃ b, (l.drop a2).take n = b := ⟨_, rfl⟩
  have hbl : b.length = n := by rw [← hb]; simp; omega
  have hS4 : sealS l (a2 + n) false = (a2 + n + 4, false) := by
    unfold sealS at h4 ⊢
    split at h4
    · rename_i hh; rw [if_pos hh]
    · simp at h4
  have hRR : ReadR q c l = .tuple #[.agg #[.int .i64 (bodyC b).kind, .int .i64 (bodyC b).id, .string (bodyC b).text, .slice q (a2 + n + 4) c], .bool (bodyOk b)] := by
    unfold ReadR recS
    rw [hV]
    simp only
    rw [if_pos ⟨trivial, hn, h4⟩, hb]
  rw [hRR]
  rw [hS4] at hse
  simp only at hse
  have hrb := fun (W : World) (H : Rd W z.heap.size q c l (a2 + n + 4) false) => readBody_any (cutA q c a2) (c - a2) b W (by rw [← hb]; exact cut_sl H.2.1 a2 n hn) (by omega)
  rw [hbl] at hrb
  have hah := fun (W : World) (H : Rd W z.heap.size q c l (a2 + n + 4) false) => ahead_any z.heap.size q c l (a2 + n + 4) false W H
  generalize bodyC b = C at hrb ⊢
  generalize bodyOk b = M at hrb ⊢
  generalize cutA q c a2 = Z at htk hrb
  generalize c - a2 = cp at htk hrb
  clear h hs ht1 hv hV bz blkz hzs hb hbl h4 hS4 hRR fin cz hl
  go_enter Tryz.func110, Tryz.ntmps110
  go_wp2_with (first
    | (go_at_call 106; refine hro.mono ?_; rintro e w1 ⟨rfl, r1, b1⟩; have R1 := hide r1; have B1 := hide b1; clear r1 b1)
    | (go_at_call 107; refine (hmk _ (unhide R1)).mono ?_; rintro e w2 ⟨⟨v2, rfl⟩, r2, g2⟩; have R2 := hide r2; have B2 := hide ((unhide B1).trans (below_grown g2 (Nat.le_refl _) (unhide B1).size)); clear r2 g2)
    | (go_at_call 108; refine (hvar _ (unhide R2)).mono ?_; rintro e w3 ⟨rfl, r3, g3⟩; have R3 := hide r3; have B3 := hide ((unhide B2).trans (below_grown g3 (Nat.le_refl _) (unhide B2).size)); clear r3 g3)
    | (go_at_call 125; refine (htk _ (unhide R3)).mono ?_; rintro e w4 ⟨rfl, r4, g4⟩; have R4 := hide r4; have B4 := hide ((unhide B3).trans (below_grown g4 (Nat.le_refl _) (unhide B3).size)); clear r4 g4)
    | (go_at_call 109; refine (hse _ (unhide R4)).mono ?_; rintro e w5 ⟨⟨v5, rfl⟩, r5, g5⟩; obtain ⟨c50, c51, c52⟩ := r5.cells; have R5 := hide r5; have B5 := hide ((unhide B4).trans (below_grown g5 (Nat.le_refl _) (unhide B4).size)); clear r5 g5)
    | (go_at_call 126; refine (hrb _ (unhide R5)).mono ?_; rintro e w6 ⟨rfl, b6⟩; have R6 := hide ((unhide R5).below b6); have B6 := hide ((unhide B5).trans (b6.mono (unhide B5).size)); clear b6))
  have hB6 := unhide B6
  have hb7 : Below z.heap.size z (w6.alloc (.cells #[.int .i64 C.kind, .int .i64 C.id, .string C.text] 63)) := hB6.alloc hB6.size _
  have hbl : Below w6.heap.size w6 (w6.alloc (.cells #[.int .i64 C.kind, .int .i64 C.id, .string C.text] 63)) := (Below.refl _ _).alloc (Nat.le_refl _) _
  have blkC : (w6.alloc (.cells #[.int .i64 C.kind, .int .i64 C.id, .string C.text] 63)).heap[w6.heap.size]? = some (.cells #[.int .i64 C.kind, .int .i64 C.id, .string C.text] 63 (0, 0)) := heap_alloc_new _ _
  have hR7 := (unhide R6).below hbl
  have hne : w6.heap.size ≠ w.heap.size := by have h1 := unhide ZS; have h2 := hB6.size; omega
  generalize (w6.alloc (.cells #[.int .i64 C.kind, .int .i64 C.id, .string C.text] 63)) = W at *
  obtain ⟨⟨d0, d1, d2⟩, _⟩ := cells3 blkC
  obtain ⟨⟨x0, x1, x2, x3⟩, f0, f1, f2, f3⟩ := cells4 (unhide CZ _ hb7)
  have hah7 := hah W.drew hR7.drew
  have X := unhide HFIN W hb7 (.int .i64 C.kind) (.int .i64 C.id) (.string C.text) (.slice q (a2 + n + 4) c)
  have hkS : ∀ V : World, V.heap[w6.heap.size]? = some (.cells #[.int .i64 C.kind, .int .i64 C.id, .string C.text] 63 (0, 0)) → V.cell? ⟨w6.heap.size, 0, none⟩ = some (.int .i64 C.kind) ∧ V.cell? ⟨w6.heap.size, 1, none⟩ = some (.int .i64 C.id) ∧ V.cell? ⟨w6.heap.size, 2, none⟩ = some (.string C.text) := fun V hV => (cells3 hV).1
  have hk2 : ∀ a b c d : Value, (set4 W w.heap.size a b c d).heap[w6.heap.size]? = some (.cells #[.int .i64 C.kind, .int .i64 C.id, .string C.text] 63 (0, 0)) := fun a b c d => (set4_other hne a b c d).trans blkC
  have K0 := hide (cells3 blkC).1
  have K1 : Hid (W.drew.cell? ⟨w6.heap.size, 0, none⟩ = some (.int .i64 C.kind) ∧ W.drew.cell? ⟨w6.heap.size, 1, none⟩ = some (.int .i64 C.id) ∧ W.drew.cell? ⟨w6.heap.size, 2, none⟩ = some (.string C.text)) := hide (cells3 (w := W.drew) blkC).1
  have K2 : Hid (W.drew.drew.cell? ⟨w6.heap.size, 0, none⟩ = some (.int .i64 C.kind) ∧ W.drew.drew.cell? ⟨w6.heap.size, 1, none⟩ = some (.int .i64 C.id) ∧ W.drew.drew.cell? ⟨w6.heap.size, 2, none⟩ = some (.string C.text)) := hide (cells3 (w := W.drew.drew) blkC).1
  have k3 := (cells3 (w := (set4 W w.heap.size (.int .i64 C.kind) (.int .i64 C.id) (.string C.text) (.slice q (a2 + n + 4) c)).drew.drew) (hk2 _ _ _ _)).1
  unfold set4 at k3
  have K3 := hide k3
  have HX := hide X
  clear k3
  have HKS := hide hkS
  have HK2 := hide hk2
  have HBC := hide blkC
  clear hB6 hb7 hbl blkC hR7 X hkS hk2 hro hmk hvar htk hse hrb hah c50 c51 c52 hne
  go_region_held3 (fun V => V.cell? ⟨w6.heap.size, 0, none⟩ = some (.int .i64 C.kind) ∧ V.cell? ⟨w6.heap.size, 1, none⟩ = some (.int .i64 C.id) ∧ V.cell? ⟨w6.heap.size, 2, none⟩ = some (.string C.text))
    (first | with_reducible exact unhide K3 | with_reducible exact unhide K1 | with_reducible exact unhide K2 | with_reducible exact unhide K0)
    ((go_at_call 123; refine hah7.mono ?_; rintro e w8 ⟨rfl, rfl⟩))
  all_goals
    go_wp2
    have X1 : (set4 W w.heap.size (.int .i64 C.kind) (.int .i64 C.id) (.string C.text) (.slice q (a2 + n + 4) c)).drew.drew.heap[w.heap.size]? = some (.cells #[.int .i64 C.kind, .int .i64 C.id, .string C.text, .slice q (a2 + n + 4) c] 113 (0, 0)) := (unhide HX).1
    refine bodyPost_ret (results_ct (fn := Tryz.f110) (p := 2) (u := 3) (ty := 113) rfl _ _ w.heap.size 113 _ (0, 0) _ (by rfl) X1 Tryz.underlying113 rfl Tryz.info52s) rfl ?_
    exact ⟨rfl, (unhide HX).2.drew.drew⟩
set_option maxRecDepth 100000 in
set_option maxHeartbeats 1000000 in
theorem read_no1 (q : Option Addr) (c : Nat) (l : List UInt8) (w : World) (h : SlOf encB 1 w q c l) (hl : l.length ≤ 1000000000000000) (hx : ((recV l).2.2 = false ∧ (recV l).2.1 + (recV l).1 ≤ l.length) ∧ ¬ (sealS l ((recV l).2.1 + (recV l).1) false).2 = false) :
    Calls Tryz.prog 110 #[.slice q l.length c] w fun e w' => e = .returned (ReadR q c l) ∧ Below w.heap.size w w' := by
  obtain ⟨z, hz⟩ : ∃ z, w.alloc (.cells #[.int .i64 0, .int .i64 0, .string ⟨#[]⟩, .slice none 0 0] 113) = z := ⟨_, rfl⟩
  have bz : Below w.heap.size w z := by rw [← hz]; exact (Below.refl _ _).alloc (Nat.le_refl _) _
  have blkz : z.heap[w.heap.size]? = some (.cells #[.int .i64 0, .int .i64 0, .string ⟨#[]⟩, .slice none 0 0] 113 (0, 0)) := by rw [← hz]; exact heap_alloc_new _ _
  have hzs : z.heap.size = w.heap.size + 1 := by rw [← hz]; simp
  have hro := readerOf_any q c l z (h.below bz)
  obtain ⟨s, hs⟩ : ∃ s, st1 l 0 false = s := ⟨_, rfl⟩
  obtain ⟨y, a1, t0⟩ := s
  have hmk := fun (W : World) (H : Rd W z.heap.size q c l 0 false) => mark_any z.heap.size q c l 0 false 67 W H hl
  rw [hs] at hmk
  simp only at hmk
  obtain ⟨t1, ht1⟩ : ∃ t1, (t0 || !((y.toNat : Int) == ((67 : UInt8).toNat : Int))) = t1 := ⟨_, rfl⟩
  rw [ht1] at hmk
  obtain ⟨v, hv⟩ : ∃ v, varS l 6 0 0 a1 t1 = v := ⟨_, rfl⟩
  have hV : recV l = v := by unfold recV; rw [hs]; simp only; rw [ht1, hv]
  obtain ⟨n, a2, t2⟩ := v
  have hvar := fun (W : World) (H : Rd W z.heap.size q c l a1 t1) => varint_any z.heap.size q c l a1 t1 W H hl
  rw [hv] at hvar
  simp only at hvar
  have BZ := hide bz
  have BLZ := hide blkz
  have ZS := hide hzs
  have hlt : w.heap.size < z.heap.size := by omega
  have fin : ∀ V : World, Below z.heap.size z V → ∀ a b c d : Value, (set4 V w.heap.size a b c d).heap[w.heap.size]? = some (.cells #[a, b, c, d] 113 (0, 0)) ∧ Below w.heap.size w (set4 V w.heap.size a b c d) := fun V hV a b c d =>
    ⟨set4_blk ((hV.block _ hlt).trans blkz) a b c d, set4_below (bz.trans (hV.mono (by omega))) (Nat.le_refl _) a b c d⟩
  have HFIN := hide fin
  have cz : ∀ V : World, Below z.heap.size z V → V.heap[w.heap.size]? = some (.cells #[.int .i64 0, .int .i64 0, .string ⟨#[]⟩, .slice none 0 0] 113 (0, 0)) := fun V hV => (hV.block _ hlt).trans blkz
  have CZ := hide cz
  rw [hV] at hx
  simp only at hx
  obtain ⟨hc, h4⟩ := hx
  obtain ⟨rfl, hn⟩ := hc
  have htk := fun (W : World) (H : Rd W z.heap.size q c l a2 false) => take_yes z.heap.size q c l a2 n W H hl hn
  have hse := fun (W : World) (H : Rd W z.heap.size q c l (a2 + n) false) => rseal_any z.heap.size q c l (a2 + n) false W H hl
  obtain ⟨b, hb⟩ : ∃ b, (l.drop a2).take n = b := ⟨_, rfl⟩
  have hbl : b.length = n := by rw [← hb]; simp; omega
  have hS4 : ∃ a4, sealS l (a2 + n) false = (a4, true) := by
    generalize sealS l (a2 + n) false = S at h4 ⊢
    obtain ⟨a4, t4⟩ := S
    cases t4
    · exact absurd rfl h4
    · exact ⟨a4, rfl⟩
  obtain ⟨a4, hS4⟩ := hS4
  have hRR : ReadR q c l = .tuple #[.agg #[.int .i64 0, .int .i64 0, .string ⟨#[]⟩, .slice none 0 0], .bool false] := by
    unfold ReadR recS
    rw [hV]
    simp only
    rw [if_neg (fun hh => h4 hh.2.2)]
  rw [hRR]
  rw [hS4] at hse
  simp only at hse
  generalize cutA q c a2 = Z at htk
  generalize c - a2 = cp at htk
  clear h hs ht1 hv hV bz blkz hzs hb hbl h4 hS4 hRR fin cz hl
  go_enter Tryz.func110, Tryz.ntmps110
  go_wp2_with (first
    | (go_at_call 106; refine hro.mono ?_; rintro e w1 ⟨rfl, r1, b1⟩; have R1 := hide r1; have B1 := hide b1; clear r1 b1)
    | (go_at_call 107; refine (hmk _ (unhide R1)).mono ?_; rintro e w2 ⟨⟨v2, rfl⟩, r2, g2⟩; have R2 := hide r2; have B2 := hide ((unhide B1).trans (below_grown g2 (Nat.le_refl _) (unhide B1).size)); clear r2 g2)
    | (go_at_call 108; refine (hvar _ (unhide R2)).mono ?_; rintro e w3 ⟨rfl, r3, g3⟩; have R3 := hide r3; have B3 := hide ((unhide B2).trans (below_grown g3 (Nat.le_refl _) (unhide B2).size)); clear r3 g3)
    | (go_at_call 125; refine (htk _ (unhide R3)).mono ?_; rintro e w4 ⟨rfl, r4, g4⟩; have R4 := hide r4; have B4 := hide ((unhide B3).trans (below_grown g4 (Nat.le_refl _) (unhide B3).size)); clear r4 g4)
    | (go_at_call 109; refine (hse _ (unhide R4)).mono ?_; rintro e w5 ⟨⟨v5, rfl⟩, r5, g5⟩; obtain ⟨c50, c51, c52⟩ := r5.cells; have B5 := hide ((unhide B4).trans (below_grown g5 (Nat.le_refl _) (unhide B4).size)); obtain ⟨⟨x0, x1, x2, x3⟩, f0, f1, f2, f3⟩ := cells4 (unhide CZ _ (unhide B5)); clear r5 g5))
  have X := unhide HFIN w5 (unhide B5) (.int .i64 0) (.int .i64 0) (.string ⟨#[]⟩) (.slice none 0 0)
  refine bodyPost_ret (results_ct (fn := Tryz.f110) (p := 2) (u := 3) (ty := 113) rfl _ _ w.heap.size 113 _ (0, 0) _ (by rfl) X.1 Tryz.underlying113 rfl Tryz.info52s) rfl ?_
  exact ⟨rfl, X.2⟩
set_option maxRecDepth 100000 in
set_option maxHeartbeats 1000000 in
theorem read_no2 (q : Option Addr) (c : Nat) (l : List UInt8) (w : World) (h : SlOf encB 1 w q c l) (hl : l.length ≤ 1000000000000000) (hx : ¬ ((recV l).2.2 = false ∧ (recV l).2.1 + (recV l).1 ≤ l.length)) :
    Calls Tryz.prog 110 #[.slice q l.length c] w fun e w' => e = .returned (ReadR q c l) ∧ Below w.heap.size w w' := by
  obtain ⟨z, hz⟩ : ∃ z, w.alloc (.cells #[.int .i64 0, .int .i64 0, .string ⟨#[]⟩, .slice none 0 0] 113) = z := ⟨_, rfl⟩
  have bz : Below w.heap.size w z := by rw [← hz]; exact (Below.refl _ _).alloc (Nat.le_refl _) _
  have blkz : z.heap[w.heap.size]? = some (.cells #[.int .i64 0, .int .i64 0, .string ⟨#[]⟩, .slice none 0 0] 113 (0, 0)) := by rw [← hz]; exact heap_alloc_new _ _
  have hzs : z.heap.size = w.heap.size + 1 := by rw [← hz]; simp
  have hro := readerOf_any q c l z (h.below bz)
  obtain ⟨s, hs⟩ : ∃ s, st1 l 0 false = s := ⟨_, rfl⟩
  obtain ⟨y, a1, t0⟩ := s
  have hmk := fun (W : World) (H : Rd W z.heap.size q c l 0 false) => mark_any z.heap.size q c l 0 false 67 W H hl
  rw [hs] at hmk
  simp only at hmk
  obtain ⟨t1, ht1⟩ : ∃ t1, (t0 || !((y.toNat : Int) == ((67 : UInt8).toNat : Int))) = t1 := ⟨_, rfl⟩
  rw [ht1] at hmk
  obtain ⟨v, hv⟩ : ∃ v, varS l 6 0 0 a1 t1 = v := ⟨_, rfl⟩
  have hV : recV l = v := by unfold recV; rw [hs]; simp only; rw [ht1, hv]
  obtain ⟨n, a2, t2⟩ := v
  have hvar := fun (W : World) (H : Rd W z.heap.size q c l a1 t1) => varint_any z.heap.size q c l a1 t1 W H hl
  rw [hv] at hvar
  simp only at hvar
  have BZ := hide bz
  have BLZ := hide blkz
  have ZS := hide hzs
  have hlt : w.heap.size < z.heap.size := by omega
  have fin : ∀ V : World, Below z.heap.size z V → ∀ a b c d : Value, (set4 V w.heap.size a b c d).heap[w.heap.size]? = some (.cells #[a, b, c, d] 113 (0, 0)) ∧ Below w.heap.size w (set4 V w.heap.size a b c d) := fun V hV a b c d =>
    ⟨set4_blk ((hV.block _ hlt).trans blkz) a b c d, set4_below (bz.trans (hV.mono (by omega))) (Nat.le_refl _) a b c d⟩
  have HFIN := hide fin
  have cz : ∀ V : World, Below z.heap.size z V → V.heap[w.heap.size]? = some (.cells #[.int .i64 0, .int .i64 0, .string ⟨#[]⟩, .slice none 0 0] 113 (0, 0)) := fun V hV => (hV.block _ hlt).trans blkz
  have CZ := hide cz
  rw [hV] at hx
  simp only at hx
  have hc := hx
  have htk := fun (W : World) (H : Rd W z.heap.size q c l a2 t2) => take_no z.heap.size q c l a2 t2 n W H hc
  have hse := fun (W : World) (H : Rd W z.heap.size q c l a2 true) => rseal_any z.heap.size q c l a2 true W H hl
  rw [sealS_true] at hse
  simp only at hse
  have hRR : ReadR q c l = .tuple #[.agg #[.int .i64 0, .int .i64 0, .string ⟨#[]⟩, .slice none 0 0], .bool false] := by
    unfold ReadR recS
    rw [hV]
    simp only
    rw [if_neg (fun hh => hc ⟨hh.1, hh.2.1⟩)]
  rw [hRR]
  clear h hs ht1 hv hV bz blkz hzs hRR fin cz hl hc
  go_enter Tryz.func110, Tryz.ntmps110
  go_wp2_with (first
      | (go_at_call 106; refine hro.mono ?_; rintro e w1 ⟨rfl, r1, b1⟩; have R1 := hide r1; have B1 := hide b1; clear r1 b1)
      | (go_at_call 107; refine (hmk _ (unhide R1)).mono ?_; rintro e w2 ⟨⟨v2, rfl⟩, r2, g2⟩; have R2 := hide r2; have B2 := hide ((unhide B1).trans (below_grown g2 (Nat.le_refl _) (unhide B1).size)); clear r2 g2)
      | (go_at_call 108; refine (hvar _ (unhide R2)).mono ?_; rintro e w3 ⟨rfl, r3, g3⟩; have R3 := hide r3; have B3 := hide ((unhide B2).trans (below_grown g3 (Nat.le_refl _) (unhide B2).size)); clear r3 g3)
      | (go_at_call 125; refine (htk _ (unhide R3)).mono ?_; rintro e w4 ⟨rfl, r4, g4⟩; have R4 := hide r4; have B4 := hide ((unhide B3).trans (below_grown g4 (Nat.le_refl _) (unhide B3).size)); clear r4 g4)
      | (go_at_call 109; refine (hse _ (unhide R4)).mono ?_; rintro e w5 ⟨⟨v5, rfl⟩, r5, g5⟩; obtain ⟨c50, c51, c52⟩ := r5.cells; have B5 := hide ((unhide B4).trans (below_grown g5 (Nat.le_refl _) (unhide B4).size)); obtain ⟨⟨x0, x1, x2, x3⟩, f0, f1, f2, f3⟩ := cells4 (unhide CZ _ (unhide B5)); clear r5 g5))
  have X := unhide HFIN w5 (unhide B5) (.int .i64 0) (.int .i64 0) (.string ⟨#[]⟩) (.slice none 0 0)
  refine bodyPost_ret (results_ct (fn := Tryz.f110) (p := 2) (u := 3) (ty := 113) rfl _ _ w.heap.size 113 _ (0, 0) _ (by rfl) X.1 Tryz.underlying113 rfl Tryz.info52s) rfl ?_
  exact ⟨rfl, X.2⟩
theorem read_any (q : Option Addr) (c : Nat) (l : List UInt8) (w : World) (h : SlOf encB 1 w q c l) (hl : l.length ≤ 1000000000000000) :
    Calls Tryz.prog 110 #[.slice q l.length c] w fun e w' => e = .returned (ReadR q c l) ∧ Below w.heap.size w w' := by
  by_cases h1 : (recV l).2.2 = false ∧ (recV l).2.1 + (recV l).1 ≤ l.length
  · by_cases h2 : (sealS l ((recV l).2.1 + (recV l).1) false).2 = false
    · exact read_yesR q c l w h hl ⟨h1, h2⟩
    · exact read_no1 q c l w h hl ⟨h1, h2⟩
  · exact read_no2 q c l w h hl h1
end Go.Proofs.YtfigjfmldpfjkaaGreat

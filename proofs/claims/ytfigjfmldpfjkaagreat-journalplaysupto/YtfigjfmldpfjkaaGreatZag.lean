/- Decode: what it answers. -/
import Derived.Test.YtfigjfmldpfjkaaGreatRd6
import Derived.Shelf.Abstract
namespace Go.Proofs.YtfigjfmldpfjkaaGreat
open Go.RowKit Go.Sort

/-- What Decode answers. -/
def decS (l : List UInt8) : Option (Ch × Nat) := match recS l with
  | some (b, a) => if bodyOk b = true then some (bodyC b, a) else none
  | none => none
def DecV (l : List UInt8) : Value := match decS l with
  | some (c, a) => .tuple #[.agg #[.int .i64 c.kind, .int .i64 c.id, .string c.text], .int .i64 (a : Int), .int .i64 0]
  | none => .tuple #[.agg #[.int .i64 0, .int .i64 0, .string ⟨#[]⟩], .int .i64 0, .int .i64 30]
set_option maxRecDepth 100000 in
set_option maxHeartbeats 1000000 in
theorem decode_any (q : Option Addr) (c : Nat) (l : List UInt8) (w : World) (h : SlOf encB 1 w q c l) (hl : l.length ≤ 1000000000000000) :
    Calls Tryz.prog 84 #[.slice q l.length c] w fun e w' => e = .returned (DecV l) ∧ Below w.heap.size w w' := by
  obtain ⟨z, hz⟩ : ∃ z, w.alloc (.cells #[.int .i64 0, .int .i64 0, .string ⟨#[]⟩] 63) = z := ⟨_, rfl⟩
  have bz : Below w.heap.size w z := by rw [← hz]; exact (Below.refl _ _).alloc (Nat.le_refl _) _
  have blkz : z.heap[w.heap.size]? = some (.cells #[.int .i64 0, .int .i64 0, .string ⟨#[]⟩] 63 (0, 0)) := by rw [← hz]; exact heap_alloc_new _ _
  have hzs : z.heap.size = w.heap.size + 1 := by rw [← hz]; simp
  have hlt : w.heap.size < z.heap.size := by omega
  have hrd := read_any q c l z (h.below bz) hl
  have fin : ∀ V : World, Below z.heap.size z V → ∀ a b c : Value, (set3 V w.heap.size a b c).heap[w.heap.size]? = some (.cells #[a, b, c] 63 (0, 0)) ∧ Below w.heap.size w (set3 V w.heap.size a b c) := fun V hV a b c =>
    ⟨set3_blk ((hV.block _ hlt).trans blkz) a b c, set3_below (bz.trans (hV.mono (by omega))) (Nat.le_refl _) a b c⟩
  have HFIN := hide fin
  have cz : ∀ V : World, Below z.heap.size z V → V.heap[w.heap.size]? = some (.cells #[.int .i64 0, .int .i64 0, .string ⟨#[]⟩] 63 (0, 0)) := fun V hV => (hV.block _ hlt).trans blkz
  have CZ := hide cz
  obtain ⟨k0, i0, t0, S, M, hR, hD⟩ : ∃ (k0 i0 : Int) (t0 : ByteArray) (S : Option Addr × Nat × Nat) (M : Bool), ReadR q c l = .tuple #[.agg #[.int .i64 k0, .int .i64 i0, .string t0, .slice S.1 S.2.1 S.2.2], .bool M] ∧ DecV l = (if M = true then .tuple #[.agg #[.int .i64 k0, .int .i64 i0, .string t0], .int .i64 (S.2.1 : Int), .int .i64 0] else .tuple #[.agg #[.int .i64 0, .int .i64 0, .string ⟨#[]⟩], .int .i64 0, .int .i64 30]) := by
    unfold ReadR DecV decS
    cases recS l with
    | none => exact ⟨0, 0, ⟨#[]⟩, (none, 0, 0), false, rfl, rfl⟩
    | some x =>
      obtain ⟨b, a⟩ := x
      refine ⟨(bodyC b).kind, (bodyC b).id, (bodyC b).text, (q, a, c), bodyOk b, rfl, ?_⟩
      simp only
      cases bodyOk b <;> rfl
  rw [hR] at hrd
  rw [hD]
  obtain ⟨qa, na, ca⟩ := S
  simp only at hrd ⊢
  clear h bz blkz hzs fin cz hR hD hl
  cases M
  · go_enter Tryz.func84, Tryz.ntmps84
    go_wp2_with (go_at_call 110; refine hrd.mono ?_; rintro e w1 ⟨rfl, b1⟩; obtain ⟨⟨x0, x1, x2⟩, f0, f1, f2⟩ := cells3 (unhide CZ _ (b1.alloc b1.size (.cells #[.int .i64 k0, .int .i64 i0, .string t0, .slice qa na ca] 113))); have HX := hide (unhide HFIN _ (b1.alloc b1.size (.cells #[.int .i64 k0, .int .i64 i0, .string t0, .slice qa na ca] 113)) (.int .i64 0) (.int .i64 0) (.string ⟨#[]⟩)); clear b1)
    refine bodyPost_ret (results_ctt (fn := Tryz.f84) (p := 2) (u := 3) (v := 4) (ty := 63) rfl _ _ w.heap.size 63 _ (0, 0) _ (by rfl) (unhide HX).1 Tryz.underlying63 rfl Tryz.info32s) rfl ?_
    exact ⟨rfl, (unhide HX).2⟩
  · go_enter Tryz.func84, Tryz.ntmps84
    go_wp2_with (go_at_call 110; refine hrd.mono ?_; rintro e w1 ⟨rfl, b1⟩; obtain ⟨⟨x0, x1, x2⟩, f0, f1, f2⟩ := cells3 (unhide CZ _ (b1.alloc b1.size (.cells #[.int .i64 k0, .int .i64 i0, .string t0, .slice qa na ca] 113))); have HX := hide (unhide HFIN _ (b1.alloc b1.size (.cells #[.int .i64 k0, .int .i64 i0, .string t0, .slice qa na ca] 113)) (.int .i64 k0) (.int .i64 i0) (.string t0)); obtain ⟨⟨y0, y1, y2, y3⟩, _⟩ := cells4 (heap_alloc_new w1 (.cells #[.int .i64 k0, .int .i64 i0, .string t0, .slice qa na ca] 113)); have HB1 := hide b1; clear b1)
    have hX := unhide HX
    have hle : w1.heap.size ≠ w.heap.size := by have := (unhide HB1).size; omega
    generalize (w1.alloc (.cells #[.int .i64 k0, .int .i64 i0, .string t0, .slice qa na ca] 113)) = W at *
    have HX2 := hide hX
    clear hX HX hrd hlt
    go_region_with (fail)
    all_goals
      go_wp2
      have X1 : (set3 W w.heap.size (.int .i64 k0) (.int .i64 i0) (.string t0)).drew.heap[w.heap.size]? = some (.cells #[.int .i64 k0, .int .i64 i0, .string t0] 63 (0, 0)) := (unhide HX2).1
      refine bodyPost_ret (results_ctt (fn := Tryz.f84) (p := 2) (u := 3) (v := 4) (ty := 63) rfl _ _ w.heap.size 63 _ (0, 0) _ (by rfl) X1 Tryz.underlying63 rfl Tryz.info32s) rfl ?_
      exact ⟨rfl, (unhide HX2).2.drew⟩
end Go.Proofs.YtfigjfmldpfjkaaGreat
namespace Go.Proofs.YtfigjfmldpfjkaaGreat
open Go.RowKit Go.Sort Go.Shelf

/-- A head's number, as it is told. -/
def headV (l : List UInt8) : Nat × Nat × Bool := varS l 6 0 0 (st1 l 0 false).2.1 ((st1 l 0 false).2.2 || !(((st1 l 0 false).1.toNat : Int) == ((72 : UInt8).toNat : Int)))
/-- What readHead answers. -/
def headOk (l : List UInt8) : Bool := !(sealS l (headV l).2.1 (headV l).2.2).2 && decide (1 ≤ ((headV l).1 : Int) ∧ ((headV l).1 : Int) ≤ 1099511627777)
set_option maxRecDepth 100000 in
set_option maxHeartbeats 1000000 in
theorem readHead_any (q : Option Addr) (c : Nat) (l : List UInt8) (w : World) (h : SlOf encB 1 w q c l) (hl : l.length ≤ 1000000000000000) :
    Calls Tryz.prog 83 #[.slice q l.length c] w fun e w' => e = .returned (.tuple #[.int .i64 ((headV l).1 : Int), .int .i64 ((sealS l (headV l).2.1 (headV l).2.2).1 : Int), .bool (headOk l)]) ∧ Below w.heap.size w w' := by
  have mixed : Tryz.prog.follows .mixedOrders = true := by kernel_rfl
  have e29 : ∀ args w, (callFunc 101 args).run Tryz.prog w = .ok (.enter 101 args) w := enters_of Tryz.func101 (by kernel_rfl) rfl
  have hro := readerOf_any q c l w h
  unfold headOk
  obtain ⟨s, hs⟩ : ∃ s, st1 l 0 false = s := ⟨_, rfl⟩
  obtain ⟨y, a1, t0⟩ := s
  have hmk := fun (W : World) (H : Rd W w.heap.size q c l 0 false) => mark_any w.heap.size q c l 0 false 72 W H hl
  rw [hs] at hmk
  simp only at hmk
  obtain ⟨t1, ht1⟩ : ∃ t1, (t0 || !((y.toNat : Int) == ((72 : UInt8).toNat : Int))) = t1 := ⟨_, rfl⟩
  rw [ht1] at hmk
  obtain ⟨v, hv⟩ : ∃ v, varS l 6 0 0 a1 t1 = v := ⟨_, rfl⟩
  have hV : headV l = v := by unfold headV; rw [hs]; simp only; rw [ht1, hv]
  rw [hV]
  obtain ⟨n, a2, t2⟩ := v
  have hvar := fun (W : World) (H : Rd W w.heap.size q c l a1 t1) => varint_any w.heap.size q c l a1 t1 W H hl
  rw [hv] at hvar
  simp only at hvar ⊢
  obtain ⟨S, hS⟩ : ∃ S, sealS l a2 t2 = S := ⟨_, rfl⟩
  have hse := fun (W : World) (H : Rd W w.heap.size q c l a2 t2) => rseal_any w.heap.size q c l a2 t2 W H hl
  rw [hS] at hse ⊢
  obtain ⟨a4, t4⟩ := S
  simp only at hse ⊢
  have hnx := fun W : World => next_any (n : Int) W
  generalize decide (1 ≤ (n : Int) ∧ (n : Int) ≤ 1099511627777) = M at hnx ⊢
  have hnx2 : ∀ W : World, Calls Tryz.prog 101 #[.int .i64 (n : Int)] W fun e w' => e = .returned (.bool M) ∧ Below W.heap.size W w' := fun W => (hnx W).mono (by rintro e w' ⟨h1, rfl⟩; exact ⟨h1, Below.refl _ _⟩)
  clear h hs ht1 hv hV hS hl hnx
  cases t4
  · go_enter Tryz.func83, Tryz.ntmps83
    go_wp2_with (first
      | (go_at_call 106; refine hro.mono ?_; rintro e w1 ⟨rfl, r1, b1⟩; have R1 := hide r1; have B1 := hide b1; clear r1 b1)
      | (go_at_call 107; refine (hmk _ (unhide R1)).mono ?_; rintro e w2 ⟨⟨v2, rfl⟩, r2, g2⟩; have R2 := hide r2; have B2 := hide ((unhide B1).trans (below_grown g2 (Nat.le_refl _) (unhide B1).size)); clear r2 g2)
      | (go_at_call 108; refine (hvar _ (unhide R2)).mono ?_; rintro e w3 ⟨rfl, r3, g3⟩; have R3 := hide r3; have B3 := hide ((unhide B2).trans (below_grown g3 (Nat.le_refl _) (unhide B2).size)); clear r3 g3)
      | (go_at_call 109; refine (hse _ (unhide R3)).mono ?_; rintro e w5 ⟨⟨v5, rfl⟩, r5, g5⟩; obtain ⟨c50, c51, c52⟩ := r5.cells; have q1 := cell_regrown c51; have q2 := cell_regrown c52; have B5 := hide ((unhide B3).trans (below_grown g5 (Nat.le_refl _) (unhide B3).size)); clear r5 g5))
    refine wp_region_quiet_below (by assumption) (by kernel_rfl) ?_
    repeat (go_big_quiet_step (first | (go_at_fn 101; refine Calls.regrown_of (hnx2 _))))
    refine wpQuiet_nil ?_
    intro _ hw'
    obtain ⟨⟨dq, osq⟩, hw''⟩ := hw'
    subst hw''
    go_wp2
    refine bodyPost_ret (v := .tuple #[.int .i64 (n : Int), .int .i64 (a4 : Int), .bool M]) (by simp [results, Tryz.f83, go_sem]) rfl ?_
    exact ⟨rfl, (unhide B5).trans ((below_regrown _ _ _).mono (unhide B5).size)⟩
  · go_enter Tryz.func83, Tryz.ntmps83
    go_wp2_with (first
      | (go_at_call 106; refine hro.mono ?_; rintro e w1 ⟨rfl, r1, b1⟩; have R1 := hide r1; have B1 := hide b1; clear r1 b1)
      | (go_at_call 107; refine (hmk _ (unhide R1)).mono ?_; rintro e w2 ⟨⟨v2, rfl⟩, r2, g2⟩; have R2 := hide r2; have B2 := hide ((unhide B1).trans (below_grown g2 (Nat.le_refl _) (unhide B1).size)); clear r2 g2)
      | (go_at_call 108; refine (hvar _ (unhide R2)).mono ?_; rintro e w3 ⟨rfl, r3, g3⟩; have R3 := hide r3; have B3 := hide ((unhide B2).trans (below_grown g3 (Nat.le_refl _) (unhide B2).size)); clear r3 g3)
      | (go_at_call 109; refine (hse _ (unhide R3)).mono ?_; rintro e w5 ⟨⟨v5, rfl⟩, r5, g5⟩; obtain ⟨c50, c51, c52⟩ := r5.cells; have q1 := cell_regrown c51; have q2 := cell_regrown c52; have B5 := hide ((unhide B3).trans (below_grown g5 (Nat.le_refl _) (unhide B3).size)); clear r5 g5))
    refine wp_region_quiet_below (by assumption) (by kernel_rfl) ?_
    repeat (go_big_quiet_step (fail))
    refine wpQuiet_nil ?_
    intro _ hw'
    obtain ⟨⟨dq, osq⟩, hw''⟩ := hw'
    subst hw''
    go_wp2
    refine bodyPost_ret (v := .tuple #[.int .i64 (n : Int), .int .i64 (a4 : Int), .bool false]) (by simp [results, Tryz.f83, go_sem]) rfl ?_
    exact ⟨rfl, (unhide B5).trans ((below_regrown _ _ _).mono (unhide B5).size)⟩
end Go.Proofs.YtfigjfmldpfjkaaGreat

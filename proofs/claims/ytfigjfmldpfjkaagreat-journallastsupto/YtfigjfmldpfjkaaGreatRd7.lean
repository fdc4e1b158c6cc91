/- Decode: what it answers. -/
import Derived.Test.YtfigjfmldpfjkaaGreatRd6
namespace Go.Proofs.YtfigjfmldpfjkaaGreat
open Go.RowKit Go.Sort

/-- What Decode answers. -/
def decS (l : List UInt8) : Option (Ch × Nat) := match recS l with
  | some (b, a) => if bodyOk b = true then some (bodyC b, a) else none
  | none => none
def DecV (l : List UInt8) : Value := match decS l with
  | some (c, a) => .tuple #[.agg #[.int .i64 c.kind, .int .i64 c.id, .string c.text], .int .i64 (a : Int), .int .i64 0]
  | none => .tuple #[.agg #[.int .i64 0, .int .i64 0, .string ⟨#[]⟩], .int .i64 0, .int .i64 30]
set_option maxRecDepth 100000 in
set_option maxHeartbeats 1000000 in
theorem decode_any (q : Option Addr) (c : Nat) (l : List UInt8) (w : World) (h : SlOf encB 1 w q c l) (hl : l.length ≤ 1000000000000000) :
    Calls Tryz.prog 84 #[.slice q l.length c] w fun e w' => e = .returned (DecV l) ∧ Below w.heap.size w w' := by
  obtain ⟨z, hz⟩ : ∃ z, w.alloc (.cells #[.int .i64 0, .int .i64 0, .string ⟨#[]⟩] 63) = z := ⟨_, rfl⟩
  have bz : Below w.heap.size w z := by rw [← hz]; exact (Below.refl _ _).alloc (Nat.le_refl _) _
  have blkz : z.heap[w.heap.size]? = some (.cells #[.int .i64 0, .int .i64 0, .string ⟨#[]⟩] 63 (0, 0)) := by rw [← hz]; exact heap_alloc_new _ _
  have hzs : z.heap.size = w.heap.size + 1 := by rw [← hz]; simp
  have hlt : w.heap.size < z.heap.size := by omega
  have hrd := read_any q c l z (h.below bz) hl
  have fin : ∀ V : World, Below z.heap.size z V → ∀ a b c : Value, (set3 V w.heap.size a b c).heap[w.heap.size]? = some (.cells #[a, b, c] 63 (0, 0)) ∧ Below w.heap.size w (set3 V w.heap.size a b c) := fun V hV a b c =>
    ⟨set3_blk ((hV.block _ hlt).trans blkz) a b c, set3_below (bz.trans (hV.mono (by omega))) (Nat.le_refl _) a b c⟩
  have HFIN := hide fin
  have cz : ∀ V : World, Below z.heap.size z V → V.heap[w.heap.size]? = some (.cells #[.int .i64 0, .int .i64 0, .string ⟨#[]⟩] 63 (0, 0)) := fun V hV => (hV.block _ hlt).trans blkz
  have CZ := hide cz
  obtain ⟨k0, i0, t0, S, M, hR, hD⟩ : ∃ (k0 i0 : Int) (t0 : ByteArray) (S : Option Addr × Nat × Nat) (M : Bool), ReadR q c l = .tuple #[.agg #[.int .i64 k0, .int .i64 i0, .string t0, .slice S.1 S.2.1 S.2.2], .bool M] ∧ DecV l = (if M = true then .tuple #[.agg #[.int .i64 k0, .int .i64 i0, .string t0], .int .i64 (S.2.1 : Int), .int .i64 0] else .tuple #[.agg #[.int .i64 0, .int .i64 0, .string ⟨#[]⟩], .int .i64 0, .int .i64 30]) := by
    unfold ReadR DecV decS
    cases recS l with
    | none => exact ⟨0, 0, ⟨#[]⟩, (none, 0, 0), false, rfl, rfl⟩
    | some x =>
      obtain ⟨b, a⟩ := x
      refine ⟨(bodyC b).kind, (bodyC b).id, (bodyC b).text, (q, a, c), bodyOk b, rfl, ?_⟩
      simp only
      cases bodyOk b <;> rfl
  rw [hR] at hrd
  rw [hD]
  obtain ⟨qa, na, ca⟩ := S
  simp only at hrd ⊢
  clear h bz blkz hzs fin cz hR hD hl
  cases M
  · go_enter Tryz.func84, Tryz.ntmps84
    go_wp2_with (go_at_call 110; refine hrd.mono ?_; rintro e w1 ⟨rfl, b1⟩; obtain ⟨⟨x0, x1, x2⟩, f0, f1, f2⟩ := cells3 (unhide CZ _ (b1.alloc b1.size (.cells #[.int .i64 k0, .int .i64 i0, .string t0, .slice qa na ca] 113))); have HX := hide (unhide HFIN _ (b1.alloc b1.size (.cells #[.int .i64 k0, .int .i64 i0, .string t0, .slice qa na ca] 113)) (.int .i64 0) (.int .i64 0) (.string ⟨#[]⟩)); clear b1)
    refine bodyPost_ret (results_ctt (fn := Tryz.f84) (p := 2) (u := 3) (v := 4) (ty := 63) rfl _ _ w.heap.size 63 _ (0, 0) _ (by rfl) (unhide HX).1 Tryz.underlying63 rfl Tryz.info32s) rfl ?_
    exact ⟨rfl, (unhide HX).2⟩
  · go_enter Tryz.func84, Tryz.ntmps84
    go_wp2_with (go_at_call 110; refine hrd.mono ?_; rintro e w1 ⟨rfl, b1⟩; obtain ⟨⟨x0, x1, x2⟩, f0, f1, f2⟩ := cells3 (unhide CZ _ (b1.alloc b1.size (.cells #[.int .i64 k0, .int .i64 i0, .string t0, .slice qa na ca] 113))); have HX := hide (unhide HFIN _ (b1.alloc b1.size (.cells #[.int .i64 k0, .int .i64 i0, .string t0, .slice qa na ca] 113)) (.int .i64 k0) (.int .i64 i0) (.string t0)); obtain ⟨⟨y0, y1, y2, y3⟩, _⟩ := cells4 (heap_alloc_new w1 (.cells #[.int .i64 k0, .int .i64 i0, .string t0, .slice qa na ca] 113)); have HB1 := hide b1; clear b1)
    have hX := unhide HX
    have hle : w1.heap.size ≠ w.heap.size := by have := (unhide HB1).size; omega
    generalize (w1.alloc (.cells #[.int .i64 k0, .int .i64 i0, .string t0, .slice qa na ca] 113)) = W at *
    have HX2 := hide hX
    clear hX HX hrd hlt
    go_region_with (fail)
    all_goals
      go_wp2
      have X1 : (set3 W w.heap.size (.int .i64 k0) (.int .i64 i0) (.string t0)).drew.heap[w.heap.size]? = some (.cells #[.int .i64 k0, .int .i64 i0, .string t0] 63 (0, 0)) := (unhide HX2).1
      refine bodyPost_ret (results_ctt (fn := Tryz.f84) (p := 2) (u := 3) (v := 4) (ty := 63) rfl _ _ w.heap.size 63 _ (0, 0) _ (by rfl) X1 Tryz.underlying63 rfl Tryz.info32s) rfl ?_
      exact ⟨rfl, (unhide HX2).2.drew⟩
end Go.Proofs.YtfigjfmldpfjkaaGreat

/- Changes that are the same; a byte of a row of the call's own is written. -/
import Derived.Test.YtfigjfmldpfjkaaGreatDecQ
namespace Go.Proofs.YtfigjfmldpfjkaaGreat
open Go.RowKit Go.Sort Go.Shelf

instance : DecidableEq Ch := fun a b =>
  if h : a.kind = b.kind ∧ a.id = b.id ∧ a.text = b.text then isTrue (by cases a; cases b; obtain ⟨h1, h2, h3⟩ := h; simp only at h1 h2 h3; rw [h1, h2, h3]) else isFalse (fun e => h (by rw [e]; exact ⟨rfl, rfl, rfl⟩))
theorem ba_extR {s t : ByteArray} (h : s.toList = t.toList) : s = t := by
  rw [ByteArray.toList_eq, ByteArray.toList_eq] at h
  cases s; cases t
  simp only at h
  rw [Array.toList_inj.1 h]
theorem eqlC (x y : Ch) (w : World) : (binOp .eql 63 (.agg #[.int .i64 x.kind, .int .i64 x.id, .string x.text]) (.agg #[.int .i64 y.kind, .int .i64 y.id, .string y.text])).run Tryz.prog w = .ok (.bool (decide (x = y))) w := by
  have u3 := Tryz.underlying3
  have a3 := Tryz.isAgg3
  have z3 := Tryz.sizeOf3
  have u9 := Tryz.underlying9
  have a9 := Tryz.isAgg9
  have z9 := Tryz.sizeOf9
  have hS : Tryz.prog.underlying 63 = some (.struct (Tryz.prog.fieldsOf 63)) := by kernel_rfl
  have hp : Tryz.prog.stoodInHeld 63 = false := by kernel_rfl
  rw [run_eql_struct, show (10000 : Nat) = 9999 + 1 from rfl, run_equalIn_agg w 9999 63 _ _ hS hp]
  simp only [Program.fieldsOf, Tryz.underlying63]
  go_simp
  obtain ⟨k, n, s⟩ := x
  obtain ⟨k', n', s'⟩ := y
  have hd : ((⟨k, n, s⟩ : Ch) = ⟨k', n', s'⟩) ↔ (k = k' ∧ n = n' ∧ s.toList = s'.toList) := ⟨fun h => by injection h with h1 h2 h3; exact ⟨h1, h2, by rw [h3]⟩, fun ⟨h1, h2, h3⟩ => by rw [h1, h2, ba_extR h3]⟩
  rw [show decide ((⟨k, n, s⟩ : Ch) = ⟨k', n', s'⟩) = decide (k = k' ∧ n = n' ∧ s.toList = s'.toList) from decide_eq_decide.2 hd]
  by_cases h1 : k = k' <;> by_cases h2 : n = n' <;> by_cases h3 : s.toList = s'.toList <;> simp [h1, h2, h3]
theorem neqC (x y : Ch) (w : World) : (binOp .neq 63 (.agg #[.int .i64 x.kind, .int .i64 x.id, .string x.text]) (.agg #[.int .i64 y.kind, .int .i64 y.id, .string y.text])).run Tryz.prog w = .ok (.bool (!decide (x = y))) w := by
  have u3 := Tryz.underlying3
  have a3 := Tryz.isAgg3
  have z3 := Tryz.sizeOf3
  have u9 := Tryz.underlying9
  have a9 := Tryz.isAgg9
  have z9 := Tryz.sizeOf9
  have hS : Tryz.prog.underlying 63 = some (.struct (Tryz.prog.fieldsOf 63)) := by kernel_rfl
  have hp : Tryz.prog.stoodInHeld 63 = false := by kernel_rfl
  rw [run_neq_struct, show (10000 : Nat) = 9999 + 1 from rfl, run_equalIn_agg w 9999 63 _ _ hS hp]
  simp only [Program.fieldsOf, Tryz.underlying63]
  go_simp
  obtain ⟨k, n, s⟩ := x
  obtain ⟨k', n', s'⟩ := y
  have hd : ((⟨k, n, s⟩ : Ch) = ⟨k', n', s'⟩) ↔ (k = k' ∧ n = n' ∧ s.toList = s'.toList) := ⟨fun h => by injection h with h1 h2 h3; exact ⟨h1, h2, by rw [h3]⟩, fun ⟨h1, h2, h3⟩ => by rw [h1, h2, ba_extR h3]⟩
  rw [show decide ((⟨k, n, s⟩ : Ch) = ⟨k', n', s'⟩) = decide (k = k' ∧ n = n' ∧ s.toList = s'.toList) from decide_eq_decide.2 hd]
  by_cases h1 : k = k' <;> by_cases h2 : n = n' <;> by_cases h3 : s.toList = s'.toList <;> simp [h1, h2, h3]
/-- A byte of a row of the call's own is written. -/
theorem own_set {B : Nat} {w : World} {g cap : Nat} {l : List UInt8} (h : OwnK encB 5 1 B w (some ⟨g, 0, none⟩) cap l) (j : Nat) (hj : j < l.length) (y : UInt8) : OwnK encB 5 1 B (w.setCell ⟨g, j, none⟩ (bv y)) (some ⟨g, 0, none⟩) cap (l.set j y) ∧ w.cell? ⟨g, j, none⟩ = some (bv l[j]) ∧ w.frozen? ⟨g, j, none⟩ = false := by
  unfold OwnK at h ⊢
  rw [flatB] at h ⊢
  rcases h.2 with ⟨h0, _⟩ | ⟨g', cp, cur, hv, hB, hblk, hn, hm, hs, ht⟩
  · injection h0 with h0; cases h0
  · injection hv with h1 _ h2
    injection h1 with h1
    injection h1 with h1
    subst h1 h2
    rw [Nat.mul_one] at hs ht
    refine ⟨⟨by simp, .inr ⟨g, cap, cur.set! j (bv y), by simp, hB, heap_setCell_same w g j cur 5 _ hblk, by simpa using hn, hm, by simpa using hs, ?_⟩⟩, ?_, frozen_free hblk⟩
    · rw [Nat.mul_one, List.length_set]
      rw [List.map_set, ← ht]
      simp [List.take_set]
    · unfold World.cell?
      rw [hblk]
      have hcj : (cur.toList.take l.length)[j]? = some (bv l[j]) := by rw [ht]; simp [hj]
      rw [List.getElem?_take_of_lt hj] at hcj
      simpa using hcj
set_option maxHeartbeats 400000 in
set_option maxRecDepth 100000 in
theorem sameC_any (q q' : Option Addr) (c c' : Nat) (l m : List Ch) (w : World) (h : SlOf encC 3 w q c l) (h' : SlOf encC 3 w q' c' m) (hl : l.length ≤ 1000000000000) (hl' : m.length ≤ 1000000000000) :
    Calls Tryz.prog 18 #[.slice q l.length c, .slice q' m.length c'] w fun e w' => e = .returned (.bool (decide (l = m))) ∧ Below w.heap.size w w' := by
  by_cases hlen : l.length = m.length
  · have hli : ((l.length : Int) == (m.length : Int)) = true := by rw [hlen]; simp
    obtain ⟨R, hR⟩ : ∃ R, decide (l = m) = R := ⟨_, rfl⟩
    rw [hR]
    have HR := hide hR
    have mixed : Tryz.prog.follows .mixedOrders = true := by kernel_rfl
    have HLn := hide hlen
    clear hR
    rw [hlen]
    rw [hlen] at hli
    go_enter Tryz.func18, Tryz.ntmps18
    go_wp2
    go_loopw [13] (fun i wr => ∃ k : Nat, k ≤ m.length ∧ i = .int .i64 (k : Int) ∧ Hid (l.take k = m.take k) ∧ Hid (Below w.heap.size w wr)) (fun i _ => m.length - (intOf i).toNat)
    case atStart => exact ⟨0, Nat.zero_le _, rfl, hide rfl, hide (Below.refl _ _)⟩
    case round =>
      obtain ⟨k, hk, rfl, HT, HB⟩ := hrel
      by_cases hlt : k < m.length
      · obtain ⟨y, hy, _⟩ := get_at hlt
        obtain ⟨x, hx, _⟩ := get_at (show k < l.length by have := unhide HLn; omega)
        obtain ⟨b, off, hq, hb, c0, c1, c2⟩ := changeAt (h.below (unhide HB)) hx
        obtain ⟨b', off', hq', hb', d0, d1, d2⟩ := changeAt (h'.below (unhide HB)) hy
        subst hq hq'
        have q0 := cell_regrown c0
        have q1 := cell_regrown c1
        have q2 := cell_regrown c2
        have r0 := cell_regrown d0
        have r1 := cell_regrown d1
        have r2 := cell_regrown d2
        have hne := neqC x y
        have ki0 : (0 : Int) ≤ (k : Int) := by omega
        have ki1 : (k : Int) < (m.length : Int) := by omega
        by_cases hxy : x = y
        · have HT2 := hide (show l.take (k + 1) = m.take (k + 1) by rw [take_snoc_of hx, take_snoc_of hy, unhide HT, hxy])
          rw [decide_eq_true hxy] at hne
          clear h h' hx hy hxy
          go_wp2
          refine wp_region_quiet_below (by assumption) (by kernel_rfl) ?_
          repeat (go_big_quiet_step (fail))
          refine wpQuiet_nil ?_
          intro _ hw'
          obtain ⟨⟨dq, osq⟩, hw''⟩ := hw'
          subst hw''
          go_wp2
          go_roundw
          case rel => exact ⟨k + 1, by omega, by go_num, HT2, hide ((unhide HB).trans ((below_regrown _ _ _).mono (unhide HB).size))⟩
          case measure => simp [intOf]; omega
        · have HN := hide (show R = false by
            rw [← unhide HR]
            exact decide_eq_false (fun e => by subst e; rw [hx] at hy; injection hy with hy; exact hxy hy))
          rw [decide_eq_false hxy] at hne
          clear h h' hx hy hxy
          go_wp2
          refine wp_region_quiet_below (by assumption) (by kernel_rfl) ?_
          repeat (go_big_quiet_step (fail))
          refine wpQuiet_nil ?_
          intro _ hw'
          obtain ⟨⟨dq, osq⟩, hw''⟩ := hw'
          subst hw''
          go_wp2
          go_ret
          exact ⟨ret_bool (unhide HN).symm, (unhide HB).trans ((below_regrown _ _ _).mono (unhide HB).size)⟩
      · obtain rfl : k = m.length := by omega
        have ki1 : ¬ (m.length : Int) < (m.length : Int) := by omega
        clear h h'
        go_wp2
        go_ret
        refine ⟨ret_bool ?_, unhide HB⟩
        rw [← unhide HR]
        symm
        refine decide_eq_true ?_
        have h1 := unhide HT
        rw [List.take_length, ← unhide HLn, List.take_length] at h1
        exact h1
  · have hli : ((l.length : Int) == (m.length : Int)) = false := by simp; omega
    rw [decide_eq_false (fun e => hlen (by rw [e]))]
    clear h h'
    go_enter Tryz.func18, Tryz.ntmps18
    go_wp2
    go_ret
    exact ⟨rfl, Below.refl _ _⟩
end Go.Proofs.YtfigjfmldpfjkaaGreat

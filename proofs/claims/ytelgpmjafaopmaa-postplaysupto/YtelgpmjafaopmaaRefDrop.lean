/- The reference's Drop. -/
import Derived.Test.YtelgpmjafaopmaaRef
namespace Go.Proofs.Ytelgpmjafaopmaa
open Go.RowKit Go.Sort Go.Shelf

theorem mem_snoc {ids : List Int} {j : Nat} {y a : Int} (hy : ids[j]? = some y) : (a ∈ ids.take (j + 1)) ↔ (a ∈ ids.take j ∨ a = y) := by
  rw [take_snoc_of hy, List.mem_append, List.mem_singleton]
set_option maxHeartbeats 2000000 in
set_option maxRecDepth 100000 in
/-- trommelref13.Drop. -/
theorem refDrop (p : Option Addr) (c : Nat) (l : List Pt) (pi : Option Addr) (ci : Nat) (ids : List Int) (w : World) (hs : SlOf encP 2 w p c l) (hi : SlOf encI 1 w pi ci ids) (hl : l.length * 16 ≤ 140737488355328) (hil : ids.length ≤ 100000000000000) :
    Calls Try.prog 27 #[.slice p l.length c, .slice pi ids.length ci] w fun e w' => (∃ q cap, e = .returned (.tuple #[.slice q (wo l ids).length cap, .int .i64 ((l.length - (wo l ids).length : Nat) : Int)]) ∧ OwnK encP 43 2 w.heap.size w' q cap (wo l ids)) ∧ Below w.heap.size w w' := by
  have l1 : (l.length : Int) ≤ 100000000000000 := by omega
  have l2 : (ids.length : Int) ≤ 100000000000000 := by omega
  have HS := hide hs
  have HI := hide hi
  clear hs hi
  go_enter Try.func27, Try.ntmps27
  go_wp2
  go_loopw [6, 7] (fun s i wr => ∃ (k : Nat) (q : Option Addr) (cap : Nat), k ≤ l.length ∧ i = .int .i64 k ∧ s = .slice q (wo (l.take k) ids).length cap ∧ OwnK encP 43 2 w.heap.size wr q cap (wo (l.take k) ids) ∧ Below w.heap.size w wr) (fun _ i _ => l.length - (intOf i).toNat)
  case atStart => exact ⟨0, none, 0, Nat.zero_le _, rfl, rfl, OwnK.nil _ _, Below.refl _ _⟩
  case round =>
    obtain ⟨k, q, cap, hk, rfl, rfl, ho, hb⟩ := hrel
    have HO := hide ho
    have HB := hide hb
    have hsz := hb.size
    by_cases hlt : k < l.length
    · obtain ⟨x, hx, _⟩ := get_at hlt
      have ki0 : (0 : Int) ≤ (k : Int) := by omega
      have ki1 : (k : Int) < (l.length : Int) := by omega
      have HTL := hide (wo_take_len l ids k)
      have HX := hide hx
      clear hx ho hb
      go_wp2
      go_loopw [8, 9] (fun s8 s9 wi => ∃ (j : Nat), j ≤ ids.length ∧ s9 = .int .i64 j ∧ s8 = .bool (decide (x.1 ∈ ids.take j)) ∧ Below wr.heap.size wr wi) (fun _ s9 _ => ids.length - (intOf s9).toNat)
      case atStart => exact ⟨0, Nat.zero_le _, rfl, rfl, Below.refl _ _⟩
      case round =>
        obtain ⟨j, hj, rfl, rfl, hbi⟩ := hrel
        have HBI := hide hbi
        have hszi := hbi.size
        obtain ⟨b, off, hq, hbs, c0, c1⟩ := postAt (((unhide HS).below (unhide HB)).below hbi) (unhide HX)
        by_cases hjl : j < ids.length
        · obtain ⟨y, hy, _⟩ := get_at hjl
          obtain ⟨b', off', hq', _, d0⟩ := intAt (((unhide HI).below (unhide HB)).below hbi) hy
          have ji0 : (0 : Int) ≤ (j : Int) := by omega
          have ji1 : (j : Int) < (ids.length : Int) := by omega
          have HM := hide (mem_snoc (a := x.1) hy)
          subst hq
          subst hq'
          by_cases hxy : y = x.1
          · have hyx : (y == x.1) = true := by simpa using hxy
            have HN := hide (show decide (x.1 ∈ ids.take (j + 1)) = true from decide_eq_true ((unhide HM).2 (Or.inr hxy.symm)))
            generalize decide (x.1 ∈ ids.take j) = D
            clear hy hbi c1 hxy
            go_wp2
            go_region_held3 (fun w' => w'.cell? ⟨b, off + k * 2, none⟩ = some (.int .i64 x.1) ∧ w'.cell? ⟨b', off' + j, none⟩ = some (.int .i64 y)) (go_keep) (fail)
            all_goals
              go_wp2
              go_roundw
              case rel => exact ⟨j + 1, by omega, by go_num, by rw [unhide HN], (unhide HBI).drew⟩
              case measure => simp [intOf]; omega
          · have hyx : (y == x.1) = false := by simpa using hxy
            have HN := hide (show decide (x.1 ∈ ids.take (j + 1)) = decide (x.1 ∈ ids.take j) from decide_eq_decide.2 ((unhide HM).trans ⟨fun h => h.elim id fun h => absurd h.symm hxy, Or.inl⟩))
            generalize decide (x.1 ∈ ids.take j) = D at HN ⊢
            clear hy hbi c1 hxy
            go_wp2
            go_region_held3 (fun w' => w'.cell? ⟨b, off + k * 2, none⟩ = some (.int .i64 x.1) ∧ w'.cell? ⟨b', off' + j, none⟩ = some (.int .i64 y)) (go_keep) (fail)
            all_goals
              go_wp2
              go_roundw
              case rel => exact ⟨j + 1, by omega, by go_num, by rw [unhide HN], (unhide HBI).drew⟩
              case measure => simp [intOf]; omega
        · obtain rfl : j = ids.length := by omega
          have ji1 : ¬ (ids.length : Int) < (ids.length : Int) := by omega
          rw [List.take_length]
          subst hq
          by_cases hm : x.1 ∈ ids
          · have HW := hide (show wo (l.take (k + 1)) ids = wo (l.take k) ids by rw [wo_take (unhide HX), if_pos hm])
            rw [decide_eq_true hm]
            clear hbi c0 c1 hm
            go_wp2
            go_roundw
            case rel => exact ⟨k + 1, q, cap, by omega, by go_num, by rw [unhide HW], by rw [unhide HW]; exact (unhide HO).below (unhide HBI), (unhide HB).trans ((unhide HBI).mono hsz)⟩
            case measure => simp [intOf]; omega
          · have HW := hide (show wo (l.take (k + 1)) ids = wo (l.take k) ids ++ [x] by rw [wo_take (unhide HX), if_neg hm])
            rw [decide_eq_false hm]
            clear hbi hm
            go_wp2_with (at_builtin; refine wpList_app rowP rfl _ _ rfl w.heap.size q cap (wo (l.take k) ids) (some ⟨_, 0, none⟩) 1 [x] (wo (l.take k) ids).length 1 ((wo (l.take k) ids).length + 1) rfl rfl rfl rfl rfl (((unhide HO).below (unhide HBI)).below ((Below.refl _ _).alloc (Nat.le_refl _) _)) (srcP (World.alloc_heap_new _ _)) (by have := unhide HTL; unfold maxLen; omega) (by have := unhide HTL; omega) (by simp; omega) ?_; intro q2 cap2 w2 ho2 hb2 _ _; have HO2 := hide ho2; have HB2 := hide hb2; clear ho2 hb2)
            go_roundw
            case rel => exact ⟨k + 1, q2, cap2, by omega, by go_num, by rw [unhide HW, List.length_append]; rfl, by rw [unhide HW]; exact unhide HO2, ((unhide HB).trans (((unhide HBI).mono hsz).alloc (by omega) _)).trans (unhide HB2)⟩
            case measure => simp [intOf]; omega
    · obtain rfl : k = l.length := by omega
      rw [List.take_length] at HO
      have ki1 : ¬ (l.length : Int) < (l.length : Int) := by omega
      have e1 : l.take l.length = l := List.take_length
      have hwl := wo_len l ids
      have hwr : IntKind.i64.wrap ((l.length : Int) - ((wo l ids).length : Int)) = ((l.length - (wo l ids).length : Nat) : Int) := by
        rw [show (l.length : Int) - ((wo l ids).length : Int) = ((l.length - (wo l ids).length : Nat) : Int) by omega]; exact wrap_nat _ (by omega)
      rw [e1]
      obtain ⟨N, hN⟩ : ∃ N, l.length - (wo l ids).length = N := ⟨_, rfl⟩
      rw [hN] at hwr
      have HN := hide hN
      clear hN
      clear ho hb e1
      go_wp2
      refine bodyPost_ret (v := .tuple #[.slice q (wo l ids).length cap, .int .i64 (N : Int)]) (by simp [results, Try.f27, go_sem]) rfl ?_
      exact ⟨⟨q, cap, by rw [unhide HN], unhide HO⟩, unhide HB⟩
end Go.Proofs.Ytelgpmjafaopmaa

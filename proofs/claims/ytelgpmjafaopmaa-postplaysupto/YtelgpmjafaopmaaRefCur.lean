/- The reference's cursor: Post, Next, Skip. -/
import Derived.Test.YtelgpmjafaopmaaWithout
namespace Go.Proofs.Ytelgpmjafaopmaa
open Go.RowKit Go.Sort Go.Shelf

/-- The reference's cursor at block C: n posts at q, it stands at the k-th. -/
def RCur (w : World) (C : Nat) (q : Option Addr) (n cap k : Nat) : Prop := w.heap[C]? = some (.cells #[.slice q n cap, .int .i64 (k : Int)] 36 (0, 0))
theorem RCur.cells {w : World} {C : Nat} {q : Option Addr} {n cap k : Nat} (h : RCur w C q n cap k) : w.cell? ⟨C, 0, none⟩ = some (.slice q n cap) ∧ w.cell? ⟨C, 1, none⟩ = some (.int .i64 (k : Int)) ∧ w.frozen? ⟨C, 1, none⟩ = false := by
  unfold RCur at h
  unfold World.cell? World.frozen?; simp [h]
theorem RCur.lt {w : World} {C : Nat} {q : Option Addr} {n cap k : Nat} (h : RCur w C q n cap k) : C < w.heap.size := (Array.getElem?_eq_some_iff.1 h).1
theorem RCur.below {w w' : World} {C : Nat} {q : Option Addr} {n cap k : Nat} (h : RCur w C q n cap k) (hb : Below w.heap.size w w') : RCur w' C q n cap k := (hb.block C h.lt).trans h
theorem RCur.put {w : World} {C : Nat} {q : Option Addr} {n cap k : Nat} (h : RCur w C q n cap k) (k' : Nat) : RCur (w.setCell ⟨C, 1, none⟩ (.int .i64 (k' : Int))) C q n cap k' := by
  unfold RCur at *
  rw [heap_setCell_same w C 1 _ 36 _ h]
  rfl
set_option maxHeartbeats 1000000 in
theorem postR (C : Nat) (q : Option Addr) (cap k : Nat) (l : List Pt) (w : World) (h : RCur w C q l.length cap k) (hs : SlOf encP 2 w q cap l) (hk : k ≤ l.length) :
    Calls Try.prog 48 #[.pointer (some ⟨C, 0, none⟩)] w fun e w' => e = .returned (pstV l[k]?) ∧ Below w.heap.size w w' := by
  obtain ⟨d0, d1, _⟩ := h.cells
  have n1 := World.new_ne w ⟨C, 0, none⟩ d0
  have n2 := World.new_ne w ⟨C, 1, none⟩ d1
  by_cases hlt : k < l.length
  · obtain ⟨x, hx, _⟩ := get_at hlt
    rw [hx]
    obtain ⟨b, off, hq, hb, c0, c1⟩ := postAt hs hx
    have ki0 : (0 : Int) ≤ (k : Int) := by omega
    have ki1 : (k : Int) < (l.length : Int) := by omega
    have ki2 : ¬ (k : Int) ≥ (l.length : Int) := by omega
    have ki3 : ¬ (l.length : Int) ≤ (k : Int) := by omega
    have n3 := World.new_ne w ⟨b, off + k * 2, none⟩ c0
    have n4 := World.new_ne w ⟨b, off + k * 2 + 1, none⟩ c1
    subst hq
    clear h hs hx
    go_enter Try.func48, Try.ntmps48
    go_wp2
    go_region_held3 (fun w' => w'.cell? ⟨C, 0, none⟩ = some (.slice (some ⟨b, off, none⟩) l.length cap) ∧ w'.cell? ⟨C, 1, none⟩ = some (.int .i64 (k : Int))) (go_keep) (fail)
    all_goals
      go_wp2
      go_region_held3 (fun w' => (w'.cell? ⟨C, 0, none⟩ = some (.slice (some ⟨b, off, none⟩) l.length cap) ∧ w'.cell? ⟨C, 1, none⟩ = some (.int .i64 (k : Int))) ∧ w'.cell? ⟨b, off + k * 2, none⟩ = some (.int .i64 x.1) ∧ w'.cell? ⟨b, off + k * 2 + 1, none⟩ = some (.bool x.2)) (go_keep) (fail)
    all_goals
      go_wp2
      refine bodyPost_ret (v := .tuple #[.agg #[.int .i64 x.1, .bool x.2], .bool true]) (by simp [results, Try.f48, go_sem]) rfl ?_
      exact ⟨rfl, (((Below.refl _ _).alloc (Nat.le_refl _) _).drew).drew⟩
  · obtain rfl : k = l.length := by omega
    rw [List.getElem?_eq_none (Nat.le_refl _)]
    have ki2 : (l.length : Int) ≥ (l.length : Int) := by omega
    have ki3 : (l.length : Int) ≤ (l.length : Int) := by omega
    clear h hs
    go_enter Try.func48, Try.ntmps48
    go_wp2
    go_region_held3 (fun w' => w'.cell? ⟨C, 0, none⟩ = some (.slice q l.length cap) ∧ w'.cell? ⟨C, 1, none⟩ = some (.int .i64 (l.length : Int))) (go_keep) (fail)
    all_goals
      go_wp2
      refine bodyPost_ret (v := .tuple #[.agg #[.int .i64 0, .bool false], .bool false]) (by simp [results, Try.f48, go_sem]) rfl ?_
      exact ⟨rfl, ((Below.refl _ _).alloc (Nat.le_refl _) _).drew⟩
set_option maxHeartbeats 1000000 in
theorem nextR_in (C : Nat) (q : Option Addr) (n cap k : Nat) (w : World) (h : RCur w C q n cap k) (hlt : k < n) (hn : n ≤ 100000000000000) :
    Calls Try.prog 29 #[.pointer (some ⟨C, 0, none⟩)] w fun e w' => e = .returned (.bool (decide (k + 1 < n))) ∧ RCur w' C q n cap (k + 1) ∧ w.grownBy w' (some C) := by
  obtain ⟨c0, c1, f1⟩ := h.cells
  have hp0 : RCur (w.setCell ⟨C, 1, none⟩ (.int .i64 ((k : Int) + 1))).drew C q n cap (k + 1) := (show RCur (w.setCell ⟨C, 1, none⟩ (.int .i64 ((k + 1 : Nat) : Int))) C q n cap (k + 1) from h.put (k + 1))
  obtain ⟨d0, d1, _⟩ := hp0.cells
  have ki1 : (k : Int) < (n : Int) := by omega
  have k1 : (k : Int) + 1 ≤ 100000000000001 := by omega
  have HP := hide hp0
  have HR : Hid (decide ((k : Int) + 1 < (n : Int)) = decide (k + 1 < n)) := hide (decide_eq_decide.2 (by omega))
  generalize decide (k + 1 < n) = R at HR ⊢
  rw [show ((k + 1 : Nat) : Int) = (k : Int) + 1 from by omega] at d1
  clear h hp0
  go_enter Try.func29, Try.ntmps29
  go_wp2
  go_region_held3 (fun w' => w'.cell? ⟨C, 0, none⟩ = some (.slice q n cap) ∧ w'.cell? ⟨C, 1, none⟩ = some (.int .i64 (k : Int))) (go_keep) (fail)
  all_goals
    go_wp2
    go_region_held3 (fun w' => w'.cell? ⟨C, 0, none⟩ = some (.slice q n cap) ∧ w'.cell? ⟨C, 1, none⟩ = some (.int .i64 ((k : Int) + 1))) (go_keep) (fail)
  all_goals
    go_wp2
    go_ret
    exact ⟨by rw [← unhide HR]; rfl, unhide HP, grown_trans (grown_set _ _ _ _) (grown_trans (grown_drew _ _) (grown_drew _ _))⟩
set_option maxHeartbeats 1000000 in
theorem nextR_end (C : Nat) (q : Option Addr) (n cap : Nat) (w : World) (h : RCur w C q n cap n) :
    Calls Try.prog 29 #[.pointer (some ⟨C, 0, none⟩)] w fun e w' => e = .returned (.bool false) ∧ RCur w' C q n cap n ∧ w.grownBy w' (some C) := by
  obtain ⟨c0, c1, f1⟩ := h.cells
  have ki1 : ¬ (n : Int) < (n : Int) := by omega
  have HP := hide h
  clear h
  go_enter Try.func29, Try.ntmps29
  go_wp2
  go_region_held3 (fun w' => w'.cell? ⟨C, 0, none⟩ = some (.slice q n cap) ∧ w'.cell? ⟨C, 1, none⟩ = some (.int .i64 (n : Int))) (go_keep) (fail)
  all_goals
    go_wp2
    go_region_held3 (fun w' => w'.cell? ⟨C, 0, none⟩ = some (.slice q n cap) ∧ w'.cell? ⟨C, 1, none⟩ = some (.int .i64 (n : Int))) (go_keep) (fail)
  all_goals
    go_wp2
    go_ret
    exact ⟨ret_bool (by simp), unhide HP, grown_trans (grown_drew _ _) (grown_drew _ _)⟩
end Go.Proofs.Ytelgpmjafaopmaa

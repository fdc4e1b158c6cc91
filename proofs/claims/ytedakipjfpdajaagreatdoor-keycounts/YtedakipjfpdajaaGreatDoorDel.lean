/- slices.IndexFunc and slices.DeleteFunc over keys, with the closure of key.Shared. -/
import Derived.Test.YtedakipjfpdajaaGreatDoorRising
import Derived.Test.YtedakipjfpdajaaGreatDoorSearchK
namespace Go.Proofs.YtedakipjfpdajaaGreatDoor
open Go.RowKit Go.Sort Go.Shelf

theorem box_nw (w : World) (o : Obj) : (w.alloc o).heap[w.heap.size]? = some o := World.alloc_heap_new w o
/-- The others of key.Shared: a box that holds a rising list. -/
def Oth (W : World) (Bo : Nat) (m : List Ky) : Prop := ∃ q c, W.cell? ⟨Bo, 0, none⟩ = some (.slice q m.length c) ∧ Bo < W.heap.size ∧ SlOf encK 5 W q c m
theorem Oth.below {W W' : World} {Bo : Nat} {m : List Ky} (h : Oth W Bo m) (hb : Below W.heap.size W W') : Oth W' Bo m := by
  obtain ⟨q, c, h1, h2, h3⟩ := h
  exact ⟨q, c, (hb.cell (p := ⟨Bo, 0, none⟩) h2).trans h1, Nat.lt_of_lt_of_le h2 hb.size, h3.below hb⟩
set_option maxHeartbeats 1000000 in
set_option maxRecDepth 100000 in
theorem delK (x : Ky) (Bo : Nat) (m : List Ky) (W : World) (ho : Oth W Bo m) (hs : Str m) (hl : m.length ≤ 100000000000000) :
    Calls Tryz.prog 46 #[.agg #[.string x.attr, .int .i64 x.kind, .int .i64 x.level, .int .i64 x.num, .string x.word], .pointer (some ⟨Bo, 0, none⟩)] W fun e w' => e = .returned (.bool (!decide (x ∈ m))) ∧ Below W.heap.size W w' := by
  obtain ⟨q, c, h1, h2, h3⟩ := ho
  obtain ⟨X, HX⟩ : ∃ X, W.alloc (.cells #[.string x.attr, .int .i64 x.kind, .int .i64 x.level, .int .i64 x.num, .string x.word] 46) = X := ⟨_, rfl⟩
  have bX : Below W.heap.size W X := by rw [← HX]; exact (Below.refl _ _).alloc (Nat.le_refl _) _
  obtain ⟨e0, e1, e2, e3, e4⟩ := cells_of_block (show X.heap[W.heap.size]? = some (.cells #[.string x.attr, .int .i64 x.kind, .int .i64 x.level, .int .i64 x.num, .string x.word] 46 (0, 0)) by rw [← HX]; exact box_nw _ _)
  have g0 := (bX.cell (p := ⟨Bo, 0, none⟩) h2).trans h1
  have hS := searchP q c m x X (h3.below bX) hl hs
  have BX := hide bX
  clear h1 h3 bX
  go_enter Tryz.func46, Tryz.ntmps46
  go_wp2_with (go_at_call 47; refine hS.mono ?_; rintro e w1 ⟨rfl, b1⟩; have B1 := hide b1; clear b1)
  go_ret
  exact ⟨ret_bool (by simp), below_sub (unhide BX) (unhide B1)⟩
def inK (m : List Ky) (x : Ky) : Bool := decide (x ∈ m)
/-- How many first ones are in. -/
def fstOut (m : List Ky) (l : List Ky) : Nat := cnt (inK m) l
def idxK (m l : List Ky) : Int := if fstOut m l < l.length then (fstOut m l : Int) else -1
set_option maxHeartbeats 1000000 in
set_option maxRecDepth 100000 in
theorem indexK (q : Option Addr) (c : Nat) (l : List Ky) (Bo : Nat) (m : List Ky) (w : World) (hs : SlOf encK 5 w q c l) (ho : Oth w Bo m) (hm : Str m) (hl : l.length ≤ 100000000000000) (hml : m.length ≤ 100000000000000) :
    Calls Tryz.prog 84 #[.slice q l.length c, .func (.func 46) #[] #[.pointer (some ⟨Bo, 0, none⟩)]] w fun e w' => e = .returned (.int .i64 (idxK m l)) ∧ Below w.heap.size w w' := by
  have l1 : (l.length : Int) ≤ 100000000000000 := by omega
  have HS := hide hs
  have HO := hide ho
  have HM := hide hm
  clear hs ho hm
  go_enter Tryz.func84, Tryz.ntmps84
  go_wp2
  go_loopw [8] (fun i wr => ∃ k : Nat, k ≤ l.length ∧ i = .int .i64 k ∧ (∀ (t : Nat) (x : Ky), t < k → l[t]? = some x → inK m x = true) ∧ Below w.heap.size w wr) (fun i _ => l.length - (intOf i).toNat)
  case atStart => exact ⟨0, by omega, rfl, fun t x h => absurd h (by omega), Below.refl _ _⟩
  case round =>
    obtain ⟨k, hk, rfl, hall, hbel⟩ := hrel
    have HB := hide hbel
    have HA := hide hall
    by_cases hlt : k < l.length
    · obtain ⟨x, hx, hxd⟩ := get_at hlt
      clear hxd
      obtain ⟨b, off, hq, hbs, c0, c1, c2, c3, c4⟩ := postAt ((unhide HS).below hbel) hx
      subst hq
      have ki0 : (0 : Int) ≤ (k : Int) := by omega
      have ki1 : (k : Int) < (l.length : Int) := by omega
      have hD := delK x Bo m wr ((unhide HO).below hbel) (unhide HM) hml
      have HX := hide hx
      cases hin : inK m x with
      | true =>
        rw [show decide (x ∈ m) = true from hin] at hD
        clear hx hbel hall
        go_wp2_with (go_at_call 46; refine hD.mono ?_; rintro e w1 ⟨rfl, b1⟩; have B1 := hide b1; clear b1)
        go_roundw
        case rel => exact ⟨k + 1, by omega, by go_num, fun t y ht hy => (by
            by_cases e : t = k
            · subst e; rw [unhide HX] at hy; cases hy; exact hin
            · exact unhide HA t y (by omega) hy), below_sub (unhide HB) (unhide B1)⟩
        case measure => simp [intOf]; omega
      | false =>
        rw [show decide (x ∈ m) = false from hin] at hD
        have HC := hide (show fstOut m l = k from cnt_is (by omega) hall (fun y hy => by rw [hx] at hy; cases hy; exact hin))
        clear hx hbel hall
        go_wp2_with (go_at_call 46; refine hD.mono ?_; rintro e w1 ⟨rfl, b1⟩; have B1 := hide b1; clear b1)
        go_ret
        exact ⟨ret_int (by unfold idxK; rw [unhide HC, if_pos hlt]), below_sub (unhide HB) (unhide B1)⟩
    · have ki1 : ¬ (k : Int) < (l.length : Int) := by omega
      have HC := hide (show fstOut m l = l.length from cnt_is (Nat.le_refl _) (fun t y ht hy => hall t y (by omega) hy) (fun y hy => by simp at hy))
      clear hbel hall
      go_wp2
      go_ret
      exact ⟨ret_int (by unfold idxK; rw [unhide HC, if_neg (by omega)]), unhide HB⟩
end Go.Proofs.YtedakipjfpdajaaGreatDoor

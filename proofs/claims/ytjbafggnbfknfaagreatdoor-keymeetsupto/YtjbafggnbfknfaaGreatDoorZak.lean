/- law12.fixed: key.firsts at one pair. -/
import Derived.Test.YtjbafggnbfknfaaGreatDoorZaj
import Derived.Test.YtjbafggnbfknfaaGreatDoorPair
namespace Go.Proofs.YtjbafggnbfknfaaGreatDoor
open Go.RowKit Go.Sort Go.Shelf

/-- Nothing is sorted where one stands alone. -/
theorem insR1 (q : Option Addr) (c : Nat) (f : Value) (w : World) : Calls Tryz.prog 152 #[.slice q 1 c, .int .i64 0, .int .i64 1, f] w fun e w' => e = .returned (.tuple #[]) ∧ w' = w := by
  go_enter Tryz.func152, Tryz.ntmps152
  go_wp2
  go_loopw [8] (fun i wr => i = .int .i64 1 ∧ wr = w) (fun _ _ => 0)
  case atStart => exact ⟨rfl, rfl⟩
  case round =>
    obtain ⟨rfl, hw⟩ := hrel
    obtain rfl := hw.symm
    go_wp2
    go_end0
    exact ⟨rfl, rfl⟩
theorem stabR1 (q : Option Addr) (c : Nat) (f : Value) (w : World) : Calls Tryz.prog 145 #[.slice q 1 c, .int .i64 1, f] w fun e w' => e = .returned (.tuple #[]) ∧ w' = w := by
  have hi := insR1 q c f w
  go_enter Tryz.func145, Tryz.ntmps145
  go_wp2
  go_loopw [7, 8] (fun a b wr => a = .int .i64 0 ∧ b = .int .i64 20 ∧ wr = w) (fun _ _ _ => 0)
  case atStart => exact ⟨rfl, rfl, rfl⟩
  case round =>
    obtain ⟨rfl, rfl, hw⟩ := hrel
    obtain rfl := hw.symm
    go_wp2_with (go_at_call 152; refine hi.mono ?_; rintro e w1 ⟨rfl, hw1⟩; obtain rfl := hw1.symm)
    go_loopw [6] (fun a wr => a = .int .i64 20 ∧ wr = w) (fun _ _ => 0)
    case atStart => exact ⟨rfl, rfl⟩
    case round =>
      obtain ⟨rfl, hw⟩ := hrel
      obtain rfl := hw.symm
      go_wp2
      go_end0
      exact ⟨rfl, rfl⟩
theorem sortR1 (q : Option Addr) (c : Nat) (f : Value) (w : World) : Calls Tryz.prog 115 #[.slice q 1 c, f] w fun e w' => e = .returned (.tuple #[]) ∧ w' = w := by
  have hi := stabR1 q c f w
  go_enter Tryz.func115, Tryz.ntmps115
  go_wp2_with (go_at_call 145; refine hi.mono ?_; rintro e w1 ⟨rfl, hw1⟩; obtain rfl := hw1.symm)
  go_end0
  exact ⟨rfl, rfl⟩
theorem compR1 (q : Option Addr) (c : Nat) (f : Value) (w : World) : Calls Tryz.prog 68 #[.slice q 1 c, f] w fun e w' => e = .returned (.slice q 1 c) ∧ w' = w := by
  go_enter Tryz.func68, Tryz.ntmps68
  go_wp2
  go_ret
  exact ⟨rfl, rfl⟩
theorem sortedR1 (Bs : Nat) (p : Option Addr) (c : Nat) (x : Pr) (f : Value) (w : World) (hBs : Bs < w.heap.size) (hcell : w.cell? ⟨Bs, 0, none⟩ = some (.slice p 1 c)) (hc : SlOf encR 4 w p c [x]) :
    Calls Tryz.prog 69 #[.func (.func 116) #[] #[.pointer (some ⟨Bs, 0, none⟩)], f] w fun e w' => (∃ q cap, e = .returned (.slice q 1 cap) ∧ OwnK encR 42 4 w.heap.size w' q cap [x]) ∧ Below w.heap.size w w' := by
  have h := collectR Bs p c [x] (by simp) w hBs hcell hc
  clear hcell hc
  go_enter Tryz.func69, Tryz.ntmps69
  go_wp2_with (first
    | (go_at_call 114; refine h.mono ?_; rintro e w1 ⟨⟨q, cap, rfl, ho⟩, hb⟩; have HO := hide ho; have HB := hide hb; clear ho hb)
    | (go_at_call 115; refine (sortR1 q cap f _).mono ?_; rintro e w2 ⟨rfl, hw⟩; obtain rfl := hw.symm))
  go_ret
  exact ⟨⟨q, cap, rfl, unhide HO⟩, unhide HB⟩
theorem firstsR1 (p : Option Addr) (c : Nat) (x : Pr) (w : World) (hc : SlOf encR 4 w p c [x]) :
    Calls Tryz.prog 30 #[.slice p 1 c] w fun e w' => (∃ q cap, e = .returned (.slice q 1 cap) ∧ OwnK encR 42 4 w.heap.size w' q cap [x]) ∧ Below w.heap.size w w' := by
  have hal : Below w.heap.size w (w.alloc (.cells #[.slice p 1 c] 26)) := (Below.refl _ _).alloc (Nat.le_refl _) _
  have hs := fun f => sortedR1 w.heap.size p c x f (w.alloc (.cells #[.slice p 1 c] 26)) (by simp) (Boxed.new w 26 _).cell (hc.below hal)
  have hv := valuesR p 1 c w
  have HAL := hide hal
  clear hc hal
  go_enter Tryz.func30, Tryz.ntmps30
  go_wp2_with (first
    | (go_at_call 70; refine hv.mono ?_; rintro e w1 ⟨rfl, rfl⟩)
    | (go_at_call 69; refine (hs _).mono ?_; rintro e w2 ⟨⟨q, cap, rfl, ho⟩, hb⟩; have HO := hide ho; have HB := hide hb; clear ho hb)
    | (go_at_call 68; refine (compR1 q cap _ _).mono ?_; rintro e w3 ⟨rfl, hw⟩; obtain rfl := hw.symm))
  go_ret
  exact ⟨⟨q, cap, rfl, (unhide HO).mono (by simp)⟩, below_sub (unhide HAL) (unhide HB)⟩
end Go.Proofs.YtjbafggnbfknfaaGreatDoor
namespace Go.Proofs.YtjbafggnbfknfaaGreatDoor
open Go.RowKit Go.Sort Go.Shelf

def kc0 : Ky := (⟨⟨#[99]⟩, 2, 0, 0, ⟨#[97, 98]⟩⟩ : Ky)
def kc1 : Ky := (⟨⟨#[99]⟩, 4, 0, 0, ⟨#[]⟩⟩ : Ky)
def kc2 : Ky := (⟨⟨#[99]⟩, 4, 0, 0, ⟨#[97]⟩⟩ : Ky)
def kc3 : Ky := (⟨⟨#[99]⟩, 4, 0, 0, ⟨#[97, 98]⟩⟩ : Ky)
set_option maxRecDepth 100000 in
set_option maxHeartbeats 2000000 in
theorem wordC (w : World) : Calls Tryz.prog 33 #[.slice none 0 0, .string ⟨#[99]⟩, .string ⟨#[97, 98]⟩] w fun e w' => (∃ q c, e = .returned (.slice q 4 c) ∧ OwnK encK 46 5 w.heap.size w' q c [kc0, kc1, kc2, kc3]) ∧ Below w.heap.size w w' := by
  go_enter Tryz.func33, Tryz.ntmps33
  go_wp2_with (first
    | (go_at_call 25; refine (ofWord ⟨#[99]⟩ ⟨#[97, 98]⟩ _).mono ?_; rintro e w2 ⟨rfl, b2⟩; have B2 := hide b2; have s2 := b2.size; clear b2)
    | (at_builtin; refine wpList_app rowP rfl _ _ rfl w.heap.size none 0 [] (some ⟨w2.heap.size, 0, none⟩) 1 [kc0] 0 1 1 rfl rfl rfl rfl rfl (OwnK.nil _ _) (srcKy (x := kc0) (box_nw _ _)) (by decide) (by decide) (by simp; omega) ?_; intro q1 c1 w1 ho1 hb1 _ _; have HO1 := hide ho1; have HB1 := hide ((below_sub (unhide B2) ((Below.refl _ _).alloc (Nat.le_refl _) _)).trans hb1); clear ho1 hb1))
  go_loopw [0, 17] (fun s i wr => (∃ q c, s = .slice q 1 c ∧ i = .int .i64 0 ∧ Hid (OwnK encK 46 5 w.heap.size wr q c [kc0]) ∧ Hid (Below w.heap.size w wr)) ∨ (∃ q c, s = .slice q 2 c ∧ i = .int .i64 1 ∧ Hid (OwnK encK 46 5 w.heap.size wr q c [kc0, kc1]) ∧ Hid (Below w.heap.size w wr)) ∨ (∃ q c, s = .slice q 3 c ∧ i = .int .i64 2 ∧ Hid (OwnK encK 46 5 w.heap.size wr q c [kc0, kc1, kc2]) ∧ Hid (Below w.heap.size w wr)) ∨ (∃ q c, s = .slice q 4 c ∧ i = .int .i64 3 ∧ Hid (OwnK encK 46 5 w.heap.size wr q c [kc0, kc1, kc2, kc3]) ∧ Hid (Below w.heap.size w wr))) (fun _ i _ => (3 - intOf i).toNat)
  case atStart => exact Or.inl ⟨q1, c1, rfl, rfl, HO1, HB1⟩
  case round =>
    rcases hrel with ⟨q, c, rfl, rfl, HO, HB⟩ | ⟨q, c, rfl, rfl, HO, HB⟩ | ⟨q, c, rfl, rfl, HO, HB⟩ | ⟨q, c, rfl, rfl, HO, HB⟩
    · go_wp2_with (first
        | (go_at_call 29; refine (ofPre ⟨#[99]⟩ ⟨#[]⟩ _).mono ?_; rintro e w2 ⟨rfl, b2⟩; have B2 := hide b2; have s2 := b2.size; have s0 := (unhide HB).size; clear b2)
        | (at_builtin; refine wpList_app rowP rfl _ _ rfl w.heap.size q c [kc0] (some ⟨w2.heap.size, 0, none⟩) 1 [kc1] 1 1 2 rfl rfl rfl rfl rfl (((unhide HO).below (unhide B2)).below ((Below.refl _ _).alloc (Nat.le_refl _) _)) (srcKy (x := kc1) (box_nw _ _)) (by decide) (by decide) (by simp; omega) ?_; intro q3 c3 w3 ho3 hb3 _ _; have HO3 := hide ho3; have HB3 := hide ((below_sub (unhide HB) (below_sub (unhide B2) ((Below.refl _ _).alloc (Nat.le_refl _) _))).trans hb3); clear ho3 hb3))
      go_roundw
      case rel => exact Or.inr (Or.inl (⟨q3, c3, rfl, by go_num, HO3, HB3⟩))
      case measure => simp [intOf]
    · go_wp2_with (first
        | (go_at_call 29; refine (ofPre ⟨#[99]⟩ ⟨#[97]⟩ _).mono ?_; rintro e w2 ⟨rfl, b2⟩; have B2 := hide b2; have s2 := b2.size; have s0 := (unhide HB).size; clear b2)
        | (at_builtin; refine wpList_app rowP rfl _ _ rfl w.heap.size q c [kc0, kc1] (some ⟨w2.heap.size, 0, none⟩) 1 [kc2] 2 1 3 rfl rfl rfl rfl rfl (((unhide HO).below (unhide B2)).below ((Below.refl _ _).alloc (Nat.le_refl _) _)) (srcKy (x := kc2) (box_nw _ _)) (by decide) (by decide) (by simp; omega) ?_; intro q3 c3 w3 ho3 hb3 _ _; have HO3 := hide ho3; have HB3 := hide ((below_sub (unhide HB) (below_sub (unhide B2) ((Below.refl _ _).alloc (Nat.le_refl _) _))).trans hb3); clear ho3 hb3))
      go_roundw
      case rel => exact Or.inr (Or.inr (Or.inl (⟨q3, c3, rfl, by go_num, HO3, HB3⟩)))
      case measure => simp [intOf]
    · go_wp2_with (first
        | (go_at_call 29; refine (ofPre ⟨#[99]⟩ ⟨#[97, 98]⟩ _).mono ?_; rintro e w2 ⟨rfl, b2⟩; have B2 := hide b2; have s2 := b2.size; have s0 := (unhide HB).size; clear b2)
        | (at_builtin; refine wpList_app rowP rfl _ _ rfl w.heap.size q c [kc0, kc1, kc2] (some ⟨w2.heap.size, 0, none⟩) 1 [kc3] 3 1 4 rfl rfl rfl rfl rfl (((unhide HO).below (unhide B2)).below ((Below.refl _ _).alloc (Nat.le_refl _) _)) (srcKy (x := kc3) (box_nw _ _)) (by decide) (by decide) (by simp; omega) ?_; intro q3 c3 w3 ho3 hb3 _ _; have HO3 := hide ho3; have HB3 := hide ((below_sub (unhide HB) (below_sub (unhide B2) ((Below.refl _ _).alloc (Nat.le_refl _) _))).trans hb3); clear ho3 hb3))
      go_roundw
      case rel => exact Or.inr (Or.inr (Or.inr ((⟨q3, c3, rfl, by go_num, HO3, HB3⟩))))
      case measure => simp [intOf]
    · go_wp2
      go_ret
      exact ⟨⟨q, c, rfl, unhide HO⟩, unhide HB⟩
def pairC : Pr := ⟨⟨#[99]⟩, 2, 0, ⟨#[97, 98]⟩⟩
set_option maxRecDepth 100000 in
set_option maxHeartbeats 2000000 in
theorem eventC (p : Option Addr) (cp : Nat) (w : World) (hc : SlOf encR 4 w p cp [pairC]) : Calls Tryz.prog 10 #[.slice p 1 cp] w fun e w' => (∃ q c, e = .returned (.slice q 4 c) ∧ OwnK encK 46 5 w.heap.size w' q c [kc0, kc1, kc2, kc3]) ∧ Below w.heap.size w w' := by
  have hf := firstsR1 p cp pairC w hc
  clear hc
  go_enter Tryz.func10, Tryz.ntmps10
  go_wp2_with (go_at_call 30; refine hf.mono ?_; rintro e w1 ⟨⟨q1, c1, rfl, o1⟩, b1⟩; have O1 := hide o1; have B1 := hide b1; have s1 := b1.size; clear o1 b1)
  obtain ⟨bs, os, hqs, hbs, p0, p1, p2, p3⟩ := pairAt (unhide O1).ls (j := 0) (x := pairC) rfl
  subst hqs
  simp only [Nat.zero_mul, Nat.add_zero] at p0 p1 p2 p3
  have P0 : w1.cell? ⟨bs, os, none⟩ = some (.string ⟨#[99]⟩) := p0
  have P1 : w1.cell? ⟨bs, os + 1, none⟩ = some (.int .i64 2) := p1
  have P2 : w1.cell? ⟨bs, os + 2, none⟩ = some (.int .i64 0) := p2
  have P3 : w1.cell? ⟨bs, os + 3, none⟩ = some (.string ⟨#[97, 98]⟩) := p3
  clear p0 p1 p2 p3 hf
  go_loopw [3, 9] (fun s i wr => (s = .slice none 0 0 ∧ i = .int .i64 0 ∧ wr = w1) ∨ ∃ q c, s = .slice q 4 c ∧ i = .int .i64 1 ∧ Hid (OwnK encK 46 5 w.heap.size wr q c [kc0, kc1, kc2, kc3]) ∧ Hid (Below w.heap.size w wr)) (fun _ i _ => (1 - intOf i).toNat)
  case atStart => exact Or.inl ⟨rfl, rfl, rfl⟩
  case round =>
    rcases hrel with ⟨rfl, rfl, hw⟩ | ⟨q, c, rfl, rfl, HO, HB⟩
    · obtain rfl := hw.symm
      obtain ⟨y0, y1, y2, y3⟩ := cells_of_pair (x := pairC) (box_nw w1 (.cells #[.string ⟨#[99]⟩, .int .i64 2, .int .i64 0, .string ⟨#[97, 98]⟩] 42))
      have Y8 := hide (box_nw w1 (.cells #[.string ⟨#[99]⟩, .int .i64 2, .int .i64 0, .string ⟨#[97, 98]⟩] 42))
      have aY := hide ((Below.refl w1.heap.size w1).alloc (Nat.le_refl _) (.cells #[.string ⟨#[99]⟩, .int .i64 2, .int .i64 0, .string ⟨#[97, 98]⟩] 42))
      go_wp2_with (first
        | (go_at_call 31; refine (checkW _).mono ?_; rintro e w2 ⟨rfl, b2⟩; have B2 := hide b2; have s2 := b2.size; (obtain ⟨z0, z1, z2, z3⟩ := cells_of_pair (x := pairC) ((b2.block w1.heap.size (by simp)).trans (unhide Y8))); clear b2)
        | (go_at_call 33; refine (wordC _).mono ?_; rintro e w3 ⟨⟨q3, c3, rfl, o3⟩, b3⟩; have O3 := hide (o3.mono (B' := w.heap.size) (by have := s2; simp at this; omega)); have B3 := hide (below_sub (unhide B1) (below_sub (unhide aY) (below_sub (unhide B2) b3))); clear o3 b3))
      go_roundw
      case rel => exact Or.inr ⟨q3, c3, rfl, by go_num, O3, B3⟩
      case measure => simp [intOf]
    · go_wp2
      go_ret
      exact ⟨⟨q, c, rfl, unhide HO⟩, unhide HB⟩
end Go.Proofs.YtjbafggnbfknfaaGreatDoor

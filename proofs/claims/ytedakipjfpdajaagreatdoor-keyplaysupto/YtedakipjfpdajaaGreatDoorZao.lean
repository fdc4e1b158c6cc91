/- law12.fixed's predicate: tree.Pred and conj.Normal at the literal. -/
import Derived.Test.YtedakipjfpdajaaGreatDoorZag
import Derived.Test.YtedakipjfpdajaaGreatDoorZac
import Derived.Test.YtedakipjfpdajaaGreatDoorZaf
namespace Go.Proofs.YtedakipjfpdajaaGreatDoor
open Go.RowKit Go.Sort Go.Shelf

theorem of6' {w : World} {M : Nat} {a0 a1 a2 a3 a4 a5 : Value} {T : TypeId} (h : w.heap[M]? = some (.cells #[a0, a1, a2, a3, a4, a5] T (0, 0))) : w.cell? ⟨M, 0, none⟩ = some a0 ∧ w.cell? ⟨M, 1, none⟩ = some a1 ∧ w.cell? ⟨M, 2, none⟩ = some a2 ∧ w.cell? ⟨M, 3, none⟩ = some a3 ∧ w.cell? ⟨M, 4, none⟩ = some a4 ∧ w.cell? ⟨M, 5, none⟩ = some a5 := by
  refine ⟨?_, ?_, ?_, ?_, ?_, ?_⟩ <;> (unfold World.cell?; simp [h])
theorem emptyA (w : World) : Calls Tryz.prog 90 #[.agg #[.int .i64 3, .string ⟨#[97]⟩, .slice none 0 0, .slice none 0 0, .int .i64 0, .int .i64 0]] w fun e w' => e = .returned (.bool true) ∧ Below w.heap.size w w' := by
  go_enter Tryz.func90, Tryz.ntmps90
  go_wp2
  go_ret
  exact ⟨rfl, (Below.refl _ _).alloc (Nat.le_refl _) _⟩
set_option maxRecDepth 100000 in
theorem predA (w : World) : Calls Tryz.prog 48 #[.agg #[.int .i64 3, .string ⟨#[97]⟩, .slice none 0 0, .slice none 0 0, .int .i64 0, .int .i64 7]] w fun e w' => e = .returned (.int .i64 0) ∧ Below w.heap.size w w' := by
  obtain ⟨X, HX⟩ : ∃ X, w.alloc (.cells #[.int .i64 3, .string ⟨#[97]⟩, .slice none 0 0, .slice none 0 0, .int .i64 0, .int .i64 7] 25) = X := ⟨_, rfl⟩
  have bX : Below w.heap.size w X := by rw [← HX]; exact (Below.refl _ _).alloc (Nat.le_refl _) _
  have x8 : X.heap[w.heap.size]? = some (.cells #[.int .i64 3, .string ⟨#[97]⟩, .slice none 0 0, .slice none 0 0, .int .i64 0, .int .i64 7] 25 (0, 0)) := by rw [← HX]; exact box_nw _ _
  have hlt : w.heap.size < X.heap.size := by rw [← HX]; simp
  obtain ⟨x0, x1, x2, x3, x4, x5⟩ := of6' x8
  have X8 := hide x8
  have BX := hide bX
  clear x8 bX
  go_enter Tryz.func48, Tryz.ntmps48
  go_wp2_with (first
    | (go_at_call 85; refine (nameA _).mono ?_; rintro e w1 ⟨rfl, hw⟩; obtain rfl := hw.symm)
    | (go_at_call 87; have mk := B2; refine (isNumN 7 (by decide) (by decide) _).mono ?_; rintro e w3 ⟨rfl, b3⟩; have B3 := hide (below_sub (unhide B2) b3); have q8 := ((unhide B3).block _ hlt).trans (unhide X8); (obtain ⟨z0, z1, z2, z3, z4, z5⟩ := of6' q8); have zf := fun o => frozen_free (o := o) q8; clear b3 mk q8)
    | (go_at_call 87; refine (isNumN 0 (by decide) (by decide) _).mono ?_; rintro e w2 ⟨rfl, b2⟩; have B2 := hide b2; (obtain ⟨y0, y1, y2, y3, y4, y5⟩ := of6' ((b2.block _ hlt).trans (unhide X8))); clear b2)
    | (go_at_call 90; refine (emptyA _).mono ?_; rintro e w4 ⟨rfl, b4⟩; have B4 := hide b4; clear b4))
  go_ret
  exact ⟨rfl, below_sub (((below_sub (unhide BX) (unhide B3)).setCell (p := ⟨w.heap.size, 4, none⟩) (Nat.le_refl _) _).setCell (p := ⟨w.heap.size, 5, none⟩) (Nat.le_refl _) _) (unhide B4)⟩
set_option maxRecDepth 100000 in
theorem normalA (w : World) : Calls Tryz.prog 23 #[.agg #[.int .i64 3, .string ⟨#[97]⟩, .slice none 0 0, .slice none 0 0, .int .i64 0, .int .i64 7]] w fun e w' => e = .returned (.tuple #[.agg #[.int .i64 3, .string ⟨#[97]⟩, .slice none 0 0, .slice none 0 0, .int .i64 0, .int .i64 7], .bool true]) ∧ Below w.heap.size w w' := by
  obtain ⟨X, HX⟩ : ∃ X, (w.alloc (.cells #[.int .i64 3, .string ⟨#[97]⟩, .slice none 0 0, .slice none 0 0, .int .i64 0, .int .i64 7] 25)).alloc (.cells #[.int .i64 0, .string ⟨#[]⟩, .slice none 0 0, .slice none 0 0, .int .i64 0, .int .i64 0] 25) = X := ⟨_, rfl⟩
  have bX : Below w.heap.size w X := by rw [← HX]; exact ((Below.refl _ _).alloc (Nat.le_refl _) _).alloc (by simp) _
  have x9 : X.heap[w.heap.size + 1]? = some (.cells #[.int .i64 0, .string ⟨#[]⟩, .slice none 0 0, .slice none 0 0, .int .i64 0, .int .i64 0] 25 (0, 0)) := by
    have := box_nw (w.alloc (.cells #[.int .i64 3, .string ⟨#[97]⟩, .slice none 0 0, .slice none 0 0, .int .i64 0, .int .i64 7] 25)) (.cells #[.int .i64 0, .string ⟨#[]⟩, .slice none 0 0, .slice none 0 0, .int .i64 0, .int .i64 0] 25)
    rw [World.size_alloc] at this
    rw [← HX]; exact this
  have x8 : X.heap[w.heap.size]? = some (.cells #[.int .i64 3, .string ⟨#[97]⟩, .slice none 0 0, .slice none 0 0, .int .i64 0, .int .i64 7] 25 (0, 0)) := by
    rw [← HX]
    exact (((Below.refl _ _).alloc (Nat.le_refl _) _).block w.heap.size (by simp)).trans (box_nw _ _)
  have hlt : w.heap.size + 1 < X.heap.size := by rw [← HX]; simp
  have hlt0 : w.heap.size < X.heap.size := by omega
  obtain ⟨x0, x1, x2, x3, x4, x5⟩ := of6' x8
  obtain ⟨v0, v1, v2, v3, v4, v5⟩ := of6' x9
  have X8 := hide x8
  have X9 := hide x9
  have BX := hide bX
  clear x8 x9 bX
  go_enter Tryz.func23, Tryz.ntmps23
  go_wp2_with (first
    | (go_at_call 48; refine (predA _).mono ?_; rintro e w1 ⟨rfl, b1⟩; have B1 := hide b1; (obtain ⟨y0, y1, y2, y3, y4, y5⟩ := of6' ((b1.block _ hlt0).trans (unhide X8))); clear b1)
    | (go_at_call 60; refine (betweenA _).mono ?_; rintro e w2 ⟨rfl, b2⟩; have BY := hide (below_sub (unhide BX) (below_sub (unhide B1) b2)); have q9 := ((below_sub (unhide B1) b2).block _ hlt).trans (unhide X9); (obtain ⟨z0, z1, z2, z3, z4, z5⟩ := of6' q9); have zf := fun o => frozen_free (o := o) q9; clear b2 q9))
  refine bodyPost_ret (v := .tuple #[.agg #[.int .i64 3, .string ⟨#[97]⟩, .slice none 0 0, .slice none 0 0, .int .i64 0, .int .i64 7], .bool true]) (by simp [results, Tryz.results23, go_sem, *]) rfl ⟨rfl, (((((((unhide BY).setCell (p := ⟨w.heap.size + 1, 0, none⟩) (Nat.le_succ _) _).setCell (p := ⟨w.heap.size + 1, 1, none⟩) (Nat.le_succ _) _).setCell (p := ⟨w.heap.size + 1, 2, none⟩) (Nat.le_succ _) _).setCell (p := ⟨w.heap.size + 1, 3, none⟩) (Nat.le_succ _) _).setCell (p := ⟨w.heap.size + 1, 4, none⟩) (Nat.le_succ _) _).setCell (p := ⟨w.heap.size + 1, 5, none⟩) (Nat.le_succ _) _)⟩
end Go.Proofs.YtedakipjfpdajaaGreatDoor
namespace Go.Proofs.YtedakipjfpdajaaGreatDoor
open Go.RowKit Go.Sort Go.Shelf

def encSp (x : Int × Int) : List Value := [.int .i64 x.1, .int .i64 x.2]
theorem Tryz.info58 : (Tryz.prog.info? 58).map (fun i => (i.zero, i.size, i.bytes)) = some (some (.agg #[.int .i64 0, .int .i64 0]), 2, 16) := by kernel_rfl
theorem rowSp : RowOf encSp 55 58 2 16 where
  und := Tryz.underlying55
  info := by
    obtain ⟨i0, hi, hz0, hz1, hz2⟩ := info_parts Tryz.info58
    exact ⟨i0, _, hi, hz0, hz1, hz2, rfl⟩
  pos := by decide
  one := one_flat (fun x c hc => by
    have hm : c = 0 ∨ c = 1 := by omega
    rcases hm with e | e <;> rw [e] <;> rfl) (by decide)
theorem srcSp {W : World} {M : Nat} {x : Int × Int} (h : W.heap[M]? = some (.cells #[.int .i64 x.1, .int .i64 x.2] 58 (0, 0))) : SrcK encSp 2 W (some ⟨M, 0, none⟩) 1 [x] := by
  refine LsOf.src (fun h => by cases h) (LsOf.one (Array.getElem?_eq_some_iff.1 h).1 fun c hc => ?_)
  have hm : c = 0 ∨ c = 1 := by omega
  rcases hm with rfl | rfl <;> (unfold World.cell?; simp [h, encSp])
theorem srcKy {W : World} {M : Nat} {x : Ky} (h : W.heap[M]? = some (.cells #[.string x.attr, .int .i64 x.kind, .int .i64 x.level, .int .i64 x.num, .string x.word] 46 (0, 0))) : SrcK encK 5 W (some ⟨M, 0, none⟩) 1 [x] := by
  obtain ⟨e0, e1, e2, e3, e4⟩ := cells_of_block h
  refine LsOf.src (fun h => by cases h) (LsOf.one (Array.getElem?_eq_some_iff.1 h).1 fun c hc => ?_)
  have hm : c = 0 ∨ c = 1 ∨ c = 2 ∨ c = 3 ∨ c = 4 := by omega
  rcases hm with rfl | rfl | rfl | rfl | rfl
  · exact e0
  · exact e1
  · exact e2
  · exact e3
  · exact e4
theorem atA (w : World) : Calls Tryz.prog 63 #[.int .i64 3, .int .i64 0] w fun e w' => e = .returned (.agg #[.int .i64 3, .int .i64 268435456]) ∧ Below w.heap.size w w' := by
  have hpl := placeN 0 2147483648 (by decide) (by decide)
  go_enter Tryz.func63, Tryz.ntmps63
  go_wp2_with (go_at_call 103; refine (hpl _).mono ?_; rintro e w1 ⟨rfl, rfl⟩)
  refine bodyPost_ret (v := .agg #[.int .i64 3, .int .i64 268435456]) (by simp [results, Tryz.results63, go_sem]) rfl ⟨rfl, (Below.refl _ _).alloc (Nat.le_refl _) _⟩
set_option maxRecDepth 100000 in
set_option maxHeartbeats 1000000 in
theorem coverA (w : World) (hG : G w) : Calls Tryz.prog 26 #[.int .i64 0, .int .i64 7] w fun e w' => (∃ q c, e = .returned (.slice q 1 c) ∧ OwnK encSp 58 2 w.heap.size w' q c [(3, 268435456)]) ∧ Below w.heap.size w w' := by
  have hh := highestA w hG
  clear hG
  go_enter Tryz.func26, Tryz.ntmps26
  go_wp2
  go_loopw [0, 5] (fun lo s wr => (lo = .int .i64 0 ∧ s = .slice none 0 0 ∧ wr = w) ∨ ∃ q c, lo = .int .i64 8 ∧ s = .slice q 1 c ∧ Hid (OwnK encSp 58 2 w.heap.size wr q c [(3, 268435456)]) ∧ Hid (Below w.heap.size w wr)) (fun lo _ _ => (8 - intOf lo).toNat)
  case atStart => exact Or.inl ⟨rfl, rfl, rfl⟩
  case round =>
    rcases hrel with ⟨rfl, rfl, hw⟩ | ⟨q, c, rfl, rfl, HO, HB⟩
    · obtain rfl := hw.symm
      go_wp2_with (first
        | (go_at_call 62; refine hh.mono ?_; rintro e w1 ⟨rfl, hw1⟩; obtain rfl := hw1.symm)
        | (go_at_call 63; refine (atA _).mono ?_; rintro e w2 ⟨rfl, b2⟩; have B2 := hide b2; have s2 := b2.size; clear b2)
        | (at_builtin; refine wpList_app rowSp rfl _ _ rfl w.heap.size none 0 [] (some ⟨w2.heap.size, 0, none⟩) 1 [(3, 268435456)] 0 1 1 rfl rfl rfl rfl rfl (OwnK.nil _ _) (srcSp (box_nw _ _)) (by decide) (by decide) (by simp; omega) ?_; intro q3 c3 w3 ho3 hb3 _ _; have HO3 := hide ho3; have HB3 := hide ((below_sub (unhide B2) ((Below.refl _ _).alloc (Nat.le_refl _) _)).trans hb3); clear ho3 hb3))
      go_roundw
      case rel => exact Or.inr ⟨q3, c3, by go_num, rfl, HO3, HB3⟩
      case measure => simp [intOf]
    · go_wp2
      go_ret
      exact ⟨⟨q, c, rfl, unhide HO⟩, unhide HB⟩
theorem ofSpanA (w : World) : Calls Tryz.prog 27 #[.string ⟨#[97]⟩, .agg #[.int .i64 3, .int .i64 268435456]] w fun e w' => e = .returned (.agg #[.string ⟨#[97]⟩, .int .i64 3, .int .i64 3, .int .i64 268435456, .string ⟨#[]⟩]) ∧ Below w.heap.size w w' := by
  go_enter Tryz.func27, Tryz.ntmps27
  go_wp2
  refine bodyPost_ret (v := .agg #[.string ⟨#[97]⟩, .int .i64 3, .int .i64 3, .int .i64 268435456, .string ⟨#[]⟩]) (by simp [results, Tryz.results27, go_sem]) rfl ⟨rfl, ((Below.refl _ _).alloc (Nat.le_refl _) _).alloc (by simp) _⟩
theorem ofWord (a s : ByteArray) (w : World) : Calls Tryz.prog 25 #[.string a, .string s] w fun e w' => e = .returned (.agg #[.string a, .int .i64 2, .int .i64 0, .int .i64 0, .string s]) ∧ Below w.heap.size w w' := by
  go_enter Tryz.func25, Tryz.ntmps25
  go_wp2
  refine bodyPost_ret (v := .agg #[.string a, .int .i64 2, .int .i64 0, .int .i64 0, .string s]) (by simp [results, Tryz.results25, go_sem]) rfl ⟨rfl, (Below.refl _ _).alloc (Nat.le_refl _) _⟩
theorem ofPre (a s : ByteArray) (w : World) : Calls Tryz.prog 29 #[.string a, .string s] w fun e w' => e = .returned (.agg #[.string a, .int .i64 4, .int .i64 0, .int .i64 0, .string s]) ∧ Below w.heap.size w w' := by
  go_enter Tryz.func29, Tryz.ntmps29
  go_wp2
  refine bodyPost_ret (v := .agg #[.string a, .int .i64 4, .int .i64 0, .int .i64 0, .string s]) (by simp [results, Tryz.results29, go_sem]) rfl ⟨rfl, (Below.refl _ _).alloc (Nat.le_refl _) _⟩
def keyA : Ky := ⟨⟨#[97]⟩, 3, 3, 268435456, ⟨#[]⟩⟩
set_option maxRecDepth 100000 in
set_option maxHeartbeats 2000000 in
theorem ofA (w : World) (hG : G w) : Calls Tryz.prog 9 #[.agg #[.int .i64 3, .string ⟨#[97]⟩, .slice none 0 0, .slice none 0 0, .int .i64 0, .int .i64 7]] w fun e w' => (∃ q c, e = .returned (.slice q 1 c) ∧ OwnK encK 46 5 w.heap.size w' q c [keyA]) ∧ Below w.heap.size w w' := by
  have HG := hide hG
  clear hG
  go_enter Tryz.func9, Tryz.ntmps9
  go_wp2_with (first
    | (go_at_call 23; refine (normalA _).mono ?_; rintro e w1 ⟨rfl, b1⟩; have B1 := hide (below_sub ((Below.refl w.heap.size w).alloc (Nat.le_refl _) (.cells #[.int .i64 3, .string ⟨#[97]⟩, .slice none 0 0, .slice none 0 0, .int .i64 0, .int .i64 7] 25)) b1); have s1 := (unhide B1).size; (obtain ⟨y0, y1, y2, y3, y4, y5⟩ := of6' (box_nw w1 (.cells #[.int .i64 3, .string ⟨#[97]⟩, .slice none 0 0, .slice none 0 0, .int .i64 0, .int .i64 7] 25))); clear b1)
    | (go_at_call 26; refine (coverA _ ((unhide HG).below' (below_sub (unhide B1) ((Below.refl _ _).alloc (Nat.le_refl _) _)))).mono ?_; rintro e w2 ⟨⟨q2, c2, rfl, o2⟩, b2⟩; have O2 := hide o2; have B2 := hide b2; have s2 := b2.size; have Y8 := hide ((b2.block w1.heap.size (by simp)).trans (box_nw w1 (.cells #[.int .i64 3, .string ⟨#[97]⟩, .slice none 0 0, .slice none 0 0, .int .i64 0, .int .i64 7] 25))); clear o2 b2))
  obtain ⟨z, hz, _⟩ := get_at (l := [((3, 268435456) : Int × Int)]) (k := 0) (by decide)
  obtain ⟨bs, os, hqs, hbs, hcs⟩ := (unhide O2).ls.2.2.2.at (j := 0) (x := (3, 268435456)) rfl
  have p0 := hcs 0 (by omega)
  have p1 := hcs 1 (by omega)
  subst hqs
  clear hz hcs
  simp only [Nat.zero_mul, Nat.add_zero] at p0 p1
  have P0 : w2.cell? ⟨bs, os, none⟩ = some (.int .i64 3) := p0
  have P1 : w2.cell? ⟨bs, os + 1, none⟩ = some (.int .i64 268435456) := p1
  clear p0 p1
  obtain ⟨t0, t1, t2, t3, t4, t5⟩ := of6' (unhide Y8)
  have hy : w1.heap.size < w2.heap.size := Nat.lt_of_lt_of_le (by simp) s2
  have B02 := hide (below_sub (unhide B1) (below_sub ((Below.refl w1.heap.size w1).alloc (Nat.le_refl _) (.cells #[.int .i64 3, .string ⟨#[97]⟩, .slice none 0 0, .slice none 0 0, .int .i64 0, .int .i64 7] 25)) (unhide B2)))
  have s02 := (unhide B02).size
  clear y0 y1 y2 y3 y4 y5
  go_loopw [5, 63] (fun s i wr => (i = .int .i64 0 ∧ s = .slice none 0 0 ∧ wr = w2) ∨ ∃ q c, i = .int .i64 1 ∧ s = .slice q 1 c ∧ Hid (OwnK encK 46 5 w.heap.size wr q c [keyA]) ∧ Hid (Below w.heap.size w wr)) (fun _ i _ => (1 - intOf i).toNat)
  case atStart => exact Or.inl ⟨rfl, rfl, rfl⟩
  case round =>
    rcases hrel with ⟨rfl, rfl, hw⟩ | ⟨q, c, rfl, rfl, HO, HB⟩
    · obtain rfl := hw.symm
      go_wp2_with (first
        | (go_at_call 27; refine (ofSpanA _).mono ?_; rintro e w3 ⟨rfl, b3⟩; have B3 := hide (below_sub (unhide B02) (below_sub ((Below.refl w2.heap.size w2).alloc (Nat.le_refl _) _) b3)); have s3 := (unhide B3).size; clear b3)
        | (at_builtin; refine wpList_app rowP rfl _ _ rfl w.heap.size none 0 [] (some ⟨w3.heap.size, 0, none⟩) 1 [keyA] 0 1 1 rfl rfl rfl rfl rfl (OwnK.nil _ _) (srcKy (x := keyA) (box_nw _ _)) (by decide) (by decide) (by simp; omega) ?_; intro q4 c4 w4 ho4 hb4 _ _; have HO4 := hide ho4; have HB4 := hide ((below_sub (unhide B3) ((Below.refl _ _).alloc (Nat.le_refl _) _)).trans hb4); clear ho4 hb4))
      go_roundw
      case rel => exact Or.inr ⟨q4, c4, by go_num, rfl, HO4, HB4⟩
      case measure => simp [intOf]
    · have hso := sortP_any w.heap.size q c [keyA] wr (by decide) (unhide HO)
      go_wp2_with (go_at_call 28; refine hso.mono ?_; rintro e w5 ⟨rfl, l', hp, _, ho5, hb5⟩; have hl5 : l' = [keyA] := List.perm_singleton.1 hp; have HO5 := hide (hl5 ▸ ho5); have HB5 := hide ((unhide HB).trans hb5); clear hp ho5 hb5 hl5)
      go_ret
      exact ⟨⟨q, c, rfl, unhide HO5⟩, unhide HB5⟩
end Go.Proofs.YtedakipjfpdajaaGreatDoor
namespace Go.Proofs.YtedakipjfpdajaaGreatDoor
open Go.RowKit Go.Sort Go.Shelf

/-- Nothing is sorted where one stands alone. -/
theorem insR1 (q : Option Addr) (c : Nat) (f : Value) (w : World) : Calls Tryz.prog 152 #[.slice q 1 c, .int .i64 0, .int .i64 1, f] w fun e w' => e = .returned (.tuple #[]) ∧ w' = w := by
  go_enter Tryz.func152, Tryz.ntmps152
  go_wp2
  go_loopw [8] (fun i wr => i = .int .i64 1 ∧ wr = w) (fun _ _ => 0)
  case atStart => exact ⟨rfl, rfl⟩
  case round =>
    obtain ⟨rfl, hw⟩ := hrel
    obtain rfl := hw.symm
    go_wp2
    go_end0
    exact ⟨rfl, rfl⟩
theorem stabR1 (q : Option Addr) (c : Nat) (f : Value) (w : World) : Calls Tryz.prog 145 #[.slice q 1 c, .int .i64 1, f] w fun e w' => e = .returned (.tuple #[]) ∧ w' = w := by
  have hi := insR1 q c f w
  go_enter Tryz.func145, Tryz.ntmps145
  go_wp2
  go_loopw [7, 8] (fun a b wr => a = .int .i64 0 ∧ b = .int .i64 20 ∧ wr = w) (fun _ _ _ => 0)
  case atStart => exact ⟨rfl, rfl, rfl⟩
  case round =>
    obtain ⟨rfl, rfl, hw⟩ := hrel
    obtain rfl := hw.symm
    go_wp2_with (go_at_call 152; refine hi.mono ?_; rintro e w1 ⟨rfl, hw1⟩; obtain rfl := hw1.symm)
    go_loopw [6] (fun a wr => a = .int .i64 20 ∧ wr = w) (fun _ _ => 0)
    case atStart => exact ⟨rfl, rfl⟩
    case round =>
      obtain ⟨rfl, hw⟩ := hrel
      obtain rfl := hw.symm
      go_wp2
      go_end0
      exact ⟨rfl, rfl⟩
theorem sortR1 (q : Option Addr) (c : Nat) (f : Value) (w : World) : Calls Tryz.prog 115 #[.slice q 1 c, f] w fun e w' => e = .returned (.tuple #[]) ∧ w' = w := by
  have hi := stabR1 q c f w
  go_enter Tryz.func115, Tryz.ntmps115
  go_wp2_with (go_at_call 145; refine hi.mono ?_; rintro e w1 ⟨rfl, hw1⟩; obtain rfl := hw1.symm)
  go_end0
  exact ⟨rfl, rfl⟩
theorem compR1 (q : Option Addr) (c : Nat) (f : Value) (w : World) : Calls Tryz.prog 68 #[.slice q 1 c, f] w fun e w' => e = .returned (.slice q 1 c) ∧ w' = w := by
  go_enter Tryz.func68, Tryz.ntmps68
  go_wp2
  go_ret
  exact ⟨rfl, rfl⟩
theorem sortedR1 (Bs : Nat) (p : Option Addr) (c : Nat) (x : Pr) (f : Value) (w : World) (hBs : Bs < w.heap.size) (hcell : w.cell? ⟨Bs, 0, none⟩ = some (.slice p 1 c)) (hc : SlOf encR 4 w p c [x]) :
    Calls Tryz.prog 69 #[.func (.func 116) #[] #[.pointer (some ⟨Bs, 0, none⟩)], f] w fun e w' => (∃ q cap, e = .returned (.slice q 1 cap) ∧ OwnK encR 42 4 w.heap.size w' q cap [x]) ∧ Below w.heap.size w w' := by
  have h := collectR Bs p c [x] (by simp) w hBs hcell hc
  clear hcell hc
  go_enter Tryz.func69, Tryz.ntmps69
  go_wp2_with (first
    | (go_at_call 114; refine h.mono ?_; rintro e w1 ⟨⟨q, cap, rfl, ho⟩, hb⟩; have HO := hide ho; have HB := hide hb; clear ho hb)
    | (go_at_call 115; refine (sortR1 q cap f _).mono ?_; rintro e w2 ⟨rfl, hw⟩; obtain rfl := hw.symm))
  go_ret
  exact ⟨⟨q, cap, rfl, unhide HO⟩, unhide HB⟩
theorem firstsR1 (p : Option Addr) (c : Nat) (x : Pr) (w : World) (hc : SlOf encR 4 w p c [x]) :
    Calls Tryz.prog 30 #[.slice p 1 c] w fun e w' => (∃ q cap, e = .returned (.slice q 1 cap) ∧ OwnK encR 42 4 w.heap.size w' q cap [x]) ∧ Below w.heap.size w w' := by
  have hal : Below w.heap.size w (w.alloc (.cells #[.slice p 1 c] 26)) := (Below.refl _ _).alloc (Nat.le_refl _) _
  have hs := fun f => sortedR1 w.heap.size p c x f (w.alloc (.cells #[.slice p 1 c] 26)) (by simp) (Boxed.new w 26 _).cell (hc.below hal)
  have hv := valuesR p 1 c w
  have HAL := hide hal
  clear hc hal
  go_enter Tryz.func30, Tryz.ntmps30
  go_wp2_with (first
    | (go_at_call 70; refine hv.mono ?_; rintro e w1 ⟨rfl, rfl⟩)
    | (go_at_call 69; refine (hs _).mono ?_; rintro e w2 ⟨⟨q, cap, rfl, ho⟩, hb⟩; have HO := hide ho; have HB := hide hb; clear ho hb)
    | (go_at_call 68; refine (compR1 q cap _ _).mono ?_; rintro e w3 ⟨rfl, hw⟩; obtain rfl := hw.symm))
  go_ret
  exact ⟨⟨q, cap, rfl, (unhide HO).mono (by simp)⟩, below_sub (unhide HAL) (unhide HB)⟩
end Go.Proofs.YtedakipjfpdajaaGreatDoor
namespace Go.Proofs.YtedakipjfpdajaaGreatDoor
open Go.RowKit Go.Sort Go.Shelf

def kc0 : Ky := (⟨⟨#[99]⟩, 2, 0, 0, ⟨#[97, 98]⟩⟩ : Ky)
def kc1 : Ky := (⟨⟨#[99]⟩, 4, 0, 0, ⟨#[]⟩⟩ : Ky)
def kc2 : Ky := (⟨⟨#[99]⟩, 4, 0, 0, ⟨#[97]⟩⟩ : Ky)
def kc3 : Ky := (⟨⟨#[99]⟩, 4, 0, 0, ⟨#[97, 98]⟩⟩ : Ky)
set_option maxRecDepth 100000 in
set_option maxHeartbeats 2000000 in
theorem wordC (w : World) : Calls Tryz.prog 33 #[.slice none 0 0, .string ⟨#[99]⟩, .string ⟨#[97, 98]⟩] w fun e w' => (∃ q c, e = .returned (.slice q 4 c) ∧ OwnK encK 46 5 w.heap.size w' q c [kc0, kc1, kc2, kc3]) ∧ Below w.heap.size w w' := by
  go_enter Tryz.func33, Tryz.ntmps33
  go_wp2_with (first
    | (go_at_call 25; refine (ofWord ⟨#[99]⟩ ⟨#[97, 98]⟩ _).mono ?_; rintro e w2 ⟨rfl, b2⟩; have B2 := hide b2; have s2 := b2.size; clear b2)
    | (at_builtin; refine wpList_app rowP rfl _ _ rfl w.heap.size none 0 [] (some ⟨w2.heap.size, 0, none⟩) 1 [kc0] 0 1 1 rfl rfl rfl rfl rfl (OwnK.nil _ _) (srcKy (x := kc0) (box_nw _ _)) (by decide) (by decide) (by simp; omega) ?_; intro q1 c1 w1 ho1 hb1 _ _; have HO1 := hide ho1; have HB1 := hide ((below_sub (unhide B2) ((Below.refl _ _).alloc (Nat.le_refl _) _)).trans hb1); clear ho1 hb1))
  go_loopw [0, 17] (fun s i wr => (∃ q c, s = .slice q 1 c ∧ i = .int .i64 0 ∧ Hid (OwnK encK 46 5 w.heap.size wr q c [kc0]) ∧ Hid (Below w.heap.size w wr)) ∨ (∃ q c, s = .slice q 2 c ∧ i = .int .i64 1 ∧ Hid (OwnK encK 46 5 w.heap.size wr q c [kc0, kc1]) ∧ Hid (Below w.heap.size w wr)) ∨ (∃ q c, s = .slice q 3 c ∧ i = .int .i64 2 ∧ Hid (OwnK encK 46 5 w.heap.size wr q c [kc0, kc1, kc2]) ∧ Hid (Below w.heap.size w wr)) ∨ (∃ q c, s = .slice q 4 c ∧ i = .int .i64 3 ∧ Hid (OwnK encK 46 5 w.heap.size wr q c [kc0, kc1, kc2, kc3]) ∧ Hid (Below w.heap.size w wr))) (fun _ i _ => (3 - intOf i).toNat)
  case atStart => exact Or.inl ⟨q1, c1, rfl, rfl, HO1, HB1⟩
  case round =>
    rcases hrel with ⟨q, c, rfl, rfl, HO, HB⟩ | ⟨q, c, rfl, rfl, HO, HB⟩ | ⟨q, c, rfl, rfl, HO, HB⟩ | ⟨q, c, rfl, rfl, HO, HB⟩
    · go_wp2_with (first
        | (go_at_call 29; refine (ofPre ⟨#[99]⟩ ⟨#[]⟩ _).mono ?_; rintro e w2 ⟨rfl, b2⟩; have B2 := hide b2; have s2 := b2.size; have s0 := (unhide HB).size; clear b2)
        | (at_builtin; refine wpList_app rowP rfl _ _ rfl w.heap.size q c [kc0] (some ⟨w2.heap.size, 0, none⟩) 1 [kc1] 1 1 2 rfl rfl rfl rfl rfl (((unhide HO).below (unhide B2)).below ((Below.refl _ _).alloc (Nat.le_refl _) _)) (srcKy (x := kc1) (box_nw _ _)) (by decide) (by decide) (by simp; omega) ?_; intro q3 c3 w3 ho3 hb3 _ _; have HO3 := hide ho3; have HB3 := hide ((below_sub (unhide HB) (below_sub (unhide B2) ((Below.refl _ _).alloc (Nat.le_refl _) _))).trans hb3); clear ho3 hb3))
      go_roundw
      case rel => exact Or.inr (Or.inl (⟨q3, c3, rfl, by go_num, HO3, HB3⟩))
      case measure => simp [intOf]
    · go_wp2_with (first
        | (go_at_call 29; refine (ofPre ⟨#[99]⟩ ⟨#[97]⟩ _).mono ?_; rintro e w2 ⟨rfl, b2⟩; have B2 := hide b2; have s2 := b2.size; have s0 := (unhide HB).size; clear b2)
        | (at_builtin; refine wpList_app rowP rfl _ _ rfl w.heap.size q c [kc0, kc1] (some ⟨w2.heap.size, 0, none⟩) 1 [kc2] 2 1 3 rfl rfl rfl rfl rfl (((unhide HO).below (unhide B2)).below ((Below.refl _ _).alloc (Nat.le_refl _) _)) (srcKy (x := kc2) (box_nw _ _)) (by decide) (by decide) (by simp; omega) ?_; intro q3 c3 w3 ho3 hb3 _ _; have HO3 := hide ho3; have HB3 := hide ((below_sub (unhide HB) (below_sub (unhide B2) ((Below.refl _ _).alloc (Nat.le_refl _) _))).trans hb3); clear ho3 hb3))
      go_roundw
      case rel => exact Or.inr (Or.inr (Or.inl (⟨q3, c3, rfl, by go_num, HO3, HB3⟩)))
      case measure => simp [intOf]
    · go_wp2_with (first
        | (go_at_call 29; refine (ofPre ⟨#[99]⟩ ⟨#[97, 98]⟩ _).mono ?_; rintro e w2 ⟨rfl, b2⟩; have B2 := hide b2; have s2 := b2.size; have s0 := (unhide HB).size; clear b2)
        | (at_builtin; refine wpList_app rowP rfl _ _ rfl w.heap.size q c [kc0, kc1, kc2] (some ⟨w2.heap.size, 0, none⟩) 1 [kc3] 3 1 4 rfl rfl rfl rfl rfl (((unhide HO).below (unhide B2)).below ((Below.refl _ _).alloc (Nat.le_refl _) _)) (srcKy (x := kc3) (box_nw _ _)) (by decide) (by decide) (by simp; omega) ?_; intro q3 c3 w3 ho3 hb3 _ _; have HO3 := hide ho3; have HB3 := hide ((below_sub (unhide HB) (below_sub (unhide B2) ((Below.refl _ _).alloc (Nat.le_refl _) _))).trans hb3); clear ho3 hb3))
      go_roundw
      case rel => exact Or.inr (Or.inr (Or.inr ((⟨q3, c3, rfl, by go_num, HO3, HB3⟩))))
      case measure => simp [intOf]
    · go_wp2
      go_ret
      exact ⟨⟨q, c, rfl, unhide HO⟩, unhide HB⟩
def pairC : Pr := ⟨⟨#[99]⟩, 2, 0, ⟨#[97, 98]⟩⟩
set_option maxRecDepth 100000 in
set_option maxHeartbeats 2000000 in
theorem eventC (p : Option Addr) (cp : Nat) (w : World) (hc : SlOf encR 4 w p cp [pairC]) : Calls Tryz.prog 10 #[.slice p 1 cp] w fun e w' => (∃ q c, e = .returned (.slice q 4 c) ∧ OwnK encK 46 5 w.heap.size w' q c [kc0, kc1, kc2, kc3]) ∧ Below w.heap.size w w' := by
  have hf := firstsR1 p cp pairC w hc
  clear hc
  go_enter Tryz.func10, Tryz.ntmps10
  go_wp2_with (go_at_call 30; refine hf.mono ?_; rintro e w1 ⟨⟨q1, c1, rfl, o1⟩, b1⟩; have O1 := hide o1; have B1 := hide b1; have s1 := b1.size; clear o1 b1)
  obtain ⟨bs, os, hqs, hbs, p0, p1, p2, p3⟩ := pairAt (unhide O1).ls (j := 0) (x := pairC) rfl
  subst hqs
  simp only [Nat.zero_mul, Nat.add_zero] at p0 p1 p2 p3
  have P0 : w1.cell? ⟨bs, os, none⟩ = some (.string ⟨#[99]⟩) := p0
  have P1 : w1.cell? ⟨bs, os + 1, none⟩ = some (.int .i64 2) := p1
  have P2 : w1.cell? ⟨bs, os + 2, none⟩ = some (.int .i64 0) := p2
  have P3 : w1.cell? ⟨bs, os + 3, none⟩ = some (.string ⟨#[97, 98]⟩) := p3
  clear p0 p1 p2 p3 hf
  go_loopw [3, 9] (fun s i wr => (s = .slice none 0 0 ∧ i = .int .i64 0 ∧ wr = w1) ∨ ∃ q c, s = .slice q 4 c ∧ i = .int .i64 1 ∧ Hid (OwnK encK 46 5 w.heap.size wr q c [kc0, kc1, kc2, kc3]) ∧ Hid (Below w.heap.size w wr)) (fun _ i _ => (1 - intOf i).toNat)
  case atStart => exact Or.inl ⟨rfl, rfl, rfl⟩
  case round =>
    rcases hrel with ⟨rfl, rfl, hw⟩ | ⟨q, c, rfl, rfl, HO, HB⟩
    · obtain rfl := hw.symm
      obtain ⟨y0, y1, y2, y3⟩ := cells_of_pair (x := pairC) (box_nw w1 (.cells #[.string ⟨#[99]⟩, .int .i64 2, .int .i64 0, .string ⟨#[97, 98]⟩] 42))
      have Y8 := hide (box_nw w1 (.cells #[.string ⟨#[99]⟩, .int .i64 2, .int .i64 0, .string ⟨#[97, 98]⟩] 42))
      have aY := hide ((Below.refl w1.heap.size w1).alloc (Nat.le_refl _) (.cells #[.string ⟨#[99]⟩, .int .i64 2, .int .i64 0, .string ⟨#[97, 98]⟩] 42))
      go_wp2_with (first
        | (go_at_call 31; refine (checkW _).mono ?_; rintro e w2 ⟨rfl, b2⟩; have B2 := hide b2; have s2 := b2.size; (obtain ⟨z0, z1, z2, z3⟩ := cells_of_pair (x := pairC) ((b2.block w1.heap.size (by simp)).trans (unhide Y8))); clear b2)
        | (go_at_call 33; refine (wordC _).mono ?_; rintro e w3 ⟨⟨q3, c3, rfl, o3⟩, b3⟩; have O3 := hide (o3.mono (B' := w.heap.size) (by have := s2; simp at this; omega)); have B3 := hide (below_sub (unhide B1) (below_sub (unhide aY) (below_sub (unhide B2) b3))); clear o3 b3))
      go_roundw
      case rel => exact Or.inr ⟨q3, c3, rfl, by go_num, O3, B3⟩
      case measure => simp [intOf]
    · go_wp2
      go_ret
      exact ⟨⟨q, c, rfl, unhide HO⟩, unhide HB⟩
end Go.Proofs.YtedakipjfpdajaaGreatDoor
namespace Go.Proofs.YtedakipjfpdajaaGreatDoor
open Go.RowKit Go.Sort Go.Shelf

theorem slDrop {w : World} {b off c : Nat} {l m : List Ky} (h : SlOf encK 5 w (some ⟨b, off, none⟩) c (l ++ m)) (hm : 0 < m.length) : SlOf encK 5 w (some ⟨b, off + l.length * 5, none⟩) (c - l.length) m := by
  have h1 := h.2.1
  have h2 := h.2.2.1
  rw [List.length_append] at h1
  refine ⟨fun h => (by cases h), by omega, by omega, fun _ => ?_⟩
  obtain ⟨b', off', hq, hb, hc⟩ := h.2.2.2 (by rw [List.length_append]; omega)
  cases hq
  refine ⟨b, _, rfl, hb, fun j u hj => ?_⟩
  rw [Nat.add_assoc]
  exact hc (l.length * 5 + j) u (by rw [flat_app encK 5 (by decide), List.getElem?_append_right (by rw [flat_len]; omega), flat_len, Nat.add_sub_cancel_left]; exact hj)
theorem zeroK (w : World) : Calls Tryz.prog 20 #[] w fun e w' => e = .returned (.agg #[.string ⟨#[]⟩, .int .i64 5, .int .i64 0, .int .i64 0, .string ⟨#[]⟩]) ∧ Below w.heap.size w w' := by
  go_enter Tryz.func20, Tryz.ntmps20
  go_wp2
  refine bodyPost_ret (v := .agg #[.string ⟨#[]⟩, .int .i64 5, .int .i64 0, .int .i64 0, .string ⟨#[]⟩]) (by simp [results, Tryz.results20, go_sem]) rfl ⟨rfl, (Below.refl _ _).alloc (Nat.le_refl _) _⟩
theorem cmp01 (w : World) : Calls Tryz.prog 19 #[.agg #[.string ⟨#[99]⟩, .int .i64 2, .int .i64 0, .int .i64 0, .string ⟨#[97, 98]⟩], .agg #[.string ⟨#[99]⟩, .int .i64 4, .int .i64 0, .int .i64 0, .string ⟨#[]⟩]] w fun e w' => e = .returned (.int .i64 (-1)) ∧ Below w.heap.size w w' := by
  have h := compareB kc0 kc1 w
  rw [show cmpK kc0 kc1 = -1 by decide +kernel] at h
  exact h
theorem eqA (w : World) : (binOp .eql 46 (.agg #[.string ⟨#[97]⟩, .int .i64 3, .int .i64 3, .int .i64 268435456, .string ⟨#[]⟩]) (.agg #[.string ⟨#[97]⟩, .int .i64 3, .int .i64 3, .int .i64 268435456, .string ⟨#[]⟩])).run Tryz.prog w = .ok (.bool true) w := by
  have h := eqlP keyA keyA w
  rw [show decide (keyA = keyA) = true from decide_eq_true rfl] at h
  exact h
theorem fieldZ (w : World) : (Instr.field 46 (.agg #[.string ⟨#[]⟩, .int .i64 5, .int .i64 0, .int .i64 0, .string ⟨#[]⟩]) 1).run Tryz.prog w = .ok (.int .i64 5) w := by
  kernel_rfl
theorem sh2 : (shared [kc0, kc1, kc2, kc3] [kc2, kc3]).length = 2 := by decide +kernel
set_option maxRecDepth 100000 in
set_option maxHeartbeats 4000000 in
theorem fixedK (w : World) (hG : G w) : Calls Tryz.prog 6 #[] w fun e w' => e = .returned (.bool true) ∧ Below w.heap.size w w' := by
  have mixed : Tryz.prog.follows .mixedOrders = true := by kernel_rfl
  have en10 : ∀ args w, (callFunc 19 args).run Tryz.prog w = .ok (.enter 19 args) w := enters_of Tryz.func19 (by kernel_rfl) rfl
  have en14 : ∀ args w, (callFunc 20 args).run Tryz.prog w = .ok (.enter 20 args) w := enters_of Tryz.func20 (by kernel_rfl) rfl
  have hof := ofA w hG
  have hsh := fun (g c : Nat) (W : World) (h : SlOf encK 5 W (some ⟨g, 0, none⟩) c [kc0, kc1, kc2, kc3]) => sharedK (some ⟨g, 0, none⟩) c [kc0, kc1, kc2, kc3] (some ⟨g, 10, none⟩) (c - 2) [kc2, kc3] W h (slDrop (l := [kc0, kc1]) (m := [kc2, kc3]) h (by decide)) (by decide) (by decide)
  rw [sh2] at hsh
  clear hG
  go_enter Tryz.func6, Tryz.ntmps6
  go_wp2_with (first
    | (go_at_call 9; refine hof.mono ?_; rintro e w1 ⟨⟨q1, c1, rfl, o1⟩, b1⟩; (obtain ⟨g1, hq1, hg1, hg2, _, _⟩ := o1.some_of (by decide)); subst hq1; have O1 := hide o1; have B1 := hide b1; clear o1 b1)
    | (go_at_call 10; refine (eventC (some ⟨w1.heap.size, 0, none⟩) 1 _ ⟨fun h => (by cases h), Nat.le_refl _, by unfold maxLen; decide, (LsOf.one (by simp) fun c hc => (by
        obtain ⟨y0, y1, y2, y3⟩ := cells_of_pair (x := pairC) (box_nw w1 (.cells #[.string ⟨#[99]⟩, .int .i64 2, .int .i64 0, .string ⟨#[97, 98]⟩] 42))
        have hm : c = 0 ∨ c = 1 ∨ c = 2 ∨ c = 3 := by omega
        rcases hm with rfl | rfl | rfl | rfl
        · exact y0
        · exact y1
        · exact y2
        · exact y3))⟩).mono ?_; rintro e w2 ⟨⟨q2, c2, rfl, o2⟩, b2⟩; (obtain ⟨g2, hq2, hh1, hh2, hcap, hmx⟩ := o2.some_of (by decide)); subst hq2; have O2 := hide o2; have B2 := hide (below_sub ((Below.refl w1.heap.size w1).alloc (Nat.le_refl _) _) b2); have hc4 : 4 ≤ c2 := hcap; have nc : ¬ c2 = 2 := (by omega); have nc2 : (4 : Int) ≤ (c2 : Int) := (by omega); clear o2 b2 hcap)
    | (go_at_call 17; refine (hsh g2 c2 _ (unhide O2).ls).mono ?_; rintro e w3 ⟨⟨q3, c3, rfl, o3⟩, b3⟩; have B3 := hide b3; clear o3 b3))
  have O1' := hide ((unhide O1).below (below_sub (unhide B2) (unhide B3)))
  have O2' := hide ((unhide O2).below (unhide B3))
  obtain ⟨lc0, lc1, lc2, lc3, lc4⟩ := (unhide O1').at2 (k := 0) (x := keyA) rfl
  obtain ⟨mc0, mc1, mc2, mc3, mc4⟩ := (unhide O2').at2 (k := 0) (x := kc0) rfl
  obtain ⟨nc0, nc1, nc2', nc3, nc4⟩ := (unhide O2').at2 (k := 1) (x := kc1) rfl
  obtain ⟨pc0, pc1, pc2, pc3, pc4⟩ := (unhide O2').at2 (k := 2) (x := kc2) rfl
  have BE := hide (below_sub (unhide B1) (below_sub (unhide B2) (unhide B3)))
  have l0 : ∀ n os, (grow (redrawn w3 n) os).cell? ⟨g1, 0, none⟩ = some (.string ⟨#[97]⟩) := cell_regrown (show w3.cell? ⟨g1, 0, none⟩ = some (.string ⟨#[97]⟩) from lc0)
  have l1 : ∀ n os, (grow (redrawn w3 n) os).cell? ⟨g1, 1, none⟩ = some (.int .i64 3) := cell_regrown (show w3.cell? ⟨g1, 1, none⟩ = some (.int .i64 3) from lc1)
  have l2 : ∀ n os, (grow (redrawn w3 n) os).cell? ⟨g1, 2, none⟩ = some (.int .i64 3) := cell_regrown (show w3.cell? ⟨g1, 2, none⟩ = some (.int .i64 3) from lc2)
  have l3 : ∀ n os, (grow (redrawn w3 n) os).cell? ⟨g1, 3, none⟩ = some (.int .i64 268435456) := cell_regrown (show w3.cell? ⟨g1, 3, none⟩ = some (.int .i64 268435456) from lc3)
  have l4 : ∀ n os, (grow (redrawn w3 n) os).cell? ⟨g1, 4, none⟩ = some (.string ⟨#[]⟩) := cell_regrown (show w3.cell? ⟨g1, 4, none⟩ = some (.string ⟨#[]⟩) from lc4)
  have m0 : ∀ n os, (grow (redrawn w3 n) os).cell? ⟨g2, 0, none⟩ = some (.string ⟨#[99]⟩) := cell_regrown (show w3.cell? ⟨g2, 0, none⟩ = some (.string ⟨#[99]⟩) from mc0)
  have m1 : ∀ n os, (grow (redrawn w3 n) os).cell? ⟨g2, 1, none⟩ = some (.int .i64 2) := cell_regrown (show w3.cell? ⟨g2, 1, none⟩ = some (.int .i64 2) from mc1)
  have m2 : ∀ n os, (grow (redrawn w3 n) os).cell? ⟨g2, 2, none⟩ = some (.int .i64 0) := cell_regrown (show w3.cell? ⟨g2, 2, none⟩ = some (.int .i64 0) from mc2)
  have m3 : ∀ n os, (grow (redrawn w3 n) os).cell? ⟨g2, 3, none⟩ = some (.int .i64 0) := cell_regrown (show w3.cell? ⟨g2, 3, none⟩ = some (.int .i64 0) from mc3)
  have m4 : ∀ n os, (grow (redrawn w3 n) os).cell? ⟨g2, 4, none⟩ = some (.string ⟨#[97, 98]⟩) := cell_regrown (show w3.cell? ⟨g2, 4, none⟩ = some (.string ⟨#[97, 98]⟩) from mc4)
  have n0 : ∀ n os, (grow (redrawn w3 n) os).cell? ⟨g2, 5, none⟩ = some (.string ⟨#[99]⟩) := cell_regrown (show w3.cell? ⟨g2, 5, none⟩ = some (.string ⟨#[99]⟩) from nc0)
  have n1 : ∀ n os, (grow (redrawn w3 n) os).cell? ⟨g2, 6, none⟩ = some (.int .i64 4) := cell_regrown (show w3.cell? ⟨g2, 6, none⟩ = some (.int .i64 4) from nc1)
  have n2 : ∀ n os, (grow (redrawn w3 n) os).cell? ⟨g2, 7, none⟩ = some (.int .i64 0) := cell_regrown (show w3.cell? ⟨g2, 7, none⟩ = some (.int .i64 0) from nc2')
  have n3 : ∀ n os, (grow (redrawn w3 n) os).cell? ⟨g2, 8, none⟩ = some (.int .i64 0) := cell_regrown (show w3.cell? ⟨g2, 8, none⟩ = some (.int .i64 0) from nc3)
  have n4 : ∀ n os, (grow (redrawn w3 n) os).cell? ⟨g2, 9, none⟩ = some (.string ⟨#[]⟩) := cell_regrown (show w3.cell? ⟨g2, 9, none⟩ = some (.string ⟨#[]⟩) from nc4)
  have p0 : ∀ n os, (grow (redrawn w3 n) os).cell? ⟨g2, 10, none⟩ = some (.string ⟨#[99]⟩) := cell_regrown (show w3.cell? ⟨g2, 10, none⟩ = some (.string ⟨#[99]⟩) from pc0)
  have p1 : ∀ n os, (grow (redrawn w3 n) os).cell? ⟨g2, 11, none⟩ = some (.int .i64 4) := cell_regrown (show w3.cell? ⟨g2, 11, none⟩ = some (.int .i64 4) from pc1)
  have p2 : ∀ n os, (grow (redrawn w3 n) os).cell? ⟨g2, 12, none⟩ = some (.int .i64 0) := cell_regrown (show w3.cell? ⟨g2, 12, none⟩ = some (.int .i64 0) from pc2)
  have p3 : ∀ n os, (grow (redrawn w3 n) os).cell? ⟨g2, 13, none⟩ = some (.int .i64 0) := cell_regrown (show w3.cell? ⟨g2, 13, none⟩ = some (.int .i64 0) from pc3)
  have p4 : ∀ n os, (grow (redrawn w3 n) os).cell? ⟨g2, 14, none⟩ = some (.string ⟨#[97]⟩) := cell_regrown (show w3.cell? ⟨g2, 14, none⟩ = some (.string ⟨#[97]⟩) from pc4)
  have heq := eqA
  have hfd := fieldZ
  clear lc0 lc1 lc2 lc3 lc4 mc0 mc1 mc2 mc3 mc4 nc0 nc1 nc2' nc3 nc4 pc0 pc1 pc2 pc3 pc4
  refine wp_region_quiet_below (by assumption) (by kernel_rfl) ?_
  repeat (go_big_quiet_step (first | (go_at_fn 20; refine Calls.regrown_of (zeroK _)) | (go_at_fn 19; refine Calls.regrown_of (cmp01 _))))
  refine wpQuiet_nil ?_
  intro _ hw'
  obtain ⟨⟨dq, osq⟩, hw''⟩ := hw'
  subst hw''
  go_wp2
  go_ret
  exact ⟨ret_bool (by simp), below_sub (unhide BE) (below_regrown _ _ _)⟩
end Go.Proofs.YtedakipjfpdajaaGreatDoor

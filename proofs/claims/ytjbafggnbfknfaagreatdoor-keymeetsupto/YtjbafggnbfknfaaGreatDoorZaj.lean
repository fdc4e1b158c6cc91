/- law12.fixed's predicate: tree.Pred and conj.Normal at the literal. -/
import Derived.Test.YtjbafggnbfknfaaGreatDoorZac
namespace Go.Proofs.YtjbafggnbfknfaaGreatDoor
open Go.RowKit Go.Sort Go.Shelf

theorem of6' {w : World} {M : Nat} {a0 a1 a2 a3 a4 a5 : Value} {T : TypeId} (h : w.heap[M]? = some (.cells #[a0, a1, a2, a3, a4, a5] T (0, 0))) : w.cell? ⟨M, 0, none⟩ = some a0 ∧ w.cell? ⟨M, 1, none⟩ = some a1 ∧ w.cell? ⟨M, 2, none⟩ = some a2 ∧ w.cell? ⟨M, 3, none⟩ = some a3 ∧ w.cell? ⟨M, 4, none⟩ = some a4 ∧ w.cell? ⟨M, 5, none⟩ = some a5 := by
  refine ⟨?_, ?_, ?_, ?_, ?_, ?_⟩ <;> (unfold World.cell?; simp [h])
theorem emptyA (w : World) : Calls Tryz.prog 90 #[.agg #[.int .i64 3, .string ⟨#[97]⟩, .slice none 0 0, .slice none 0 0, .int .i64 0, .int .i64 0]] w fun e w' => e = .returned (.bool true) ∧ Below w.heap.size w w' := by
  go_enter Tryz.func90, Tryz.ntmps90
  go_wp2
  go_ret
  exact ⟨rfl, (Below.refl _ _).alloc (Nat.le_refl _) _⟩
set_option maxRecDepth 100000 in
theorem predA (w : World) : Calls Tryz.prog 48 #[.agg #[.int .i64 3, .string ⟨#[97]⟩, .slice none 0 0, .slice none 0 0, .int .i64 0, .int .i64 7]] w fun e w' => e = .returned (.int .i64 0) ∧ Below w.heap.size w w' := by
  obtain ⟨X, HX⟩ : ∃ X, w.alloc (.cells #[.int .i64 3, .string ⟨#[97]⟩, .slice none 0 0, .slice none 0 0, .int .i64 0, .int .i64 7] 25) = X := ⟨_, rfl⟩
  have bX : Below w.heap.size w X := by rw [← HX]; exact (Below.refl _ _).alloc (Nat.le_refl _) _
  have x8 : X.heap[w.heap.size]? = some (.cells #[.int .i64 3, .string ⟨#[97]⟩, .slice none 0 0, .slice none 0 0, .int .i64 0, .int .i64 7] 25 (0, 0)) := by rw [← HX]; exact box_nw _ _
  have hlt : w.heap.size < X.heap.size := by rw [← HX]; simp
  obtain ⟨x0, x1, x2, x3, x4, x5⟩ := of6' x8
  have X8 := hide x8
  have BX := hide bX
  clear x8 bX
  go_enter Tryz.func48, Tryz.ntmps48
  go_wp2_with (first
    | (go_at_call 85; refine (nameA _).mono ?_; rintro e w1 ⟨rfl, hw⟩; obtain rfl := hw.symm)
    | (go_at_call 87; have mk := B2; refine (isNumN 7 (by decide) (by decide) _).mono ?_; rintro e w3 ⟨rfl, b3⟩; have B3 := hide (below_sub (unhide B2) b3); have q8 := ((unhide B3).block _ hlt).trans (unhide X8); (obtain ⟨z0, z1, z2, z3, z4, z5⟩ := of6' q8); have zf := fun o => frozen_free (o := o) q8; clear b3 mk q8)
    | (go_at_call 87; refine (isNumN 0 (by decide) (by decide) _).mono ?_; rintro e w2 ⟨rfl, b2⟩; have B2 := hide b2; (obtain ⟨y0, y1, y2, y3, y4, y5⟩ := of6' ((b2.block _ hlt).trans (unhide X8))); clear b2)
    | (go_at_call 90; refine (emptyA _).mono ?_; rintro e w4 ⟨rfl, b4⟩; have B4 := hide b4; clear b4))
  go_ret
  exact ⟨rfl, below_sub (((below_sub (unhide BX) (unhide B3)).setCell (p := ⟨w.heap.size, 4, none⟩) (Nat.le_refl _) _).setCell (p := ⟨w.heap.size, 5, none⟩) (Nat.le_refl _) _) (unhide B4)⟩
set_option maxRecDepth 100000 in
theorem normalA (w : World) : Calls Tryz.prog 23 #[.agg #[.int .i64 3, .string ⟨#[97]⟩, .slice none 0 0, .slice none 0 0, .int .i64 0, .int .i64 7]] w fun e w' => e = .returned (.tuple #[.agg #[.int .i64 3, .string ⟨#[97]⟩, .slice none 0 0, .slice none 0 0, .int .i64 0, .int .i64 7], .bool true]) ∧ Below w.heap.size w w' := by
  obtain ⟨X, HX⟩ : ∃ X, (w.alloc (.cells #[.int .i64 3, .string ⟨#[97]⟩, .slice none 0 0, .slice none 0 0, .int .i64 0, .int .i64 7] 25)).alloc (.cells #[.int .i64 0, .string ⟨#[]⟩, .slice none 0 0, .slice none 0 0, .int .i64 0, .int .i64 0] 25) = X := ⟨_, rfl⟩
  have bX : Below w.heap.size w X := by rw [← HX]; exact ((Below.refl _ _).alloc (Nat.le_refl _) _).alloc (by simp) _
  have x9 : X.heap[w.heap.size + 1]? = some (.cells #[.int .i64 0, .string ⟨#[]⟩, .slice none 0 0, .slice none 0 0, .int .i64 0, .int .i64 0] 25 (0, 0)) := by
    have := box_nw (w.alloc (.cells #[.int .i64 3, .string ⟨#[97]⟩, .slice none 0 0, .slice none 0 0, .int .i64 0, .int .i64 7] 25)) (.cells #[.int .i64 0, .string ⟨#[]⟩, .slice none 0 0, .slice none 0 0, .int .i64 0, .int .i64 0] 25)
    rw [World.size_alloc] at this
    rw [← HX]; exact this
  have x8 : X.heap[w.heap.size]? = some (.cells #[.int .i64 3, .string ⟨#[97]⟩, .slice none 0 0, .slice none 0 0, .int .i64 0, .int .i64 7] 25 (0, 0)) := by
    rw [← HX]
    exact (((Below.refl _ _).alloc (Nat.le_refl _) _).block w.heap.size (by simp)).trans (box_nw _ _)
  have hlt : w.heap.size + 1 < X.heap.size := by rw [← HX]; simp
  have hlt0 : w.heap.size < X.heap.size := by omega
  obtain ⟨x0, x1, x2, x3, x4, x5⟩ := of6' x8
  obtain ⟨v0, v1, v2, v3, v4, v5⟩ := of6' x9
  have X8 := hide x8
  have X9 := hide x9
  have BX := hide bX
  clear x8 x9 bX
  go_enter Tryz.func23, Tryz.ntmps23
  go_wp2_with (first
    | (go_at_call 48; refine (predA _).mono ?_; rintro e w1 ⟨rfl, b1⟩; have B1 := hide b1; (obtain ⟨y0, y1, y2, y3, y4, y5⟩ := of6' ((b1.block _ hlt0).trans (unhide X8))); clear b1)
    | (go_at_call 60; refine (betweenA _).mono ?_; rintro e w2 ⟨rfl, b2⟩; have BY := hide (below_sub (unhide BX) (below_sub (unhide B1) b2)); have q9 := ((below_sub (unhide B1) b2).block _ hlt).trans (unhide X9); (obtain ⟨z0, z1, z2, z3, z4, z5⟩ := of6' q9); have zf := fun o => frozen_free (o := o) q9; clear b2 q9))
  refine bodyPost_ret (v := .tuple #[.agg #[.int .i64 3, .string ⟨#[97]⟩, .slice none 0 0, .slice none 0 0, .int .i64 0, .int .i64 7], .bool true]) (by simp [results, Tryz.results23, go_sem, *]) rfl ⟨rfl, (((((((unhide BY).setCell (p := ⟨w.heap.size + 1, 0, none⟩) (Nat.le_succ _) _).setCell (p := ⟨w.heap.size + 1, 1, none⟩) (Nat.le_succ _) _).setCell (p := ⟨w.heap.size + 1, 2, none⟩) (Nat.le_succ _) _).setCell (p := ⟨w.heap.size + 1, 3, none⟩) (Nat.le_succ _) _).setCell (p := ⟨w.heap.size + 1, 4, none⟩) (Nat.le_succ _) _).setCell (p := ⟨w.heap.size + 1, 5, none⟩) (Nat.le_succ _) _)⟩
end Go.Proofs.YtjbafggnbfknfaaGreatDoor
namespace Go.Proofs.YtjbafggnbfknfaaGreatDoor
open Go.RowKit Go.Sort Go.Shelf

def encSp (x : Int × Int) : List Value := [.int .i64 x.1, .int .i64 x.2]
theorem Tryz.info58 : (Tryz.prog.info? 58).map (fun i => (i.zero, i.size, i.bytes)) = some (some (.agg #[.int .i64 0, .int .i64 0]), 2, 16) := by kernel_rfl
theorem rowSp : RowOf encSp 55 58 2 16 where
  und := Tryz.underlying55
  info := by
    obtain ⟨i0, hi, hz0, hz1, hz2⟩ := info_parts Tryz.info58
    exact ⟨i0, _, hi, hz0, hz1, hz2, rfl⟩
  pos := by decide
  one := one_flat (fun x c hc => by
    have hm : c = 0 ∨ c = 1 := by omega
    rcases hm with e | e <;> rw [e] <;> rfl) (by decide)
theorem srcSp {W : World} {M : Nat} {x : Int × Int} (h : W.heap[M]? = some (.cells #[.int .i64 x.1, .int .i64 x.2] 58 (0, 0))) : SrcK encSp 2 W (some ⟨M, 0, none⟩) 1 [x] := by
  refine LsOf.src (fun h => by cases h) (LsOf.one (Array.getElem?_eq_some_iff.1 h).1 fun c hc => ?_)
  have hm : c = 0 ∨ c = 1 := by omega
  rcases hm with rfl | rfl <;> (unfold World.cell?; simp [h, encSp])
theorem srcKy {W : World} {M : Nat} {x : Ky} (h : W.heap[M]? = some (.cells #[.string x.attr, .int .i64 x.kind, .int .i64 x.level, .int .i64 x.num, .string x.word] 46 (0, 0))) : SrcK encK 5 W (some ⟨M, 0, none⟩) 1 [x] := by
  obtain ⟨e0, e1, e2, e3, e4⟩ := cells_of_block h
  refine LsOf.src (fun h => by cases h) (LsOf.one (Array.getElem?_eq_some_iff.1 h).1 fun c hc => ?_)
  have hm : c = 0 ∨ c = 1 ∨ c = 2 ∨ c = 3 ∨ c = 4 := by omega
  rcases hm with rfl | rfl | rfl | rfl | rfl
  · exact e0
  · exact e1
  · exact e2
  · exact e3
  · exact e4
theorem atA (w : World) : Calls Tryz.prog 63 #[.int .i64 3, .int .i64 0] w fun e w' => e = .returned (.agg #[.int .i64 3, .int .i64 268435456]) ∧ Below w.heap.size w w' := by
  have hpl := placeN 0 2147483648 (by decide) (by decide)
  go_enter Tryz.func63, Tryz.ntmps63
  go_wp2_with (go_at_call 103; refine (hpl _).mono ?_; rintro e w1 ⟨rfl, rfl⟩)
  refine bodyPost_ret (v := .agg #[.int .i64 3, .int .i64 268435456]) (by simp [results, Tryz.results63, go_sem]) rfl ⟨rfl, (Below.refl _ _).alloc (Nat.le_refl _) _⟩
set_option maxRecDepth 100000 in
set_option maxHeartbeats 1000000 in
theorem coverA (w : World) (hG : G w) : Calls Tryz.prog 26 #[.int .i64 0, .int .i64 7] w fun e w' => (∃ q c, e = .returned (.slice q 1 c) ∧ OwnK encSp 58 2 w.heap.size w' q c [(3, 268435456)]) ∧ Below w.heap.size w w' := by
  have hh := highestA w hG
  clear hG
  go_enter Tryz.func26, Tryz.ntmps26
  go_wp2
  go_loopw [0, 5] (fun lo s wr => (lo = .int .i64 0 ∧ s = .slice none 0 0 ∧ wr = w) ∨ ∃ q c, lo = .int .i64 8 ∧ s = .slice q 1 c ∧ Hid (OwnK encSp 58 2 w.heap.size wr q c [(3, 268435456)]) ∧ Hid (Below w.heap.size w wr)) (fun lo _ _ => (8 - intOf lo).toNat)
  case atStart => exact Or.inl ⟨rfl, rfl, rfl⟩
  case round =>
    rcases hrel with ⟨rfl, rfl, hw⟩ | ⟨q, c, rfl, rfl, HO, HB⟩
    · obtain rfl := hw.symm
      go_wp2_with (first
        | (go_at_call 62; refine hh.mono ?_; rintro e w1 ⟨rfl, hw1⟩; obtain rfl := hw1.symm)
        | (go_at_call 63; refine (atA _).mono ?_; rintro e w2 ⟨rfl, b2⟩; have B2 := hide b2; have s2 := b2.size; clear b2)
        | (at_builtin; refine wpList_app rowSp rfl _ _ rfl w.heap.size none 0 [] (some ⟨w2.heap.size, 0, none⟩) 1 [(3, 268435456)] 0 1 1 rfl rfl rfl rfl rfl (OwnK.nil _ _) (srcSp (box_nw _ _)) (by decide) (by decide) (by simp; omega) ?_; intro q3 c3 w3 ho3 hb3 _ _; have HO3 := hide ho3; have HB3 := hide ((below_sub (unhide B2) ((Below.refl _ _).alloc (Nat.le_refl _) _)).trans hb3); clear ho3 hb3))
      go_roundw
      case rel => exact Or.inr ⟨q3, c3, by go_num, rfl, HO3, HB3⟩
      case measure => simp [intOf]
    · go_wp2
      go_ret
      exact ⟨⟨q, c, rfl, unhide HO⟩, unhide HB⟩
theorem ofSpanA (w : World) : Calls Tryz.prog 27 #[.string ⟨#[97]⟩, .agg #[.int .i64 3, .int .i64 268435456]] w fun e w' => e = .returned (.agg #[.string ⟨#[97]⟩, .int .i64 3, .int .i64 3, .int .i64 268435456, .string ⟨#[]⟩]) ∧ Below w.heap.size w w' := by
  go_enter Tryz.func27, Tryz.ntmps27
  go_wp2
  refine bodyPost_ret (v := .agg #[.string ⟨#[97]⟩, .int .i64 3, .int .i64 3, .int .i64 268435456, .string ⟨#[]⟩]) (by simp [results, Tryz.results27, go_sem]) rfl ⟨rfl, ((Below.refl _ _).alloc (Nat.le_refl _) _).alloc (by simp) _⟩
theorem ofWord (a s : ByteArray) (w : World) : Calls Tryz.prog 25 #[.string a, .string s] w fun e w' => e = .returned (.agg #[.string a, .int .i64 2, .int .i64 0, .int .i64 0, .string s]) ∧ Below w.heap.size w w' := by
  go_enter Tryz.func25, Tryz.ntmps25
  go_wp2
  refine bodyPost_ret (v := .agg #[.string a, .int .i64 2, .int .i64 0, .int .i64 0, .string s]) (by simp [results, Tryz.results25, go_sem]) rfl ⟨rfl, (Below.refl _ _).alloc (Nat.le_refl _) _⟩
theorem ofPre (a s : ByteArray) (w : World) : Calls Tryz.prog 29 #[.string a, .string s] w fun e w' => e = .returned (.agg #[.string a, .int .i64 4, .int .i64 0, .int .i64 0, .string s]) ∧ Below w.heap.size w w' := by
  go_enter Tryz.func29, Tryz.ntmps29
  go_wp2
  refine bodyPost_ret (v := .agg #[.string a, .int .i64 4, .int .i64 0, .int .i64 0, .string s]) (by simp [results, Tryz.results29, go_sem]) rfl ⟨rfl, (Below.refl _ _).alloc (Nat.le_refl _) _⟩
def keyA : Ky := ⟨⟨#[97]⟩, 3, 3, 268435456, ⟨#[]⟩⟩
set_option maxRecDepth 100000 in
set_option maxHeartbeats 2000000 in
theorem ofA (w : World) (hG : G w) : Calls Tryz.prog 9 #[.agg #[.int .i64 3, .string ⟨#[97]⟩, .slice none 0 0, .slice none 0 0, .int .i64 0, .int .i64 7]] w fun e w' => (∃ q c, e = .returned (.slice q 1 c) ∧ OwnK encK 46 5 w.heap.size w' q c [keyA]) ∧ Below w.heap.size w w' := by
  have HG := hide hG
  clear hG
  go_enter Tryz.func9, Tryz.ntmps9
  go_wp2_with (first
    | (go_at_call 23; refine (normalA _).mono ?_; rintro e w1 ⟨rfl, b1⟩; have B1 := hide (below_sub ((Below.refl w.heap.size w).alloc (Nat.le_refl _) (.cells #[.int .i64 3, .string ⟨#[97]⟩, .slice none 0 0, .slice none 0 0, .int .i64 0, .int .i64 7] 25)) b1); have s1 := (unhide B1).size; (obtain ⟨y0, y1, y2, y3, y4, y5⟩ := of6' (box_nw w1 (.cells #[.int .i64 3, .string ⟨#[97]⟩, .slice none 0 0, .slice none 0 0, .int .i64 0, .int .i64 7] 25))); clear b1)
    | (go_at_call 26; refine (coverA _ ((unhide HG).below' (below_sub (unhide B1) ((Below.refl _ _).alloc (Nat.le_refl _) _)))).mono ?_; rintro e w2 ⟨⟨q2, c2, rfl, o2⟩, b2⟩; have O2 := hide o2; have B2 := hide b2; have s2 := b2.size; have Y8 := hide ((b2.block w1.heap.size (by simp)).trans (box_nw w1 (.cells #[.int .i64 3, .string ⟨#[97]⟩, .slice none 0 0, .slice none 0 0, .int .i64 0, .int .i64 7] 25))); clear o2 b2))
  obtain ⟨z, hz, _⟩ := get_at (l := [((3, 268435456) : Int × Int)]) (k := 0) (by decide)
  obtain ⟨bs, os, hqs, hbs, hcs⟩ := (unhide O2).ls.2.2.2.at (j := 0) (x := (3, 268435456)) rfl
  have p0 := hcs 0 (by omega)
  have p1 := hcs 1 (by omega)
  subst hqs
  clear hz hcs
  simp only [Nat.zero_mul, Nat.add_zero] at p0 p1
  have P0 : w2.cell? ⟨bs, os, none⟩ = some (.int .i64 3) := p0
  have P1 : w2.cell? ⟨bs, os + 1, none⟩ = some (.int .i64 268435456) := p1
  clear p0 p1
  obtain ⟨t0, t1, t2, t3, t4, t5⟩ := of6' (unhide Y8)
  have hy : w1.heap.size < w2.heap.size := Nat.lt_of_lt_of_le (by simp) s2
  have B02 := hide (below_sub (unhide B1) (below_sub ((Below.refl w1.heap.size w1).alloc (Nat.le_refl _) (.cells #[.int .i64 3, .string ⟨#[97]⟩, .slice none 0 0, .slice none 0 0, .int .i64 0, .int .i64 7] 25)) (unhide B2)))
  have s02 := (unhide B02).size
  clear y0 y1 y2 y3 y4 y5
  go_loopw [5, 63] (fun s i wr => (i = .int .i64 0 ∧ s = .slice none 0 0 ∧ wr = w2) ∨ ∃ q c, i = .int .i64 1 ∧ s = .slice q 1 c ∧ Hid (OwnK encK 46 5 w.heap.size wr q c [keyA]) ∧ Hid (Below w.heap.size w wr)) (fun _ i _ => (1 - intOf i).toNat)
  case atStart => exact Or.inl ⟨rfl, rfl, rfl⟩
  case round =>
    rcases hrel with ⟨rfl, rfl, hw⟩ | ⟨q, c, rfl, rfl, HO, HB⟩
    · obtain rfl := hw.symm
      go_wp2_with (first
        | (go_at_call 27; refine (ofSpanA _).mono ?_; rintro e w3 ⟨rfl, b3⟩; have B3 := hide (below_sub (unhide B02) (below_sub ((Below.refl w2.heap.size w2).alloc (Nat.le_refl _) _) b3)); have s3 := (unhide B3).size; clear b3)
        | (at_builtin; refine wpList_app rowP rfl _ _ rfl w.heap.size none 0 [] (some ⟨w3.heap.size, 0, none⟩) 1 [keyA] 0 1 1 rfl rfl rfl rfl rfl (OwnK.nil _ _) (srcKy (x := keyA) (box_nw _ _)) (by decide) (by decide) (by simp; omega) ?_; intro q4 c4 w4 ho4 hb4 _ _; have HO4 := hide ho4; have HB4 := hide ((below_sub (unhide B3) ((Below.refl _ _).alloc (Nat.le_refl _) _)).trans hb4); clear ho4 hb4))
      go_roundw
      case rel => exact Or.inr ⟨q4, c4, by go_num, rfl, HO4, HB4⟩
      case measure => simp [intOf]
    · have hso := sortP_any w.heap.size q c [keyA] wr (by decide) (unhide HO)
      go_wp2_with (go_at_call 28; refine hso.mono ?_; rintro e w5 ⟨rfl, l', hp, _, ho5, hb5⟩; have hl5 : l' = [keyA] := List.perm_singleton.1 hp; have HO5 := hide (hl5 ▸ ho5); have HB5 := hide ((unhide HB).trans hb5); clear hp ho5 hb5 hl5)
      go_ret
      exact ⟨⟨q, c, rfl, unhide HO5⟩, unhide HB5⟩
end Go.Proofs.YtjbafggnbfknfaaGreatDoor

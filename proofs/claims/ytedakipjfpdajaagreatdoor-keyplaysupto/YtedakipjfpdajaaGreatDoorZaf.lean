/- slices.DeleteFunc over keys, and key.Shared. -/
import Derived.Test.YtedakipjfpdajaaGreatDoorZae
import Derived.Lib.QuietBelow
import Derived.BigQuiet
namespace Go.Proofs.YtedakipjfpdajaaGreatDoor
open Go.RowKit Go.Sort Go.Shelf

/-- The others lie below B. -/
def OthB (B : Nat) (W : World) (Bo : Nat) (m : List Ky) : Prop := ∃ q c, W.cell? ⟨Bo, 0, none⟩ = some (.slice q m.length c) ∧ Bo < B ∧ (∀ a, q = some a → a.block < B) ∧ SlOf encK 5 W q c m
theorem OthB.oth {B : Nat} {W : World} {Bo : Nat} {m : List Ky} (h : OthB B W Bo m) (hB : B ≤ W.heap.size) : Oth W Bo m := by
  obtain ⟨q, c, h1, h2, _, h4⟩ := h
  exact ⟨q, c, h1, Nat.lt_of_lt_of_le h2 hB, h4⟩
theorem OthB.keep {B : Nat} {W W' : World} {Bo : Nat} {m : List Ky} (h : OthB B W Bo m) (_hB : B ≤ W.heap.size) (hb : Below B W W') : OthB B W' Bo m := by
  obtain ⟨q, c, h1, h2, h3, h4⟩ := h
  refine ⟨q, c, (hb.cell (p := ⟨Bo, 0, none⟩) h2).trans h1, h2, h3, h4.1, h4.2.1, h4.2.2.1, fun h0 => ?_⟩
  obtain ⟨b, off, hq, hlt, hc⟩ := h4.2.2.2 h0
  have hbB : b < B := h3 _ hq
  exact ⟨b, off, hq, Nat.lt_of_lt_of_le hlt hb.size, fun j u hj => (hb.cell (p := ⟨b, off + j, none⟩) hbB).trans (hc j u hj)⟩
theorem fil_snoc {l m : List Ky} {j : Nat} {x : Ky} (hx : l[j]? = some x) : (l.take (j + 1)).filter (inK m) = if inK m x = true then (l.take j).filter (inK m) ++ [x] else (l.take j).filter (inK m) := by
  rw [take_snoc_of hx, List.filter_append]
  cases h : inK m x <;> simp [h]
theorem fil_len (l m : List Ky) (j : Nat) : ((l.take j).filter (inK m)).length ≤ j := Nat.le_trans (List.length_filter_le _ _) (by rw [List.length_take]; omega)
theorem fst_out {m l : List Ky} (h : fstOut m l < l.length) : ∃ x, l[fstOut m l]? = some x ∧ inK m x = false ∧ (l.take (fstOut m l + 1)).filter (inK m) = l.take (fstOut m l) := by
  obtain ⟨x, hx, _⟩ := get_at h
  have hd : l = l.takeWhile (inK m) ++ l.dropWhile (inK m) := List.takeWhile_append_dropWhile.symm
  have hx2 : (l.dropWhile (inK m))[0]? = some x := by
    have h1 : l[fstOut m l]? = (l.takeWhile (inK m) ++ l.dropWhile (inK m))[fstOut m l]? := congrArg (fun z => z[fstOut m l]?) hd
    rw [h1, List.getElem?_append_right (by unfold fstOut cnt; omega)] at hx
    rw [← hx]
    congr 1
    unfold fstOut cnt; omega
  have hin : inK m x = false := by
    cases hdw : l.dropWhile (inK m) with
    | nil => rw [hdw] at hx2; simp at hx2
    | cons y r =>
      rw [hdw] at hx2
      simp only [List.getElem?_cons_zero, Option.some.injEq] at hx2
      subst hx2
      have := List.head?_dropWhile_not (p := inK m) (l := l)
      rw [hdw] at this
      simpa using this
  have ht : l.take (fstOut m l) = l.takeWhile (inK m) := by
    have h1 : l.take (fstOut m l) = (l.takeWhile (inK m) ++ l.dropWhile (inK m)).take (fstOut m l) := congrArg (fun z => z.take (fstOut m l)) hd
    rw [h1]
    exact List.take_left' rfl
  refine ⟨x, hx, hin, ?_⟩
  rw [fil_snoc hx, if_neg (by rw [hin]; decide), ht, List.filter_eq_self]
  intro a ha
  exact List.all_takeWhile (p := inK m) (l := l) |> List.all_eq_true.1 |> fun f => f a ha
theorem fst_all {m l : List Ky} (h : ¬ fstOut m l < l.length) : l.filter (inK m) = l := by
  have hle := cnt_le (inK m) l
  have hpre := List.takeWhile_prefix (inK m) (l := l)
  have he : l.takeWhile (inK m) = l := hpre.eq_of_length (by unfold fstOut cnt at *; omega)
  rw [List.filter_eq_self]
  intro a ha
  rw [← he] at ha
  exact List.all_takeWhile (p := inK m) (l := l) |> List.all_eq_true.1 |> fun f => f a ha
set_option maxHeartbeats 4000000 in
set_option maxRecDepth 100000 in
theorem deleteK (B : Nat) (q : Option Addr) (cap : Nat) (l : List Ky) (Bo : Nat) (m : List Ky) (w : World) (h : OwnK encK 46 5 B w q cap l) (hB : B ≤ w.heap.size) (ho : OthB B w Bo m) (hm : Str m) (hl : l.length ≤ 100000000000000) (hml : m.length ≤ 100000000000000) :
    Calls Tryz.prog 45 #[.slice q l.length cap, .func (.func 46) #[] #[.pointer (some ⟨Bo, 0, none⟩)]] w fun e w' => e = .returned (.slice q (l.filter (inK m)).length cap) ∧ OwnK encK 46 5 B w' q cap (l.filter (inK m)) ∧ Below B w w' := by
  have hI := indexK q cap l Bo m w h.ls (ho.oth hB) hm hl hml
  have H := hide h
  have HO := hide ho
  have HM := hide hm
  have i3 : (l.length : Int) ≤ 100000000000000 := by omega
  by_cases hf : fstOut m l < l.length
  · obtain ⟨x0, hx0, hin0, hfil⟩ := fst_out hf
    obtain ⟨i0, hi0⟩ : ∃ i0, fstOut m l = i0 := ⟨_, rfl⟩
    have hidx : idxK m l = (i0 : Int) := by unfold idxK; rw [if_pos hf, hi0]
    rw [hidx] at hI
    rw [hi0] at hfil hf
    obtain ⟨g, rfl, hBg, hgw, hlc, hcm⟩ := h.some_of (by omega)
    have ne1 : ((i0 : Int) == -1) = false := by rw [beq_eq_false_iff_ne]; omega
    have HFIL := hide hfil
    have i0l : (i0 : Int) ≤ 100000000000000 := by omega
    clear h ho hm hidx hfil hx0
    go_enter Tryz.func45, Tryz.ntmps45
    go_wp2_with (go_at_call 84; refine hI.mono ?_; rintro e w1 ⟨rfl, b1⟩; have B1 := hide (b1.mono hB); have s1 := b1.size; have HO1 := hide ((unhide H).below b1); clear b1)
    go_loopw [5, 6] (fun a b wr => ∃ (k j : Nat) (d : List Ky), j ≤ l.length ∧ k < j ∧ a = .int .i64 (k : Int) ∧ b = .int .i64 (j : Int) ∧ d.length = l.length ∧ ((l.take j).filter (inK m)).length = k ∧ d.take k = (l.take j).filter (inK m) ∧ (∀ t, j ≤ t → d[t]? = l[t]?) ∧ OwnK encK 46 5 B wr (some ⟨g, 0, none⟩) cap d ∧ Below B w wr ∧ B ≤ wr.heap.size) (fun _ b _ => l.length - (intOf b).toNat)
    case atStart => exact ⟨i0, i0 + 1, l, by omega, by omega, rfl, by go_num, rfl, by rw [unhide HFIL, List.length_take]; omega, (unhide HFIL).symm, fun _ _ => rfl, unhide HO1, unhide B1, by omega⟩
    case round =>
      obtain ⟨k, j, d, hj, hkj, rfl, rfl, hdl, hkl, hdk, hdi, hO, hbB, hBr⟩ := hrel
      have HD := hide hdl
      have HK := hide hkl
      have HDK := hide hdk
      have HDI := hide hdi
      have HO3 := hide hO
      have HB3 := hide hbB
      have f0 := fun o => hO.free o
      have k0 : (0 : Int) ≤ (k : Int) := by omega
      have k1 : (k : Int) < (l.length : Int) := by omega
      have k2 : (k : Int) ≤ (l.length : Int) := by omega
      have k3 : (k : Int) ≤ 100000000000000 := by omega
      have j0 : (0 : Int) ≤ (j : Int) := by omega
      obtain ⟨z, hz, _⟩ := get_at (l := d) (k := k) (by omega)
      obtain ⟨z0, z1, z2, z3, z4⟩ := hO.at2 hz
      clear hdl hkl hdk hdi hbB hz
      by_cases hlt : j < l.length
      · obtain ⟨x, hx, _⟩ := get_at hlt
        obtain ⟨a0, a1, a2, a3, a4⟩ := hO.at2 ((unhide HDI _ (Nat.le_refl _)).trans hx)
        have j1 : (j : Int) < (l.length : Int) := by omega
        have aY := (Below.refl wr.heap.size wr).alloc (Nat.le_refl _) (.cells #[.string x.attr, .int .i64 x.kind, .int .i64 x.level, .int .i64 x.num, .string x.word] 46)
        have hD := delK x Bo m (wr.alloc (.cells #[.string x.attr, .int .i64 x.kind, .int .i64 x.level, .int .i64 x.num, .string x.word] 46)) (((unhide HO).keep hB (unhide HB3)).keep hBr (aY.mono hBr) |>.oth (by rw [World.size_alloc]; omega)) (unhide HM) hml
        obtain ⟨x0', x1', x2', x3', x4'⟩ := cells_of_block (World.alloc_heap_new wr (.cells #[.string x.attr, .int .i64 x.kind, .int .i64 x.level, .int .i64 x.num, .string x.word] 46))
        have AY := hide aY
        have HXX := hide hx
        cases hin : inK m x with
        | true =>
          rw [show decide (x ∈ m) = true from hin] at hD
          have HN := hide (show (l.take (j + 1)).filter (inK m) = (l.take j).filter (inK m) ++ [x] by rw [fil_snoc hx, if_pos hin])
          clear hx hO aY
          go_wp2_with (go_at_call 46; refine hD.mono ?_; rintro e w2 ⟨rfl, b2⟩; have hBY : Below wr.heap.size wr w2 := below_sub (unhide AY) b2; have HBY := hide (((unhide HB3).trans (hBY.mono hBr))); have HOY := hide ((unhide HO3).below hBY); have sY := hBY.size; (obtain ⟨y0, y1, y2, y3, y4⟩ := cells_of_block ((b2.block wr.heap.size (by simp)).trans (World.alloc_heap_new wr (.cells #[.string x.attr, .int .i64 x.kind, .int .i64 x.level, .int .i64 x.num, .string x.word] 46)))); have fY := fun o => (unhide HOY).free o; (obtain ⟨v, hv, _⟩ := get_at (l := d) (k := k) (by have := unhide HD; omega)); (obtain ⟨v0, v1, v2, v3, v4⟩ := (unhide HOY).at2 hv); clear b2 hBY hv)
          go_roundw
          case rel => exact ⟨k + 1, j + 1, d.set k x, by omega, by omega, by go_num, by go_num, by rw [List.length_set]; exact unhide HD, (by rw [unhide HN, List.length_append, unhide HK]; rfl), (by rw [unhide HN, ← unhide HDK, take_snoc_of (x := x) (by rw [List.getElem?_set_self (by have := unhide HD; omega)]), List.take_set_of_le (Nat.le_refl k)]), fun t ht => (by rw [List.getElem?_set_ne (by omega)]; exact unhide HDI t (by omega)), OwnK.put (unhide HOY) (by have := unhide HD; omega) x, ((((((unhide HBY).setCell (p := ⟨g, k * 5, none⟩) hBg _).setCell (p := ⟨g, k * 5 + 1, none⟩) hBg _).setCell (p := ⟨g, k * 5 + 2, none⟩) hBg _).setCell (p := ⟨g, k * 5 + 3, none⟩) hBg _).setCell (p := ⟨g, k * 5 + 4, none⟩) hBg _), by simp; omega⟩
          case measure => simp [intOf]; omega
        | false =>
          rw [show decide (x ∈ m) = false from hin] at hD
          have HN := hide (show (l.take (j + 1)).filter (inK m) = (l.take j).filter (inK m) by rw [fil_snoc hx, if_neg (by rw [hin]; decide)])
          clear hx hO aY
          go_wp2_with (go_at_call 46; refine hD.mono ?_; rintro e w2 ⟨rfl, b2⟩; have hBY : Below wr.heap.size wr w2 := below_sub (unhide AY) b2; have HBY := hide (((unhide HB3).trans (hBY.mono hBr))); have HOY := hide ((unhide HO3).below hBY); have sY := hBY.size; clear b2 hBY)
          go_roundw
          case rel => exact ⟨k, j + 1, d, by omega, by omega, rfl, by go_num, unhide HD, (by rw [unhide HN]; exact unhide HK), (by rw [unhide HN]; exact unhide HDK), fun t ht => unhide HDI t (by omega), unhide HOY, unhide HBY, by omega⟩
          case measure => simp [intOf]; omega
      · have j1 : ¬ (j : Int) < (l.length : Int) := by omega
        have e1 : l.take j = l := List.take_of_length_le (by omega)
        have HE := hide e1
        obtain ⟨n3, hn3⟩ : ∃ n3, l.length - k = n3 := ⟨_, rfl⟩
        obtain ⟨c3, hc3⟩ : ∃ c3, cap - k = c3 := ⟨_, rfl⟩
        have nc4 : ¬ cap = k := by omega
        have nc5 : (k : Int) ≤ (cap : Int) := by omega
        have nc3 : (l.length : Int) ≤ (cap : Int) := by omega
        have hcl := fun ty => clearP wr ty g (k * 5) n3 c3 (by omega) (fun t ht => by
          have hi : (k * 5 + t) / 5 < d.length := (by have := unhide HD; omega)
          obtain ⟨u, hu, _⟩ := get_at hi
          obtain ⟨u0, u1, u2, u3, u4⟩ := hO.at2 hu
          have hm2 : k * 5 + t = (k * 5 + t) / 5 * 5 ∨ k * 5 + t = (k * 5 + t) / 5 * 5 + 1 ∨ k * 5 + t = (k * 5 + t) / 5 * 5 + 2 ∨ k * 5 + t = (k * 5 + t) / 5 * 5 + 3 ∨ k * 5 + t = (k * 5 + t) / 5 * 5 + 4 := (by omega)
          rcases hm2 with e | e | e | e | e
          · rw [e, u0]; rfl
          · rw [e, u1]; rfl
          · rw [e, u2]; rfl
          · rw [e, u3]; rfl
          · rw [e, u4]; rfl) (fun t _ => hO.free _)
        generalize hvs : (Builtin.zeroCells #[.string ⟨#[]⟩, .int .i64 0, .int .i64 0, .int .i64 0, .string ⟨#[]⟩] n3).toList = vs at hcl
        clear e1 hO hvs
        go_wp2
        go_ret
        have hke : (l.filter (inK m)).length = k := by have := unhide HK; rw [unhide HE] at this; exact this
        have hde : d.take k = l.filter (inK m) := by have := unhide HDK; rw [unhide HE] at this; exact this
        refine ⟨by rw [hke]; rfl, ?_, (unhide HB3).trans (below_cells hBg _ _ _)⟩
        have := (unhide HO3).cut (k := k) (by have := unhide HD; omega) vs
        rw [hde] at this
        exact this
  · have hidx : idxK m l = -1 := by unfold idxK; rw [if_neg hf]
    rw [hidx] at hI
    have HA := hide (fst_all hf)
    clear h ho hm hidx
    go_enter Tryz.func45, Tryz.ntmps45
    go_wp2_with (go_at_call 84; refine hI.mono ?_; rintro e w1 ⟨rfl, b1⟩; have B1 := hide b1; clear b1)
    go_ret
    rw [unhide HA]
    exact ⟨rfl, (unhide H).below (unhide B1), (unhide B1).mono hB⟩
theorem sl_lt {B c : Nat} {w : World} {q : Option Addr} {l : List Ky} (h : OwnK encK 46 5 B w q c l) {a : Addr} (e : q = some a) : a.block < w.heap.size := by
  rcases h.2 with ⟨h1, _⟩ | ⟨g, cap', cur, hv, _, hblk, _⟩
  · injection h1 with h1; rw [e] at h1; cases h1
  · injection hv with h1
    rw [e] at h1; cases h1
    exact (Array.getElem?_eq_some_iff.1 hblk).1
/-- What two lists share. -/
def shared (a b : List Ky) : List Ky := (ris a).filter (inK (ris b))
set_option maxHeartbeats 1000000 in
set_option maxRecDepth 100000 in
/-- key.Shared. -/
theorem sharedK (qa : Option Addr) (ca : Nat) (a : List Ky) (qb : Option Addr) (cb : Nat) (b : List Ky) (w : World) (ha : SlOf encK 5 w qa ca a) (hb : SlOf encK 5 w qb cb b) (la : a.length * 56 ≤ 140737488355328) (lb : b.length * 56 ≤ 140737488355328) :
    Calls Tryz.prog 17 #[.slice qa a.length ca, .slice qb b.length cb] w fun e w' => (∃ q c, e = .returned (.slice q (shared a b).length c) ∧ OwnK encK 46 5 w.heap.size w' q c (shared a b)) ∧ Below w.heap.size w w' := by
  have h1 := risingP qb cb b (by omega) w hb
  have HA := hide ha
  have l1 := ris_len a
  have l2 := ris_len b
  have hD := fun (B : Nat) (q : Option Addr) (cap Bo : Nat) (W : World) (h : OwnK encK 46 5 B W q cap (ris a)) (hB : B ≤ W.heap.size) (ho : OthB B W Bo (ris b)) => deleteK B q cap (ris a) Bo (ris b) W h hB ho (str_ris b) (by omega) (by omega)
  clear ha hb
  go_enter Tryz.func17, Tryz.ntmps17
  go_wp2_with (first
    | (go_at_call 44; have mk := B1; refine (risingP qa ca a (by omega) _ ((unhide HA).below (below_sub (unhide B1) ((Below.refl _ _).alloc (Nat.le_refl _) _)))).mono ?_; rintro e w2 ⟨⟨q2, c2, rfl, ho2⟩, b2⟩; have HO2 := hide ho2; have B2 := hide b2; clear ho2 b2 mk)
    | (go_at_call 44; refine h1.mono ?_; rintro e w1 ⟨⟨q1, c1, rfl, ho1⟩, b1⟩; have HO1 := hide ho1; have B1 := hide b1; clear ho1 b1)
    | (go_at_call 45; have aY := (Below.refl w1.heap.size w1).alloc (Nat.le_refl _) (.cells #[.slice q1 (ris b).length c1] 30); refine (hD _ q2 c2 w1.heap.size w2 (unhide HO2) (unhide B2).size ⟨q1, c1, ((unhide B2).cell (p := ⟨w1.heap.size, 0, none⟩) (by simp)).trans (Boxed.new w1 30 _).cell, by simp, (fun ad e => by have := (World.ownsRow.lt (unhide HO1)); cases e; rw [World.size_alloc]; exact Nat.lt_succ_of_lt (sl_lt (unhide HO1) rfl)), (((unhide HO1).ls).below aY).below (unhide B2)⟩).mono ?_; rintro e w3 ⟨rfl, ho3, b3⟩; have HO3 := hide (ho3.mono (B' := w.heap.size) (by rw [World.size_alloc]; have := (unhide B1).size; omega)); have B3 := hide (below_sub (unhide B1) (below_sub aY ((unhide B2).trans b3))); clear ho3 b3 aY))
  go_ret
  exact ⟨⟨q2, c2, rfl, unhide HO3⟩, unhide B3⟩
end Go.Proofs.YtedakipjfpdajaaGreatDoor
namespace Go.Proofs.YtedakipjfpdajaaGreatDoor
open Go.RowKit Go.Sort Go.Shelf

theorem compareB (x y : Ky) (w : World) : Calls Tryz.prog 19 #[.agg #[.string x.attr, .int .i64 x.kind, .int .i64 x.level, .int .i64 x.num, .string x.word], .agg #[.string y.attr, .int .i64 y.kind, .int .i64 y.level, .int .i64 y.num, .string y.word]] w fun e w' => e = .returned (.int .i64 (cmpK x y)) ∧ Below w.heap.size w w' :=
  (compareK x y w).mono fun _ _ ⟨he, q, os, hw⟩ => ⟨he, by rw [hw]; exact below_grown_any (Below.refl _ _) (Nat.le_refl _) q os⟩
theorem mem_shared {a b : List Ky} {x : Ky} : x ∈ shared a b ↔ x ∈ a ∧ x ∈ b := by
  unfold shared inK
  rw [List.mem_filter, mem_ris]
  simp [mem_ris]
theorem str_shared (a b : List Ky) : Str (shared a b) := (str_ris a).sub List.filter_sublist
theorem shared_comm (a b : List Ky) : shared a b = shared b a := str_ext (str_shared a b) (str_shared b a) fun x => by rw [mem_shared, mem_shared, And.comm]
theorem shared_left (a b : List Ky) : shared (shared a b) a = shared a b := str_ext (str_shared _ _) (str_shared a b) fun x => by rw [mem_shared, mem_shared]; constructor <;> (rintro ⟨h1, h2⟩; simp_all)
theorem shared_right (a b : List Ky) : shared b (shared a b) = shared a b := str_ext (str_shared _ _) (str_shared a b) fun x => by rw [mem_shared, mem_shared]; constructor <;> (rintro ⟨h1, h2⟩; simp_all)
theorem shared_len (a b : List Ky) : (shared a b).length ≤ a.length := Nat.le_trans (List.length_filter_le _ _) (ris_len a)
end Go.Proofs.YtedakipjfpdajaaGreatDoor

/- The statement's found: the Opens behind a crash. -/
import Derived.Test.YtfigjfmldpfjkaaGreatLA
namespace Go.Proofs.YtfigjfmldpfjkaaGreat
open Go.RowKit Go.Sort Go.Shelf

theorem sl_kpt {α : Type} [Inhabited α] {enc : α → List Value} {k : Nat} {B : Nat → Prop} {w w' : World} {q : Option Addr} {c : Nat} {l : List α} (h : SlOf enc k w q c l) (hk : Kpt B w w') (hq : 0 < l.length → ∀ p, q = some p → B p.block) : SlOf enc k w' q c l := by
  refine ⟨h.1, h.2.1, h.2.2.1, fun h0 => ?_⟩
  obtain ⟨b, off, e, hb, hA⟩ := h.2.2.2 h0
  have he := hk.block b (hq h0 _ e) hb
  exact ⟨b, off, e, Nat.lt_of_lt_of_le hb hk.size, fun j u hj => (World.cell?_of_block (w := w) (a := ⟨b, off + j, none⟩) he).trans (hA j u hj)⟩
/-- A disk behind a crash: nothing named, and what holds. -/
structure Back (A C : List Ch) (s : JS) (Z : Nat) : Prop where
  off : s.off = false
  named : s.named = 0
  acts : s.acts ≤ 10
  hold : Hold A C s.j
  fresh : szO s.f ≤ Z
theorem back_crash {A C : List Ch} {s : JS} {Z : Nat} (hh : Hold A C s.j) (hf : szO s.f ≤ Z) (cs : List Int) : Back A C (crashM s cs) Z :=
  ⟨rfl, rfl, Nat.zero_le _, hold_crash hh cs, Nat.le_trans (crash_f s cs) hf⟩
set_option maxHeartbeats 4000000 in
set_option maxRecDepth 100000 in
theorem found_js {A C : List Ch} {B : Nat → Prop} {w : World} {g : Nat} {s : JS} {Z : Nat} (hd : JAt B w g s) (hB : Sub B w) (hk : Back A C s Z) (hm : ∀ c ∈ A ++ C, MayB c) (hz : 20 + (A.length + C.length) * 4130 ≤ Z) (hZ : Z ≤ 4000000000000)
    (q : Option Addr) (c : Nat) (l : List (Int × Int × Int)) (hs : SlOf encT 3 w q c l) (hl : l.length ≤ 10) (hq : 0 < l.length → ∀ p, q = some p → B p.block) :
    Calls Tryz.prog 16 #[.pointer (some ⟨g, 0, none⟩), .slice q l.length c] w fun e w' => (∃ q' c' k, e = .returned (.tuple #[.slice q' (A ++ C.take k).length c', .bool true]) ∧ OwnK encC 63 3 w.heap.size w' q' c' (A ++ C.take k)) ∧ Kpt B w w' := by
  have HD := hide hd
  have HK := hide hk
  have HB := hide hB
  have HS := hide hs
  have HQ := hide hq
  clear hd hk hB hs hq
  go_enter Tryz.func16, Tryz.ntmps16
  go_wp2
  go_loopw [0, 23] (fun v i wr => ∃ (k g' : Nat) (s' : JS), k ≤ l.length ∧ i = .int .i64 (k : Int) ∧ v = .pointer (some ⟨g', 0, none⟩) ∧ Hid (Back A C s' Z) ∧ Hid (JAt B wr g' s') ∧ Hid (Kpt B w wr)) (fun _ i _ => l.length - (intOf i).toNat)
  case atStart => exact ⟨0, g, s, Nat.zero_le _, rfl, rfl, HK, HD, hide (Kpt.refl _ _)⟩
  case round =>
    obtain ⟨k, g', s', hkl, rfl, rfl, HK', HJ, HP⟩ := hrel
    by_cases hlt : k < l.length
    · obtain ⟨x, hx, _⟩ := get_at hlt
      obtain ⟨b, off, hq, hb, c0, c1, c2⟩ := tripAt (sl_kpt (unhide HS) (unhide HP) (unhide HQ)) hx
      obtain ⟨x0, x1, x2⟩ := x
      simp only at c0 c1 c2
      subst hq
      have ki0 : (0 : Int) ≤ (k : Int) := by omega
      have ki1 : (k : Int) < (l.length : Int) := by omega
      have hbk := unhide HK'
      obtain ⟨Y, hY⟩ : ∃ Y, wr.alloc (.cells #[.int .i64 x0, .int .i64 x1, .int .i64 x2] 90) = Y := ⟨_, rfl⟩
      have bY : Below wr.heap.size wr Y := by rw [← hY]; exact (Below.refl _ _).alloc (Nat.le_refl _) _
      have kY : Y.heap[wr.heap.size]? = some (.cells #[.int .i64 x0, .int .i64 x1, .int .i64 x2] 90 (0, 0)) := by rw [← hY]; exact heap_alloc_new _ _
      have zY : wr.heap.size < Y.heap.size := (Array.getElem?_eq_some_iff.1 kY).1
      obtain ⟨B2, hB2⟩ : ∃ B2 : Nat → Prop, ∀ i, B2 i ↔ (B i ∨ i = wr.heap.size) := ⟨fun i => B i ∨ i = wr.heap.size, fun _ => Iff.rfl⟩
      have jY : JAt B2 Y g' s' := ((unhide HJ).more fun i hi => by rcases (hB2 i).1 hi with h | h; exact Or.inl h; exact Or.inr (Or.inl (by omega))).below bY
      have uY : Sub B2 Y := fun i hi => by rcases (hB2 i).1 hi with h | h; have := (unhide HB) i h; have := (unhide HP).size; omega; omega
      have hcl : ∀ W, Kpt B2 Y W → (W.cell? ⟨wr.heap.size, 0, none⟩ = some (.int .i64 x0) ∧ W.cell? ⟨wr.heap.size, 1, none⟩ = some (.int .i64 x1)) ∧ W.cell? ⟨wr.heap.size, 2, none⟩ = some (.int .i64 x2) := fun W hW => by
        have h9 := (hW.block _ ((hB2 _).2 (Or.inr rfl)) zY).trans kY
        exact ⟨⟨cell_of_block h9 0, cell_of_block h9 1⟩, cell_of_block h9 2⟩
      have harm : ∀ (W : World) (n p : Int), JAt B2 W g' s' → Sub B2 W → n ≤ 9223372036854775807 → Calls Tryz.prog 10 #[.pointer (some ⟨g', 0, none⟩), .int .i64 n, .int .i64 p] W fun e w' => e = .returned (.int .i64 0) ∧ (∃ s1 : JS, (s1.j = s'.j ∧ s1.f = s'.f ∧ s1.off = false ∧ s1.acts = s'.acts) ∧ JAt B2 w' g' s1) ∧ Kpt B2 W w' := fun W n p h1 h2 h3 => (armJ_any h1 h2 n p h3 hbk.off).mono (by rintro e w' ⟨h4, h5, h6⟩; exact ⟨h4, ⟨{ s' with named := (max n 0).toNat, part := p }, ⟨rfl, rfl, hbk.off, rfl⟩, h5⟩, h6⟩)
      have hop : ∀ s1 : JS, (s1.j = s'.j ∧ s1.f = s'.f ∧ s1.off = false ∧ s1.acts = s'.acts) → ∀ W : World, JAt B2 W g' s1 → Sub B2 W → ((openM s1).1 = 0 ∨ (openM s1).1 = 40) ∧ Calls Tryz.prog 7 #[.pointer (some ⟨g', 0, none⟩)] W fun e w' => (∃ v0 v1 v2, e = .returned (.tuple #[v0, v1, v2, .int .i64 (openM s1).1])) ∧ (∃ s2 : JS, (Hold A C s2.j ∧ szO s2.f ≤ Z ∧ s2.acts ≤ 20) ∧ JAt B2 w' g' s2) ∧ Kpt B2 W w' := fun s1 h1 W h2 h3 => by
        have hO := hold_open (s := s1) hm h1.2.2.1 (by rw [h1.1]; exact hbk.hold) (by rw [h1.2.1]; exact hbk.fresh) hz
        have hb1 := hbk.acts
        have hac := hO.acts
        refine ⟨hO.err, (open_js h2 h3 (by rw [h1.2.2.2]; omega) (by have := hold_size hm (by rw [h1.1]; exact hbk.hold : Hold A C s1.j) hz; omega) (by have := hO.size; omega)).mono ?_⟩
        rintro e w' ⟨h4, h5, h6⟩
        exact ⟨h4, ⟨_, ⟨hO.hold, hO.fresh, by rw [h1.2.2.2] at hac; omega⟩, h5⟩, h6⟩
      have hcr : ∀ (s2 : JS) (W : World), (Hold A C s2.j ∧ szO s2.f ≤ Z ∧ s2.acts ≤ 20) → JAt B2 W g' s2 → Sub B2 W → Calls Tryz.prog 15 #[.pointer (some ⟨g', 0, none⟩), .slice (some ⟨W.heap.size, 0, none⟩) 3 3] (W.alloc (.cells #[.int .i64 x2, .int .i64 x2, .int .i64 x0] 3)) fun e w' => (∃ gf s3, e = .returned (.pointer (some ⟨gf, 0, none⟩)) ∧ Back A C s3 Z ∧ JAt B w' gf s3) ∧ Kpt B2 W w' := fun s2 W h1 h2 h3 => by
        have hb : Below W.heap.size W (W.alloc (.cells #[.int .i64 x2, .int .i64 x2, .int .i64 x0] 3)) := (Below.refl _ _).alloc (Nat.le_refl _) _
        have hgl : g' < W.heap.size := by
          obtain ⟨n, _, m, h, q, c, hi⟩ := h2
          exact (Array.getElem?_eq_some_iff.1 hi.box).1
        have hjs := hold_size hm h1.1 hz
        have h := crashJ_any (h2.below hb) (h3.trans hb.size) (by omega) (by omega) (by omega) (some ⟨W.heap.size, 0, none⟩) 3 [x2, x2, x0] (sl_three W x2 x2 x0) (by simp) (by intro _ b off e; injection e with e; injection e with e; omega)
        refine h.mono ?_
        rintro e w' ⟨⟨gf, h4, h5⟩, _, h6⟩
        exact ⟨⟨gf, _, h4, back_crash h1.1 h1.2.1 _, h5.more fun i hi => Or.inl (by have h7 := h3 i ((hB2 i).2 (Or.inl hi)); have h8 := hb.size; show i < _; omega)⟩, (Kpt.of hb).trans h6⟩
      obtain ⟨⟨v0, v1⟩, v2⟩ := hcl Y (Kpt.refl _ _)
      have HCL := hide hcl
      have HJY := hide jY
      have HUY := hide uY
      have HB2 := hide hB2
      have HOP := hide hop
      have HBY := hide bY
      clear hx hbk bY kY zY hB2 jY uY hcl hop hm hz hZ
      go_wp2
      go_region_held3 (fun W => (W.cell? ⟨wr.heap.size, 0, none⟩ = some (.int .i64 x0) ∧ W.cell? ⟨wr.heap.size, 1, none⟩ = some (.int .i64 x1)))
        (first | exact (unhide HCL _ (unhide K1)).1 | exact (unhide HCL _ ((unhide K1).trans (Kpt.of (Below.refl _ _).drew))).1 | exact (unhide HCL _ (Kpt.refl _ _)).1 | exact (unhide HCL _ (Kpt.of (Below.refl _ _).drew)).1)
        ((go_at_call 10; (first | refine (harm Y _ x1 (unhide HJY) (unhide HUY) (wrap_le _)).mono ?_ | refine (harm Y.drew _ x1 ((unhide HJY).below (Below.refl _ _).drew) (unhide HUY) (wrap_le _)).mono ?_); rintro e w1 ⟨rfl, ⟨s1, e1, d1⟩, k1⟩; have E1 := hide e1; have D1 := hide d1; have K1 : Hid (Kpt B2 Y w1) := hide (by first | exact k1 | exact (Kpt.of (Below.refl _ _).drew).trans k1); clear e1 d1 k1))
      obtain ⟨hE, hC⟩ := unhide HOP s1 (unhide E1) w1 (unhide D1) ((unhide HUY).trans (unhide K1).size)
      rcases hE with hE | hE <;> rw [hE] at hC
      all_goals
        clear hE
        go_wp2_with (first
          | (go_at_call 7; refine hC.mono ?_; rintro e w2 ⟨⟨t0, t1, t2, rfl⟩, ⟨s2, e2, d2⟩, k2⟩; have D2 := hide d2; have E2 := hide e2; have K2 := hide ((unhide K1).trans k2); obtain ⟨⟨y0, y1⟩, y2⟩ := unhide HCL w2 (unhide K2); clear d2 e2 k2)
          | (go_at_call 15; refine (hcr s2 w2 (unhide E2) (unhide D2) ((unhide HUY).trans (unhide K2).size)).mono ?_; rintro e w3 ⟨⟨gf, s3, rfl, b3, d3⟩, k3⟩; have B3 := hide b3; have D3 := hide d3; have K3 := hide (((unhide HP).trans (Kpt.of (unhide HBY))).trans (((unhide K2).trans k3).mono fun i hi => (unhide HB2 i).2 (Or.inl hi))); clear b3 d3 k3))
        go_roundw
        case rel => exact ⟨k + 1, gf, s3, by omega, by go_num, rfl, B3, D3, K3⟩
        case measure => simp [intOf]; omega
    · obtain rfl : k = l.length := by omega
      have ki1 : ¬ (l.length : Int) < (l.length : Int) := by omega
      have hbk := unhide HK'
      have hO := hold_open hm hbk.off hbk.hold hbk.fresh hz
      have h0 := open_zero hO hbk.off hbk.named
      obtain ⟨kk, hkk⟩ := hO.found
      obtain ⟨o1, o2, o3⟩ := open_twice hO h0
      have hs1 := hold_size hm hbk.hold hz
      have hs2 := hold_size hm hO.hold hz
      have ha1 := hbk.acts
      have ha2 := hO.acts
      have hsz := hO.size
      have hKl : (A ++ C.take kk).length ≤ A.length + C.length := by rw [List.length_append, List.length_take]; omega
      have c1 : Calls Tryz.prog 7 #[.pointer (some ⟨g', 0, none⟩)] wr fun e w' => (∃ gj q c X, e = .returned (.tuple #[.pointer (some ⟨gj, 0, none⟩), .int .i64 X, .slice q (A ++ C.take kk).length c, .int .i64 0]) ∧ OwnK encC 63 3 wr.heap.size w' q c (A ++ C.take kk) ∧ JAt B w' g' (openM s').2) ∧ Kpt B wr w' := by
        have h := opens_yes (unhide HJ) ((unhide HB).trans (unhide HP).size) (by omega) (by omega) (by omega) h0
        rw [hkk] at h
        refine h.mono ?_
        rintro e w' ⟨⟨gj, q, c, h1, h2, _, h4⟩, h5⟩
        exact ⟨⟨gj, q, c, _, h1, h2, h4.disk.more fun i hi => Or.inl (Or.inl hi)⟩, h5⟩
      have c2 : ∀ (B' : Nat → Prop) (W : World), JAt B' W g' (openM s').2 → Sub B' W → Calls Tryz.prog 7 #[.pointer (some ⟨g', 0, none⟩)] W fun e w' => (∃ gj q c X, e = .returned (.tuple #[.pointer (some ⟨gj, 0, none⟩), .int .i64 X, .slice q (A ++ C.take kk).length c, .int .i64 0]) ∧ OwnK encC 63 3 W.heap.size w' q c (A ++ C.take kk) ∧ JAt B' w' g' (openM s').2) ∧ Kpt B' W w' := fun B' W h1 h2 => by
        have h := opens_yes h1 h2 (by omega) (by omega) (by omega) (by rw [o1])
        rw [o1, o2, hkk] at h
        refine h.mono ?_
        rintro e w' ⟨⟨gj, q, c, h1, h2, _, h4⟩, h5⟩
        exact ⟨⟨gj, q, c, _, h1, h2, h4.disk.more fun i hi => Or.inl (Or.inl hi)⟩, h5⟩
      have c3 := fun (B' : Nat → Prop) (W : World) (h : JAt B' W g' (openM s').2) => actsJ_any h
      have c4 := fun (q q' : Option Addr) (c c' : Nat) (W : World) (h1 : SlOf encC 3 W q c (A ++ C.take kk)) (h2 : SlOf encC 3 W q' c' (A ++ C.take kk)) => sameC_any q q' c c' (A ++ C.take kk) (A ++ C.take kk) W h1 h2 (by omega) (by omega)
      rw [decide_eq_true rfl] at c4
      obtain ⟨KK, hKK⟩ : ∃ KK, A ++ C.take kk = KK := ⟨_, rfl⟩
      have HKK := hide hKK
      rw [hKK] at c1
      simp only [hKK] at c2 c4
      generalize (openM s').2 = so at *
      obtain ⟨ac, hac⟩ : ∃ ac, so.acts = ac := ⟨_, rfl⟩
      simp only [hac] at c3
      clear hm hz hZ hbk hO h0 hkk o1 o2 o3 hs1 hs2 ha1 ha2 hsz hKl hKK hac
      go_wp2_with (first
        | (go_at_call 7; (with_reducible refine (c2 (PlusRow B q1) w1 (unhide D1r) (unhide U1r)).mono ?_); rintro e w2 ⟨⟨gj2, q2, c2', X2, rfl, o2, d2⟩, k2⟩; have O2 := hide o2; have D2 := hide d2; have O12 := hide (own_kept (unhide O1) k2); have K2 := hide ((unhide K1).trans (PlusRow.less k2)); clear o2 d2 k2)
        | (go_at_call 7; (with_reducible refine c1.mono ?_); rintro e w1 ⟨⟨gj1, q1, c1', X1, rfl, o1, d1⟩, k1⟩; have O1 := hide o1; have D1 := hide d1; have D1r := hide (d1.with_row o1); have K1 := hide ((unhide HP).trans k1); have U1r := hide (((unhide HB).trans (unhide K1).size).with_row o1); clear o1 d1 k1)
        | (go_at_call 19; (with_reducible refine (c3 _ w3 ((unhide D2).below (unhide B3))).mono ?_); rintro e wa ⟨rfl, hwa⟩; obtain rfl := hwa.symm)
        | (go_at_call 19; (with_reducible refine (c3 _ w1 (unhide D1)).mono ?_); rintro e wa ⟨rfl, hwa⟩; obtain rfl := hwa.symm)
        | (go_at_call 18; refine (c4 q1 q2 c1' c2' w2 (unhide O12).ls (unhide O2).ls).mono ?_; rintro e w3 ⟨rfl, b3⟩; have B3 := hide b3; have K3 := hide ((unhide K2).trans (Kpt.of b3)); clear b3))
      refine bodyPost_ret (v := .tuple #[.slice q1 KK.length c1', .bool true]) (by simp [results, Tryz.f16, go_sem]) rfl ?_
      refine ⟨⟨q1, c1', kk, by rw [unhide HKK], ?_⟩, unhide K3⟩
      rw [unhide HKK]
      exact ((unhide O12).below (unhide B3)).mono (unhide HP).size
end Go.Proofs.YtfigjfmldpfjkaaGreat

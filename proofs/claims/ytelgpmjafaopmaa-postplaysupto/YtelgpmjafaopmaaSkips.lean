/- The law PostSkips returns true at all posts and IDs. -/
import Derived.Test.YtelgpmjafaopmaaFixed
namespace Go.Proofs.Ytelgpmjafaopmaa
open Go.RowKit Go.Sort Go.Shelf

/-- What stands at the k-th place, and whether one does. -/
def vl (l : List Pt) (k : Nat) : Pt := (l[k]?).getD (0, false)
def tl (l : List Pt) (k : Nat) : Bool := decide (k < l.length)
theorem pst_eq (l : List Pt) (k : Nat) : pstV l[k]? = .tuple #[.agg #[.int .i64 (vl l k).1, .bool (vl l k).2], .bool (tl l k)] := by
  unfold vl tl
  by_cases h : k < l.length
  · rw [List.getElem?_eq_getElem h, decide_eq_true h]; rfl
  · rw [List.getElem?_eq_none (by omega), decide_eq_false h]; rfl
theorem vl_at {l : List Pt} {k : Nat} {x : Pt} (h : l[k]? = some x) : vl l k = x := by unfold vl; rw [h]; rfl
theorem cnt_below {p : Pt → Bool} {l : List Pt} {k j : Nat} {x : Pt} (hx : l[k + j]? = some x) (hj : j < cnt p (l.drop k)) : p x = true := by
  have hm : x ∈ (l.drop k).takeWhile p := by
    rw [← (take_cnt p (l.drop k)).1]
    exact List.mem_of_getElem? (i := j) (by rw [List.getElem?_take, if_pos hj, List.getElem?_drop]; exact hx)
  exact List.all_eq_true.1 (List.all_takeWhile (p := p) (l := l.drop k)) x hm
theorem cnt_stop {p : Pt → Bool} {l : List Pt} {k : Nat} {x : Pt} (hx : l[k + cnt p (l.drop k)]? = some x) : p x = false := by
  have h2 := (take_cnt p (l.drop k)).2
  have h3 : ((l.drop k).dropWhile p).head? = some x := by rw [← h2, List.head?_drop, List.getElem?_drop]; exact hx
  have := List.head?_dropWhile_not p (l.drop k)
  rw [h3] at this
  simpa using this
theorem Cur.other {w w' : World} {C D : Nat} {q : Option Addr} {n cap k : Nat} (h : Cur w C q n cap k) (hg : w.grownBy w' (some D)) (hne : C ≠ D) : Cur w' C q n cap k := (hg.block C h.lt (by simp [hne])).trans h

set_option maxHeartbeats 4000000 in
set_option maxRecDepth 100000 in
theorem postSkips_any (p : Option Addr) (c : Nat) (posts : List Pt) (pi : Option Addr) (ci : Nat) (ids : List Int) (w : World) (hs : SlOf encP 2 w p c posts) (hi : SlOf encI 1 w pi ci ids) (hz : posts.length * 16 ≤ 140737488355328) (hzi : ids.length ≤ 100000000000000) :
    Calls Try.prog 4 #[.slice p posts.length c, .slice pi ids.length ci] w fun e w' => e = .returned (.bool true) ∧ Below w.heap.size w w' := by
  have mixed : Try.prog.follows .mixedOrders = true := by kernel_rfl
  have e18 : ∀ args w, (callFunc 18 args).run Try.prog w = .ok (.enter 18 args) w := enters_of Try.func18 (by kernel_rfl) rfl
  have e20 : ∀ args w, (callFunc 20 args).run Try.prog w = .ok (.enter 20 args) w := enters_of Try.func20 (by kernel_rfl) rfl
  have hfx := fixed_any w
  have hnew := fun (W : World) (hb : Below w.heap.size w W) => newL p c posts hz W (hs.below hb)
  have hrl := ris_len posts
  have hst := str_ris posts
  obtain ⟨l, hl⟩ : ∃ l, ris posts = l := ⟨_, rfl⟩
  rw [hl] at hnew hrl hst
  have HST := hide hst
  have HI := hide hi
  have hln : (l.length : Int) ≤ 100000000000000 := by omega
  have hid : (ids.length : Int) ≤ 100000000000000 := by omega
  clear hs hi hl hst
  go_enter Try.func4, Try.ntmps4
  go_wp2_with (first
    | (go_at_call 9; refine (cursorL _ L q cap l _ (unhide HL5)).mono ?_; rintro e w6 ⟨⟨CB, rfl, hCB, hcb⟩, hb6⟩; have HCBe := hide hCB; have HCb := hide hcb; have HCa := hide ((unhide HCa5).below hb6); have HB6 := hide ((unhide HB5).trans (hb6.mono (unhide HB5).size)); have hne : CA ≠ CB := (by have := (unhide HCa5).lt; omega); clear hcb hb6 hCB)
    | (go_at_call 9; refine (cursorL _ L q cap l _ (unhide HL4)).mono ?_; rintro e w5 ⟨⟨CA, rfl, hCA, hca⟩, hb5⟩; have HCAe := hide hCA; have HCa5 := hide hca; have HL5 := hide ((unhide HL4).below hb5); have HB5 := hide hb5; clear hca hb5 hCA)
    | (go_at_call 11; refine (allL _ L q cap l _ (by omega) (unhide HL3)).mono ?_; rintro e w4 ⟨⟨qa, ca, rfl, hoa⟩, hb4⟩; have HL4 := hide ((unhide HL3).below hb4); have HA4 := hide hoa.ls; have HB4 := hide ((unhide HB3).trans (hb4.mono (unhide HB3).size)); clear hoa hb4)
    | (go_at_call 8; refine (hnew _ (unhide HB2)).mono ?_; rintro e w3 ⟨⟨L, q, cap, rfl, hL, hlst⟩, hb3⟩; have HL3 := hide hlst; have HB3 := hide ((unhide HB2).trans (hb3.mono (unhide HB2).size)); clear hlst hb3)
    | (go_at_call 7; refine hfx.mono ?_; rintro e w2 ⟨rfl, hb2⟩; have HB2 := hide hb2; clear hb2))
  have hA := hide (unhide HA4)
  have hq := (unhide HL4).2.base
  have hsl := hide (unhide HL4).2.ls
  have hIi := hide ((unhide HI).below (unhide HB4))
  have hsz4 := (unhide HB4).size
  have hCA4 : w4.heap.size ≤ CA := by have := unhide HCAe; omega
  have hCB4 : w4.heap.size ≤ CB := by have := (unhide HB5).size; have := unhide HCBe; omega
  have hpo : ∀ (W : World) (C k : Nat), Cur W C q l.length cap k → Below w4.heap.size w4 W → k ≤ l.length → Calls Try.prog 17 #[.pointer (some ⟨C, 0, none⟩)] W fun e w' => e = .returned (.tuple #[.agg #[.int .i64 (vl l k).1, .bool (vl l k).2], .bool (tl l k)]) ∧ Below W.heap.size W w' := fun W C k hc hb hk => by
    have := postC C q cap k l W hc ((unhide hsl).below hb) hk (by omega)
    rw [pst_eq] at this
    exact this
  have hat : ∀ (W : World) (C k : Nat), Cur W C q l.length cap k → Calls Try.prog 18 #[.pointer (some ⟨C, 0, none⟩)] W fun e w' => e = .returned (.int .i64 (k : Nat)) ∧ Below W.heap.size W w' := fun W C k hc => (atC C q l.length cap k W hc).mono fun e w' ⟨he, hw⟩ => ⟨he, by rw [hw]; exact Below.refl _ _⟩
  have hle : ∀ (W : World) (C k : Nat), Cur W C q l.length cap k → k ≤ l.length → Calls Try.prog 20 #[.pointer (some ⟨C, 0, none⟩)] W fun e w' => e = .returned (.int .i64 ((l.length - k : Nat) : Int)) ∧ Below W.heap.size W w' := fun W C k hc hk => (leftC C q l.length cap k W hc hk (by omega)).mono fun e w' ⟨he, hw⟩ => ⟨he, by rw [hw]; exact (Below.refl _ _).drew⟩
  have hsk : ∀ (W : World) (k : Nat) (id : Int), Cur W CA q l.length cap k → Below w4.heap.size w4 W → k ≤ l.length → Calls Try.prog 16 #[.pointer (some ⟨CA, 0, none⟩), .int .i64 id] W fun e w' => e = .returned (.bool (tl l (k + cnt (ltD id) (l.drop k)))) ∧ Cur w' CA q l.length cap (k + cnt (ltD id) (l.drop k)) ∧ W.grownBy w' (some CA) := fun W k id hc hb hk => skipC CA q cap k l id W hc ((unhide hsl).below hb) hq (unhide HST) hk (by omega)
  have hnx : ∀ (W : World) (k : Nat), Cur W CB q l.length cap k → k < l.length → Calls Try.prog 19 #[.pointer (some ⟨CB, 0, none⟩)] W fun e w' => (∃ r : Bool, e = .returned (.bool r)) ∧ Cur w' CB q l.length cap (k + 1) ∧ W.grownBy w' (some CB) := fun W k hc hk => (nextC_in CB q l.length cap k W hc hk (by omega)).mono fun e w' ⟨he, h2, h3⟩ => ⟨⟨_, he⟩, h2, h3⟩
  clear hfx hnew HL3 HL4 HL5 HA4 HCa5 hq hL
  go_loopw [40] (fun s40 wr => ∃ i k : Nat, i ≤ ids.length ∧ s40 = .int .i64 i ∧ k ≤ l.length ∧ Cur wr CA q l.length cap k ∧ Cur wr CB q l.length cap k ∧ Below w4.heap.size w4 wr) (fun s40 _ => ids.length - (intOf s40).toNat)
  case atStart => exact ⟨0, 0, Nat.zero_le _, rfl, Nat.zero_le _, unhide HCa, unhide HCb, unhide HB6⟩
  case round =>
    obtain ⟨i, k, hi, rfl, hkl, hca, hcb, hbw⟩ := hrel
    have HCa1 := hide hca
    have HCb1 := hide hcb
    have HBw := hide hbw
    by_cases hlt : i < ids.length
    · obtain ⟨id, hid1, _⟩ := get_at hlt
      obtain ⟨bi, oi, hqi, _, c0⟩ := intAt ((unhide hIi).below hbw) hid1
      have ki0 : (0 : Int) ≤ (i : Int) := by omega
      have ki1 : (i : Int) < (ids.length : Int) := by omega
      obtain ⟨kk, hkk0⟩ : ∃ kk, k + cnt (ltD id) (l.drop k) = kk := ⟨_, rfl⟩
      have hkn : kk ≤ l.length := by have := cnt_le (ltD id) (l.drop k); rw [List.length_drop] at this; omega
      have hkk1 : k ≤ kk := by omega
      have hsk1 := hsk wr k id hca hbw hkl
      rw [hkk0] at hsk1
      have HLow := hide (fun (j : Nat) (x : Pt) (h1 : k ≤ j) (h2 : j < kk) (hx : l[j]? = some x) => (show x.1 < id from of_decide_eq_true (cnt_below (p := ltD id) (l := l) (k := k) (j := j - k) (x := x) (by rw [show k + (j - k) = j by omega]; exact hx) (by omega))))
      have HStop := hide (fun (x : Pt) (hx : l[kk]? = some x) => (show ¬ x.1 < id from of_decide_eq_false (cnt_stop (p := ltD id) (l := l) (k := k) (x := x) (by rw [hkk0]; exact hx))))
      subst hqi
      clear hca hcb hbw hkk0 hid1 hsk
      go_wp2_with (go_at_call 16; refine hsk1.mono ?_; rintro e w7 ⟨rfl, hca7, hg7⟩; have HCa7 := hide hca7; have HCb7 := hide ((unhide HCb1).other hg7 (Ne.symm hne)); have HB7 := hide ((unhide HBw).trans (below_of_grown hg7 hCA4 (unhide HBw).size)); clear hca7 hg7)
      clear hsk1
      go_loopw [47] (fun _ wi => ∃ k2 : Nat, k ≤ k2 ∧ k2 ≤ kk ∧ Cur wi CA q l.length cap kk ∧ Cur wi CB q l.length cap k2 ∧ Below w4.heap.size w4 wi) (fun _ wi => l.length - (intOf ((wi.cell? ⟨CB, 1, none⟩).getD undef)).toNat)
      case atStart => exact ⟨k, Nat.le_refl _, hkk1, unhide HCa7, unhide HCb7, unhide HB7⟩
      case round =>
        obtain ⟨k2, hk2a, hk2b, hca, hcb, hbw⟩ := hrel
        have HCaX0 := hide hca
        have HCbX0 := hide hcb
        have HBX0 := hide hbw
        have hmeas := hide hcb.cells.2.1
        clear hca hcb hbw
        by_cases hk2 : k2 < kk
        · obtain ⟨x, hx, _⟩ := get_at (l := l) (k := k2) (by omega)
          have hlow := unhide HLow k2 x hk2a hk2 hx
          have hnle : ¬ id ≤ x.1 := by omega
          have hp1 := hpo wr CB k2 (unhide HCbX0) (unhide HBX0) (by omega)
          rw [vl_at hx, show tl l k2 = true from decide_eq_true (by omega)] at hp1
          have HXK := hide hx
          clear hx
          go_wp2_with (go_at_call 17; refine hp1.mono ?_; rintro e w7b ⟨rfl, hb7b⟩; have HCaX := hide (((unhide HCaX0).below hb7b).below ((Below.refl _ _).alloc (Nat.le_refl _) (.cells #[.int .i64 x.1, .bool x.2] 43))); have HCbX := hide (((unhide HCbX0).below hb7b).below ((Below.refl _ _).alloc (Nat.le_refl _) (.cells #[.int .i64 x.1, .bool x.2] 43))); have HBX := hide (((unhide HBX0).trans (hb7b.mono (unhide HBX0).size)).alloc (Nat.le_trans (unhide HBX0).size hb7b.size) (.cells #[.int .i64 x.1, .bool x.2] 43)); obtain ⟨x0, x1⟩ := cells_of_block (World.alloc_heap_new w7b (.cells #[.int .i64 x.1, .bool x.2] 43)); clear hb7b)
          obtain ⟨W, hW⟩ : ∃ W, W = w7b.alloc (.cells #[.int .i64 x.1, .bool x.2] 43) := ⟨_, rfl⟩
          rw [← hW] at HCaX HCbX HBX x0 x1 ⊢
          clear hW
          obtain ⟨ba, oa, hqa, _, a0, a1⟩ := postAt ((unhide hA).below (unhide HBX)) (unhide HXK)
          have rx0 := cell_regrown x0
          have rx1 := cell_regrown x1
          have ra0 := cell_regrown a0
          have ra1 := cell_regrown a1
          have hnb := fun (d : Nat) (os : Array Obj) => hat (grow (redrawn W d) os) CB k2 ((unhide HCbX).below (below_regrown W d os))
          have hvv := fun W => neqP x x W
          rw [show decide (x = x) = true from decide_eq_true rfl] at hvv
          have hge : decide ((l.length : Int) ≤ (k2 : Int)) = false := decide_eq_false (by omega)
          have hge2 : decide (l.length ≤ k2) = false := decide_eq_false (by omega)
          have k20 : (0 : Int) ≤ (k2 : Int) := by omega
          have k21 : (k2 : Int) < (l.length : Int) := by omega
          subst hqa
          clear x0 x1 a0 a1 hp1
          refine wp_region_quiet_below (by assumption) (by kernel_rfl) ?_
          repeat (go_big_quiet_step (first | (go_at_fn 18; refine Calls.regrown_of (hnb _ _))))
          refine wpQuiet_nil ?_
          intro w12 hw'
          obtain ⟨⟨dq, osq⟩, hw''⟩ := hw'
          have b12 := below_regrown W dq osq
          dsimp only at hw''
          rw [← hw''] at b12
          have HB12 := hide b12
          have hnx1 := hnx w12 k2 ((unhide HCbX).below b12) (by omega)
          clear hw'' b12 rx0 rx1 ra0 ra1 hnb hvv
          go_wp2_with (go_at_call 19; refine hnx1.mono ?_; rintro e w13 ⟨⟨r13, rfl⟩, hc13, hg13⟩; have HC13 := hide hc13; have HG13 := hide hg13; clear hc13 hg13)
          go_roundw
          case rel => exact ⟨k2 + 1, by omega, by omega, ((unhide HCaX).below (unhide HB12)).other (unhide HG13) hne, unhide HC13, ((unhide HBX).trans ((unhide HB12).mono (unhide HBX).size)).trans (below_of_grown (unhide HG13) hCB4 (Nat.le_trans (unhide HBX).size (unhide HB12).size))⟩
          case measure =>
            rw [(unhide HC13).cells.2.1, unhide hmeas]
            simp only [Option.getD_some, intOf]
            omega
        · obtain rfl : k2 = kk := by omega
          by_cases hkn2 : k2 < l.length
          · obtain ⟨y, hy, _⟩ := get_at hkn2
            have hstop := unhide HStop y hy
            have hp1 := hpo wr CB k2 (unhide HCbX0) (unhide HBX0) hkn
            rw [vl_at hy, show tl l k2 = true from decide_eq_true hkn2] at hp1
            clear hy
            -- behind the inner loop: both cursors stand at k2
            go_wp2_with (first
              | (go_at_call 17; refine (hpo _ CB k2 (unhide HCb9) (unhide HB9) hkn).mono ?_; rintro e w10 ⟨rfl, hb10⟩; have HCa11 := hide (((unhide HCa9).below hb10).below ((Below.refl _ _).alloc (Nat.le_refl _) (.cells #[.int .i64 (vl l k2).1, .bool (vl l k2).2] 43))); have HCb11 := hide (((unhide HCb9).below hb10).below ((Below.refl _ _).alloc (Nat.le_refl _) (.cells #[.int .i64 (vl l k2).1, .bool (vl l k2).2] 43))); have HB11 := hide (((unhide HB9).trans (hb10.mono (unhide HB9).size)).alloc (Nat.le_trans (unhide HB9).size hb10.size) (.cells #[.int .i64 (vl l k2).1, .bool (vl l k2).2] 43)); have y0 := (((Below.refl _ _).alloc (Nat.le_refl _) (.cells #[.int .i64 (vl l k2).1, .bool (vl l k2).2] 43)).cell (p := ⟨w8.heap.size, 0, none⟩) (by have := hb10.size; simp at this; show w8.heap.size < _; omega)).trans ((hb10.cell (p := ⟨w8.heap.size, 0, none⟩) (by simp)).trans x0); have y1 := (((Below.refl _ _).alloc (Nat.le_refl _) (.cells #[.int .i64 (vl l k2).1, .bool (vl l k2).2] 43)).cell (p := ⟨w8.heap.size, 1, none⟩) (by have := hb10.size; simp at this; show w8.heap.size < _; omega)).trans ((hb10.cell (p := ⟨w8.heap.size, 1, none⟩) (by simp)).trans x1); obtain ⟨z0, z1⟩ := cells_of_block (World.alloc_heap_new w10 (.cells #[.int .i64 (vl l k2).1, .bool (vl l k2).2] 43)); clear hb10)
              | (go_at_call 17; refine (hpo _ CA k2 (unhide HCaX) (unhide HBX) hkn).mono ?_; rintro e w8 ⟨rfl, hb8⟩; have HCa9 := hide (((unhide HCaX).below hb8).below ((Below.refl _ _).alloc (Nat.le_refl _) (.cells #[.int .i64 (vl l k2).1, .bool (vl l k2).2] 43))); have HCb9 := hide (((unhide HCbX).below hb8).below ((Below.refl _ _).alloc (Nat.le_refl _) (.cells #[.int .i64 (vl l k2).1, .bool (vl l k2).2] 43))); have HB9 := hide (((unhide HBX).trans (hb8.mono (unhide HBX).size)).alloc (Nat.le_trans (unhide HBX).size hb8.size) (.cells #[.int .i64 (vl l k2).1, .bool (vl l k2).2] 43)); obtain ⟨x0, x1⟩ := cells_of_block (World.alloc_heap_new w8 (.cells #[.int .i64 (vl l k2).1, .bool (vl l k2).2] 43)); clear hb8)
              | (go_at_call 17; refine hp1.mono ?_; rintro e w7b ⟨rfl, hb7b⟩; have HCaX := hide (((unhide HCaX0).below hb7b).below ((Below.refl _ _).alloc (Nat.le_refl _) (.cells #[.int .i64 y.1, .bool y.2] 43))); have HCbX := hide (((unhide HCbX0).below hb7b).below ((Below.refl _ _).alloc (Nat.le_refl _) (.cells #[.int .i64 y.1, .bool y.2] 43))); have HBX := hide (((unhide HBX0).trans (hb7b.mono (unhide HBX0).size)).alloc (Nat.le_trans (unhide HBX0).size hb7b.size) (.cells #[.int .i64 y.1, .bool y.2] 43)); clear hb7b))
            obtain ⟨W, hW⟩ : ∃ W, W = w10.alloc (.cells #[.int .i64 (vl l k2).1, .bool (vl l k2).2] 43) := ⟨_, rfl⟩
            rw [← hW] at HCa11 HCb11 HB11 y0 y1 z0 z1 ⊢
            have hsW : W.heap.size = w10.heap.size + 1 := by rw [hW]; simp
            clear hW
            have ry0 := cell_regrown y0
            have ry1 := cell_regrown y1
            have rz0 := cell_regrown z0
            have rz1 := cell_regrown z1
            have hna := fun (d : Nat) (os : Array Obj) => hat (grow (redrawn W d) os) CA k2 ((unhide HCa11).below (below_regrown W d os))
            have hnb := fun (d : Nat) (os : Array Obj) => hat (grow (redrawn W d) os) CB k2 ((unhide HCb11).below (below_regrown W d os))
            have hla := fun (d : Nat) (os : Array Obj) => hle (grow (redrawn W d) os) CA k2 ((unhide HCa11).below (below_regrown W d os)) hkn
            have hvv := fun W => neqP (vl l k2) (vl l k2) W
            rw [show decide (vl l k2 = vl l k2) = true from decide_eq_true rfl] at hvv
            obtain ⟨dn, hdn⟩ : ∃ dn : Nat, l.length - k2 = dn := ⟨_, rfl⟩
            rw [hdn] at hla
            have hsum : ((k2 : Int) + (dn : Int) != (l.length : Int)) = false := by rw [bne_eq_false_iff_eq]; omega
            have hkk : ((k2 : Int) != (k2 : Int)) = false := by simp
            have hbb : (tl l k2 != tl l k2) = false := by simp
            have hsb : (k2 : Int) + (dn : Int) ≤ 100000000000000 := by omega
            clear y0 y1 z0 z1 x0 x1 hdn
            refine wp_region_quiet_below (by assumption) (by kernel_rfl) ?_
            repeat (go_big_quiet_step (first
              | (go_at_fn 18; with_reducible refine Calls.regrown_of (hna _ _))
              | (go_at_fn 18; with_reducible refine Calls.regrown_of (hnb _ _))
              | (go_at_fn 20; with_reducible refine Calls.regrown_of (hla _ _))))
            refine wpQuiet_nil ?_
            intro w12 hw'
            obtain ⟨⟨dq, osq⟩, hw''⟩ := hw'
            have b12 := below_regrown W dq osq
            dsimp only at hw''
            rw [← hw''] at b12
            have HB12 := hide b12
            clear hw'' b12 ry0 ry1 rz0 rz1 hna hnb hla hvv
            go_wp2
            go_roundw
            case rel => exact ⟨i + 1, k2, by omega, by go_num, hkn, (unhide HCa11).below (unhide HB12), (unhide HCb11).below (unhide HB12), (unhide HB11).trans ((unhide HB12).mono (unhide HB11).size)⟩
            case measure => simp [intOf]; omega
          · have hp1 := hpo wr CB k2 (unhide HCbX0) (unhide HBX0) hkn
            rw [show tl l k2 = false from decide_eq_false hkn2] at hp1
            -- behind the inner loop: both cursors stand at k2
            go_wp2_with (first
              | (go_at_call 17; refine (hpo _ CB k2 (unhide HCb9) (unhide HB9) hkn).mono ?_; rintro e w10 ⟨rfl, hb10⟩; have HCa11 := hide (((unhide HCa9).below hb10).below ((Below.refl _ _).alloc (Nat.le_refl _) (.cells #[.int .i64 (vl l k2).1, .bool (vl l k2).2] 43))); have HCb11 := hide (((unhide HCb9).below hb10).below ((Below.refl _ _).alloc (Nat.le_refl _) (.cells #[.int .i64 (vl l k2).1, .bool (vl l k2).2] 43))); have HB11 := hide (((unhide HB9).trans (hb10.mono (unhide HB9).size)).alloc (Nat.le_trans (unhide HB9).size hb10.size) (.cells #[.int .i64 (vl l k2).1, .bool (vl l k2).2] 43)); have y0 := (((Below.refl _ _).alloc (Nat.le_refl _) (.cells #[.int .i64 (vl l k2).1, .bool (vl l k2).2] 43)).cell (p := ⟨w8.heap.size, 0, none⟩) (by have := hb10.size; simp at this; show w8.heap.size < _; omega)).trans ((hb10.cell (p := ⟨w8.heap.size, 0, none⟩) (by simp)).trans x0); have y1 := (((Below.refl _ _).alloc (Nat.le_refl _) (.cells #[.int .i64 (vl l k2).1, .bool (vl l k2).2] 43)).cell (p := ⟨w8.heap.size, 1, none⟩) (by have := hb10.size; simp at this; show w8.heap.size < _; omega)).trans ((hb10.cell (p := ⟨w8.heap.size, 1, none⟩) (by simp)).trans x1); obtain ⟨z0, z1⟩ := cells_of_block (World.alloc_heap_new w10 (.cells #[.int .i64 (vl l k2).1, .bool (vl l k2).2] 43)); clear hb10)
              | (go_at_call 17; refine (hpo _ CA k2 (unhide HCaX) (unhide HBX) hkn).mono ?_; rintro e w8 ⟨rfl, hb8⟩; have HCa9 := hide (((unhide HCaX).below hb8).below ((Below.refl _ _).alloc (Nat.le_refl _) (.cells #[.int .i64 (vl l k2).1, .bool (vl l k2).2] 43))); have HCb9 := hide (((unhide HCbX).below hb8).below ((Below.refl _ _).alloc (Nat.le_refl _) (.cells #[.int .i64 (vl l k2).1, .bool (vl l k2).2] 43))); have HB9 := hide (((unhide HBX).trans (hb8.mono (unhide HBX).size)).alloc (Nat.le_trans (unhide HBX).size hb8.size) (.cells #[.int .i64 (vl l k2).1, .bool (vl l k2).2] 43)); obtain ⟨x0, x1⟩ := cells_of_block (World.alloc_heap_new w8 (.cells #[.int .i64 (vl l k2).1, .bool (vl l k2).2] 43)); clear hb8)
              | (go_at_call 17; refine hp1.mono ?_; rintro e w7b ⟨rfl, hb7b⟩; have HCaX := hide (((unhide HCaX0).below hb7b).below ((Below.refl _ _).alloc (Nat.le_refl _) (.cells #[.int .i64 (vl l k2).1, .bool (vl l k2).2] 43))); have HCbX := hide (((unhide HCbX0).below hb7b).below ((Below.refl _ _).alloc (Nat.le_refl _) (.cells #[.int .i64 (vl l k2).1, .bool (vl l k2).2] 43))); have HBX := hide (((unhide HBX0).trans (hb7b.mono (unhide HBX0).size)).alloc (Nat.le_trans (unhide HBX0).size hb7b.size) (.cells #[.int .i64 (vl l k2).1, .bool (vl l k2).2] 43)); clear hb7b))
            obtain ⟨W, hW⟩ : ∃ W, W = w10.alloc (.cells #[.int .i64 (vl l k2).1, .bool (vl l k2).2] 43) := ⟨_, rfl⟩
            rw [← hW] at HCa11 HCb11 HB11 y0 y1 z0 z1 ⊢
            have hsW : W.heap.size = w10.heap.size + 1 := by rw [hW]; simp
            clear hW
            have ry0 := cell_regrown y0
            have ry1 := cell_regrown y1
            have rz0 := cell_regrown z0
            have rz1 := cell_regrown z1
            have hna := fun (d : Nat) (os : Array Obj) => hat (grow (redrawn W d) os) CA k2 ((unhide HCa11).below (below_regrown W d os))
            have hnb := fun (d : Nat) (os : Array Obj) => hat (grow (redrawn W d) os) CB k2 ((unhide HCb11).below (below_regrown W d os))
            have hla := fun (d : Nat) (os : Array Obj) => hle (grow (redrawn W d) os) CA k2 ((unhide HCa11).below (below_regrown W d os)) hkn
            have hvv := fun W => neqP (vl l k2) (vl l k2) W
            rw [show decide (vl l k2 = vl l k2) = true from decide_eq_true rfl] at hvv
            obtain ⟨dn, hdn⟩ : ∃ dn : Nat, l.length - k2 = dn := ⟨_, rfl⟩
            rw [hdn] at hla
            have hsum : ((k2 : Int) + (dn : Int) != (l.length : Int)) = false := by rw [bne_eq_false_iff_eq]; omega
            have hkk : ((k2 : Int) != (k2 : Int)) = false := by simp
            have hbb : (tl l k2 != tl l k2) = false := by simp
            have hsb : (k2 : Int) + (dn : Int) ≤ 100000000000000 := by omega
            clear y0 y1 z0 z1 x0 x1 hdn
            refine wp_region_quiet_below (by assumption) (by kernel_rfl) ?_
            repeat (go_big_quiet_step (first
              | (go_at_fn 18; with_reducible refine Calls.regrown_of (hna _ _))
              | (go_at_fn 18; with_reducible refine Calls.regrown_of (hnb _ _))
              | (go_at_fn 20; with_reducible refine Calls.regrown_of (hla _ _))))
            refine wpQuiet_nil ?_
            intro w12 hw'
            obtain ⟨⟨dq, osq⟩, hw''⟩ := hw'
            have b12 := below_regrown W dq osq
            dsimp only at hw''
            rw [← hw''] at b12
            have HB12 := hide b12
            clear hw'' b12 ry0 ry1 rz0 rz1 hna hnb hla hvv
            go_wp2
            go_roundw
            case rel => exact ⟨i + 1, k2, by omega, by go_num, hkn, (unhide HCa11).below (unhide HB12), (unhide HCb11).below (unhide HB12), (unhide HB11).trans ((unhide HB12).mono (unhide HB11).size)⟩
            case measure => simp [intOf]; omega
    · have ki1 : ¬ (i : Int) < (ids.length : Int) := by omega
      clear hca hcb hbw hsk
      go_wp2
      go_loopw [149] (fun _ wi => ∃ k2 : Nat, k2 ≤ l.length ∧ Cur wi CB q l.length cap k2 ∧ Below w4.heap.size w4 wi) (fun _ wi => l.length - (intOf ((wi.cell? ⟨CB, 1, none⟩).getD undef)).toNat)
      case atStart => exact ⟨k, hkl, unhide HCb1, unhide HBw⟩
      case round =>
        obtain ⟨k2, hk2, hcb, hbw⟩ := hrel
        have HCbX0 := hide hcb
        have HBX0 := hide hbw
        have hmeas := hide hcb.cells.2.1
        have hl0 := hle wr CB k2 hcb hk2
        clear hcb hbw
        by_cases hk2l : k2 < l.length
        · obtain ⟨x, hx, _⟩ := get_at hk2l
          obtain ⟨dn, hdn⟩ : ∃ dn : Nat, l.length - k2 = dn + 1 := ⟨l.length - k2 - 1, by omega⟩
          rw [hdn] at hl0
          have hd0 : (0 : Int) < ((dn + 1 : Nat) : Int) := by omega
          have k20 : (0 : Int) ≤ (k2 : Int) := by omega
          have k21 : (k2 : Int) < (l.length : Int) := by omega
          have HXK := hide hx
          have hvx := hide (vl_at hx)
          clear hx hdn
          go_wp2_with (first
            | (go_at_call 17; refine (hpo _ CB k2 (unhide HCb8) (unhide HB8) hk2).mono ?_; rw [unhide hvx, show tl l k2 = true from decide_eq_true hk2l]; rintro e w9 ⟨rfl, hb9⟩; have HCbX := hide (((unhide HCb8).below hb9).below ((Below.refl _ _).alloc (Nat.le_refl _) (.cells #[.int .i64 x.1, .bool x.2] 43))); have HBX := hide (((unhide HB8).trans (hb9.mono (unhide HB8).size)).alloc (Nat.le_trans (unhide HB8).size hb9.size) (.cells #[.int .i64 x.1, .bool x.2] 43)); obtain ⟨x0, x1⟩ := cells_of_block (World.alloc_heap_new w9 (.cells #[.int .i64 x.1, .bool x.2] 43)); clear hb9)
            | (go_at_call 18; refine (hat _ CB k2 (unhide HCb7b)).mono ?_; rintro e w8 ⟨rfl, hb8⟩; have HCb8 := hide ((unhide HCb7b).below hb8); have HB8 := hide ((unhide HB7b).trans (hb8.mono (unhide HB7b).size)); clear hb8)
            | (go_at_call 20; refine hl0.mono ?_; rintro e w7 ⟨rfl, hb7⟩; have HCb7b := hide ((unhide HCbX0).below hb7); have HB7b := hide ((unhide HBX0).trans (hb7.mono (unhide HBX0).size)); clear hb7))
          obtain ⟨W, hW⟩ : ∃ W, W = w9.alloc (.cells #[.int .i64 x.1, .bool x.2] 43) := ⟨_, rfl⟩
          rw [← hW] at HCbX HBX x0 x1 ⊢
          clear hW
          obtain ⟨ba, oa, hqa, _, a0, a1⟩ := postAt ((unhide hA).below (unhide HBX)) (unhide HXK)
          have rx0 := cell_regrown x0
          have rx1 := cell_regrown x1
          have ra0 := cell_regrown a0
          have ra1 := cell_regrown a1
          have hnb := fun (d : Nat) (os : Array Obj) => hat (grow (redrawn W d) os) CB k2 ((unhide HCbX).below (below_regrown W d os))
          have hvv := fun W => neqP x x W
          rw [show decide (x = x) = true from decide_eq_true rfl] at hvv
          subst hqa
          clear x0 x1 a0 a1 hl0
          refine wp_region_quiet_below (by assumption) (by kernel_rfl) ?_
          repeat (go_big_quiet_step (first | (go_at_fn 18; refine Calls.regrown_of (hnb _ _))))
          refine wpQuiet_nil ?_
          intro w12 hw'
          obtain ⟨⟨dq, osq⟩, hw''⟩ := hw'
          have b12 := below_regrown W dq osq
          dsimp only at hw''
          rw [← hw''] at b12
          have HB12 := hide b12
          have hnx1 := hnx w12 k2 ((unhide HCbX).below b12) hk2l
          clear hw'' b12 rx0 rx1 ra0 ra1 hnb hvv
          go_wp2_with (go_at_call 19; refine hnx1.mono ?_; rintro e w13 ⟨⟨r13, rfl⟩, hc13, hg13⟩; have HC13 := hide hc13; have HG13 := hide hg13; clear hc13 hg13)
          go_roundw
          case rel => exact ⟨k2 + 1, by omega, unhide HC13, ((unhide HBX).trans ((unhide HB12).mono (unhide HBX).size)).trans (below_of_grown (unhide HG13) hCB4 (Nat.le_trans (unhide HBX).size (unhide HB12).size))⟩
          case measure =>
            rw [(unhide HC13).cells.2.1, unhide hmeas]
            simp only [Option.getD_some, intOf]
            omega
        · obtain rfl : k2 = l.length := by omega
          rw [Nat.sub_self] at hl0
          have hll : ((l.length : Int) == (l.length : Int)) = true := by simp
          go_wp2_with (first
            | (go_at_call 18; refine (hat _ CB l.length (unhide HCb7b)).mono ?_; rintro e w8 ⟨rfl, hb8⟩; have HB8 := hide ((unhide HB7b).trans (hb8.mono (unhide HB7b).size)); clear hb8)
            | (go_at_call 20; refine hl0.mono ?_; rintro e w7 ⟨rfl, hb7⟩; have HCb7b := hide ((unhide HCbX0).below hb7); have HB7b := hide ((unhide HBX0).trans (hb7.mono (unhide HBX0).size)); clear hb7))
          go_ret
          exact ⟨rfl, (unhide HB4).trans ((unhide HB8).mono hsz4)⟩
end Go.Proofs.Ytelgpmjafaopmaa

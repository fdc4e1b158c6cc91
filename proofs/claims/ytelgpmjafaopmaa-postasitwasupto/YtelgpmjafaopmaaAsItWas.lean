/- The law PostAsItWas returns true. -/
import Derived.Test.YtelgpmjafaopmaaAsPlain
namespace Go.Proofs.Ytelgpmjafaopmaa
open Go.RowKit Go.Sort Go.Shelf

theorem mem_len {l posts more : List Pt} (h : Str l) (hm : ∀ x, x ∈ l → x ∈ posts ++ more) : l.length ≤ posts.length + more.length := by
  have h1 := str_len_sub h (str_ris (posts ++ more)) fun x hx => mem_ris.2 (hm x hx)
  have h2 := ris_len (posts ++ more)
  rw [List.length_append] at h2
  omega
set_option maxHeartbeats 8000000 in
set_option maxRecDepth 100000 in
theorem postAsItWas_any (p : Option Addr) (c : Nat) (posts : List Pt) (pm : Option Addr) (cm : Nat) (more : List Pt) (pi : Option Addr) (ci : Nat) (ids : List Int) (w : World) (hs : SlOf encP 2 w p c posts) (hm : SlOf encP 2 w pm cm more) (hi : SlOf encI 1 w pi ci ids) (hz : posts.length ≤ 1048576) (hzm : more.length ≤ 1048576) (hzi : ids.length ≤ 1048576) :
    Calls Try.prog 6 #[.slice p posts.length c, .slice pm more.length cm, .slice pi ids.length ci] w fun e w' => e = .returned (.bool true) ∧ Below w.heap.size w w' := by
  have mixed : Try.prog.follows .mixedOrders = true := by kernel_rfl
  have e20 : ∀ args w, (callFunc 20 args).run Try.prog w = .ok (.enter 20 args) w := enters_of Try.func20 (by kernel_rfl) rfl
  have hfx := fixed_any w
  have hnew := fun (W : World) (hb : Below w.heap.size w W) => newL p c posts (by omega) W (hs.below hb)
  have hrl := ris_len posts
  have hst := str_ris posts
  have hmm := fun x => (mem_ris (x := x) (l := posts)).1
  obtain ⟨l0, hl⟩ : ∃ l0, ris posts = l0 := ⟨_, rfl⟩
  rw [hl] at hnew hrl hst hmm
  have HST := hide hst
  have HMM := hide hmm
  have HM := hide hm
  have HI := hide hi
  have hln : (l0.length : Int) ≤ 1048576 := by omega
  clear hs hm hi hl hst hmm
  go_enter Try.func6, Try.ntmps6
  go_wp2_with (first
    | (go_at_call 9; refine (cursorL _ L q0 cap0 l0 _ (unhide HL4)).mono ?_; rintro e w5 ⟨⟨C, rfl, hC, hc5⟩, hb5⟩; have HCe := hide hC; have HC5 := hide hc5; have HL5 := hide ((unhide HL4).below hb5); have HW5 := hide ((unhide HW4).below hb5); have HB5 := hide ((unhide HB4).trans (hb5.mono (unhide HB4).size)); clear hC hc5 hb5)
    | (go_at_call 11; refine (allL _ L q0 cap0 l0 _ (by omega) (unhide HL3)).mono ?_; rintro e w4 ⟨⟨qw, cw, rfl, ho4⟩, hb4⟩; have HW4 := hide ho4; have HL4 := hide ((unhide HL3).below hb4); have hs34 := hb4.size; have HB4 := hide ((unhide HB3).trans (hb4.mono (unhide HB3).size)); have HSep0 : Hid (Sep qw q0) := hide (fun a a1 e1 e2 => by have h1 := (World.ownsRow.lt ho4 a.block (by rw [own_block, e1]; rfl)).1; have h2 := own_lt (unhide HL3).2 a1 e2; omega); clear ho4 hb4)
    | (go_at_call 8; refine (hnew _ (unhide HB2)).mono ?_; rintro e w3 ⟨⟨L, q0, cap0, rfl, hLB, hl3⟩, hb3⟩; have HL3 := hide hl3; have HB3 := hide hb3; clear hl3 hb3)
    | (go_at_call 7; refine hfx.mono ?_; rintro e w2 ⟨rfl, hb2⟩; have HB2 := hide hb2; clear hb2))
  clear hfx hnew
  have hsz2 := (unhide HB2).size
  have HMo := hide ((unhide HM).below (unhide HB2))
  have HId := hide ((unhide HI).below (unhide HB2))
  have hC4 : w3.heap.size ≤ C := by have := unhide HCe; omega
  have hCB : w2.heap.size ≤ C := by have := (unhide HB3).size; omega
  go_loopw [10] (fun s10 wr => ∃ (i : Nat) (q : Option Addr) (cap : Nat) (l : List Pt), i ≤ l0.length ∧ s10 = .int .i64 i ∧ Lst wr w2.heap.size L q cap l ∧ Str l ∧ (∀ x, x ∈ l → x ∈ posts ++ more) ∧ Cur wr C q0 l0.length cap0 i ∧ Row0 wr q0 cap0 l0 q l ∧ OwnK encP 43 2 w3.heap.size wr qw cw l0 ∧ Sep qw q ∧ Below w2.heap.size w2 wr) (fun s10 _ => l0.length - (intOf s10).toNat)
  case atStart => exact ⟨0, q0, cap0, l0, Nat.zero_le _, rfl, unhide HL5, unhide HST, fun x hx => List.mem_append_left _ (unhide HMM x hx), unhide HC5, ⟨(unhide HL5).2.ls, Or.inl ⟨rfl, List.prefix_refl _⟩⟩, unhide HW5, unhide HSep0, unhide HB5⟩
  case round =>
    obtain ⟨i, q, cap, l, hi, rfl, hLr, hstl, hmem, hcr, hr0, hwr, hsep, hbw⟩ := hrel
    have HL0 := hide hLr
    have HC0 := hide hcr
    have HR0 := hide hr0
    have HW0 := hide hwr
    have HSep := hide hsep
    have HB0 := hide hbw
    have HStl := hide hstl
    have HMem := hide hmem
    have hll := mem_len hstl hmem
    clear hLr hstl hmem hcr hr0 hwr hsep hbw
    by_cases hlt : i < l0.length
    · obtain ⟨x, hx, _⟩ := get_at hlt
      obtain ⟨g0, hq0, _, hg3, _⟩ := (unhide HL3).2.some_of (by omega)
      have hgL : g0 ≠ L := by
        have := (unhide HL3).ne
        rw [hq0] at this
        intro e
        rw [e] at this
        exact this rfl
      have hgC : g0 ≠ C := by omega
      subst hq0
      have HXK := hide hx
      have hg0 : g0 < wr.heap.size := by have := (unhide HC0).lt; omega
      have hpo : ∀ (W : World), Cur W C (some ⟨g0, 0, none⟩) l0.length cap0 i → SlOf encP 2 W (some ⟨g0, 0, none⟩) cap0 l0 → Calls Try.prog 17 #[.pointer (some ⟨C, 0, none⟩)] W fun e w' => e = .returned (.tuple #[.agg #[.int .i64 x.1, .bool x.2], .bool true]) ∧ Below W.heap.size W w' := fun W h1 h2 => by
        have := postC C (some ⟨g0, 0, none⟩) cap0 i l0 W h1 h2 (by omega) (by omega)
        rw [unhide HXK] at this
        exact this
      obtain ⟨dn, hdn⟩ : ∃ dn : Nat, l0.length - i = dn := ⟨_, rfl⟩
      have hle : ∀ (W : World), Cur W C (some ⟨g0, 0, none⟩) l0.length cap0 i → Calls Try.prog 20 #[.pointer (some ⟨C, 0, none⟩)] W fun e w' => e = .returned (.int .i64 (dn : Int)) ∧ Below W.heap.size W w' := fun W hc => by
        have := leftC C (some ⟨g0, 0, none⟩) l0.length cap0 i W hc (by omega) (by omega)
        rw [hdn] at this
        exact this.mono fun e w' ⟨he, hw⟩ => ⟨he, by rw [hw]; exact (Below.refl _ _).drew⟩
      have hnw : IntKind.i64.wrap ((l0.length : Int) - (i : Int)) = (dn : Int) := by
        rw [show (l0.length : Int) - (i : Int) = (dn : Int) by omega]; exact wrap_nat dn (by omega)
      have hdd : ((dn : Int) != (dn : Int)) = false := by simp
      have ki0 : (0 : Int) ≤ (i : Int) := by omega
      have ki1 : (i : Int) < (l0.length : Int) := by omega
      clear hx hdn
      have hr3 : i % 3 = 0 ∨ i % 3 = 1 ∨ i % 3 = 2 := by omega
      rcases hr3 with hr3 | hr3 | hr3
      · have h3a : (i : Int) % 3 = 0 := by omega
        have h3b : Int.tmod (i : Int) 3 = 0 := by rw [Int.tmod_eq_emod_of_nonneg ki0]; exact h3a
        have hadd := addL2 w2.heap.size L q cap l pm cm more wr (unhide HL0) (unhide HStl) ((unhide HMo).below (unhide HB0)) (unhide HB0).size (by omega)
        have HSt6 := hide (str_ris (l ++ more))
        have HMem6 := hide (fun x (hx : x ∈ ris (l ++ more)) => (List.mem_append.1 (mem_ris.1 hx)).elim (unhide HMem x) (fun h => List.mem_append_right _ h))
        generalize ris (l ++ more) = l6 at hadd HSt6 HMem6
        generalize (l6.length - l.length : Nat) = nn at hadd
        clear hr3
        go_wp2_with (first
          | (go_at_call 17; refine (hpo _ (unhide HC6) (unhide HR6).1).mono ?_; rintro e w7 ⟨rfl, hb7⟩; have hb7a : Below w6.heap.size w6 (w7.alloc (.cells #[.int .i64 x.1, .bool x.2] 43)) := hb7.alloc hb7.size _; have HL8 := hide ((unhide HL6).below hb7a); have HR8 := hide (row0_below (unhide HR6) hb7a); have HC8 := hide ((unhide HC6).below hb7a); have HW8 := hide ((unhide HW6).below hb7a); have HB8 := hide ((unhide HB6).trans (hb7a.mono (unhide HB6).size)); obtain ⟨x0, x1⟩ := cells_of_block (World.alloc_heap_new w7 (.cells #[.int .i64 x.1, .bool x.2] 43)); clear hb7 hb7a)
          | (go_at_call 21; refine hadd.mono ?_; rintro e w6 ⟨rfl, q6, cap6, w1, hs1, hb1, ho1, hw, hpf⟩; have HL6 := hide (show Lst w6 w2.heap.size L q6 cap6 l6 from hw ▸ ((unhide HL0).put hs1 ho1).2); have HR6 := hide (show Row0 w6 (some ⟨g0, 0, none⟩) cap0 l0 q6 l6 from hw ▸ row0_step (unhide HL0) (unhide HR0) hs1 ho1 hpf hgL hg0); have HC6 := hide (show Cur w6 C (some ⟨g0, 0, none⟩) l0.length cap0 i from hw ▸ cur_step (unhide HL0) (unhide HC0) hs1 _); have HW6 := hide (show OwnK encP 43 2 w3.heap.size w6 qw cw l0 from hw ▸ row_turned (unhide HL0) (unhide HW0) hs1 (unhide HSep) _); have HSep6 := hide (sep_step (unhide HSep) hs1 (own_lt (unhide HW0))); have HB6 := hide (show Below w2.heap.size w2 w6 from hw ▸ ((unhide HB0).trans hb1).setCell (p := ⟨L, 0, none⟩) hLB _); clear hs1 hb1 ho1 hw hpf))
        obtain ⟨W, hW⟩ : ∃ W, W = w7.alloc (.cells #[.int .i64 x.1, .bool x.2] 43) := ⟨_, rfl⟩
        rw [← hW] at HL8 HR8 HC8 HW8 HB8 x0 x1 ⊢
        clear hW
        obtain ⟨bw, ow, hqw, _, a0, a1⟩ := postAt (unhide HW8).ls (unhide HXK)
        have rx0 := cell_regrown x0
        have rx1 := cell_regrown x1
        have ra0 := cell_regrown a0
        have ra1 := cell_regrown a1
        have hlf := fun (d : Nat) (os : Array Obj) => hle (grow (redrawn W d) os) ((unhide HC8).below (below_regrown W d os))
        have hvv := fun W => neqP x x W
        rw [show decide (x = x) = true from decide_eq_true rfl] at hvv
        subst hqw
        clear x0 x1 a0 a1
        refine wp_region_quiet_below (by assumption) (by kernel_rfl) ?_
        repeat (go_big_quiet_step (first | (go_at_fn 20; refine Calls.regrown_of (hlf _ _))))
        refine wpQuiet_nil ?_
        intro w12 hw'
        obtain ⟨⟨dq, osq⟩, hw''⟩ := hw'
        have b12 := below_regrown W dq osq
        dsimp only at hw''
        rw [← hw''] at b12
        have HB12 := hide b12
        have hnx1 := nextC_in C (some ⟨g0, 0, none⟩) l0.length cap0 i w12 ((unhide HC8).below b12) hlt (by omega)
        clear hw'' b12 rx0 rx1 ra0 ra1 hlf hvv
        go_wp2_with (go_at_call 19; refine hnx1.mono ?_; rintro e w13 ⟨rfl, hc13, hg13⟩; have HC13 := hide hc13; have HG13 := hide hg13; clear hc13 hg13)
        go_roundw
        case rel => exact ⟨i + 1, q6, cap6, l6, by omega, by go_num, ((unhide HL8).below (unhide HB12)).cur ((unhide HC8).below (unhide HB12)) (unhide HG13), unhide HSt6, unhide HMem6, unhide HC13, row0_cur (row0_below (unhide HR8) (unhide HB12)) (unhide HG13) hgC (by have := ((unhide HC8).below (unhide HB12)).lt; omega), own_cur ((unhide HW8).below (unhide HB12)) ((unhide HC8).below (unhide HB12)) (unhide HG13), unhide HSep6, ((unhide HB8).trans ((unhide HB12).mono (unhide HB8).size)).trans (below_of_grown (unhide HG13) hCB (Nat.le_trans (unhide HB8).size (unhide HB12).size))⟩
        case measure => simp [intOf]; omega
      · have h3a : (i : Int) % 3 = 1 := by omega
        have h3b : Int.tmod (i : Int) 3 = 1 := by rw [Int.tmod_eq_emod_of_nonneg ki0]; exact h3a
        have hdrop := dropL2 w2.heap.size L q cap l pi ci ids wr (unhide HL0) ((unhide HId).below (unhide HB0)) (unhide HB0).size (by omega) (by omega)
        have HSt6 := hide (str_wo (unhide HStl) ids)
        have HMem6 := hide (fun x (hx : x ∈ wo l ids) => unhide HMem x ((List.mem_filter.1 hx).1))
        generalize wo l ids = l6 at hdrop HSt6 HMem6
        generalize (l.length - l6.length : Nat) = nn at hdrop
        clear hr3
        go_wp2_with (first
          | (go_at_call 17; refine (hpo _ (unhide HC6) (unhide HR6).1).mono ?_; rintro e w7 ⟨rfl, hb7⟩; have hb7a : Below w6.heap.size w6 (w7.alloc (.cells #[.int .i64 x.1, .bool x.2] 43)) := hb7.alloc hb7.size _; have HL8 := hide ((unhide HL6).below hb7a); have HR8 := hide (row0_below (unhide HR6) hb7a); have HC8 := hide ((unhide HC6).below hb7a); have HW8 := hide ((unhide HW6).below hb7a); have HB8 := hide ((unhide HB6).trans (hb7a.mono (unhide HB6).size)); obtain ⟨x0, x1⟩ := cells_of_block (World.alloc_heap_new w7 (.cells #[.int .i64 x.1, .bool x.2] 43)); clear hb7 hb7a)
          | (go_at_call 22; refine hdrop.mono ?_; rintro e w6 ⟨rfl, q6, cap6, w1, hs1, hb1, ho1, hw, hpf⟩; have HL6 := hide (show Lst w6 w2.heap.size L q6 cap6 l6 from hw ▸ ((unhide HL0).put hs1 ho1).2); have HR6 := hide (show Row0 w6 (some ⟨g0, 0, none⟩) cap0 l0 q6 l6 from hw ▸ row0_step (unhide HL0) (unhide HR0) hs1 ho1 hpf hgL hg0); have HC6 := hide (show Cur w6 C (some ⟨g0, 0, none⟩) l0.length cap0 i from hw ▸ cur_step (unhide HL0) (unhide HC0) hs1 _); have HW6 := hide (show OwnK encP 43 2 w3.heap.size w6 qw cw l0 from hw ▸ row_turned (unhide HL0) (unhide HW0) hs1 (unhide HSep) _); have HSep6 := hide (sep_step (unhide HSep) hs1 (own_lt (unhide HW0))); have HB6 := hide (show Below w2.heap.size w2 w6 from hw ▸ ((unhide HB0).trans hb1).setCell (p := ⟨L, 0, none⟩) hLB _); clear hs1 hb1 ho1 hw hpf))
        obtain ⟨W, hW⟩ : ∃ W, W = w7.alloc (.cells #[.int .i64 x.1, .bool x.2] 43) := ⟨_, rfl⟩
        rw [← hW] at HL8 HR8 HC8 HW8 HB8 x0 x1 ⊢
        clear hW
        obtain ⟨bw, ow, hqw, _, a0, a1⟩ := postAt (unhide HW8).ls (unhide HXK)
        have rx0 := cell_regrown x0
        have rx1 := cell_regrown x1
        have ra0 := cell_regrown a0
        have ra1 := cell_regrown a1
        have hlf := fun (d : Nat) (os : Array Obj) => hle (grow (redrawn W d) os) ((unhide HC8).below (below_regrown W d os))
        have hvv := fun W => neqP x x W
        rw [show decide (x = x) = true from decide_eq_true rfl] at hvv
        subst hqw
        clear x0 x1 a0 a1
        refine wp_region_quiet_below (by assumption) (by kernel_rfl) ?_
        repeat (go_big_quiet_step (first | (go_at_fn 20; refine Calls.regrown_of (hlf _ _))))
        refine wpQuiet_nil ?_
        intro w12 hw'
        obtain ⟨⟨dq, osq⟩, hw''⟩ := hw'
        have b12 := below_regrown W dq osq
        dsimp only at hw''
        rw [← hw''] at b12
        have HB12 := hide b12
        have hnx1 := nextC_in C (some ⟨g0, 0, none⟩) l0.length cap0 i w12 ((unhide HC8).below b12) hlt (by omega)
        clear hw'' b12 rx0 rx1 ra0 ra1 hlf hvv
        go_wp2_with (go_at_call 19; refine hnx1.mono ?_; rintro e w13 ⟨rfl, hc13, hg13⟩; have HC13 := hide hc13; have HG13 := hide hg13; clear hc13 hg13)
        go_roundw
        case rel => exact ⟨i + 1, q6, cap6, l6, by omega, by go_num, ((unhide HL8).below (unhide HB12)).cur ((unhide HC8).below (unhide HB12)) (unhide HG13), unhide HSt6, unhide HMem6, unhide HC13, row0_cur (row0_below (unhide HR8) (unhide HB12)) (unhide HG13) hgC (by have := ((unhide HC8).below (unhide HB12)).lt; omega), own_cur ((unhide HW8).below (unhide HB12)) ((unhide HC8).below (unhide HB12)) (unhide HG13), unhide HSep6, ((unhide HB8).trans ((unhide HB12).mono (unhide HB8).size)).trans (below_of_grown (unhide HG13) hCB (Nat.le_trans (unhide HB8).size (unhide HB12).size))⟩
        case measure => simp [intOf]; omega
      · have h3a : (i : Int) % 3 = 2 := by omega
        have h3b : Int.tmod (i : Int) 3 = 2 := by rw [Int.tmod_eq_emod_of_nonneg ki0]; exact h3a
        obtain ⟨bw0, ow0, hqw0, _, b0, b1⟩ := postAt (unhide HW0).ls (unhide HXK)
        have hb0 : Below wr.heap.size wr (wr.alloc (.cells #[.int .i64 x.1] 3)) := (Below.refl _ _).alloc (Nat.le_refl _) _
        have HL1 := hide ((unhide HL0).below hb0)
        have HC1 := hide ((unhide HC0).below hb0)
        have HR1 := hide (row0_below (unhide HR0) hb0)
        have HW1 := hide ((unhide HW0).below hb0)
        have HB1 := hide ((unhide HB0).trans (hb0.mono (unhide HB0).size))
        have hg1 : g0 < (wr.alloc (.cells #[.int .i64 x.1] 3)).heap.size := by rw [World.size_alloc]; omega
        have hdrop := dropL2 w2.heap.size L q cap l (some ⟨wr.heap.size, 0, none⟩) 1 [x.1] (wr.alloc (.cells #[.int .i64 x.1] 3)) (unhide HL1) (slBlockI (World.alloc_heap_new wr _) rfl (by show 1 ≤ maxLen; unfold maxLen; decide)) (unhide HB1).size (by omega) (by show 1 * 8 ≤ _; decide)
        rw [show [x.1].length = 1 from rfl] at hdrop
        have HSt6 := hide (str_wo (unhide HStl) [x.1])
        have HMem6 := hide (fun y (hy : y ∈ wo l [x.1]) => unhide HMem y ((List.mem_filter.1 hy).1))
        generalize wo l [x.1] = l6 at hdrop HSt6 HMem6
        generalize (l.length - l6.length : Nat) = nn at hdrop
        subst hqw0
        clear hr3 hb0
        go_wp2_with (first
          | (go_at_call 17; refine (hpo _ (unhide HC6) (unhide HR6).1).mono ?_; rintro e w7 ⟨rfl, hb7⟩; have hb7a : Below w6.heap.size w6 (w7.alloc (.cells #[.int .i64 x.1, .bool x.2] 43)) := hb7.alloc hb7.size _; have HL8 := hide ((unhide HL6).below hb7a); have HR8 := hide (row0_below (unhide HR6) hb7a); have HC8 := hide ((unhide HC6).below hb7a); have HW8 := hide ((unhide HW6).below hb7a); have HB8 := hide ((unhide HB6).trans (hb7a.mono (unhide HB6).size)); obtain ⟨x0, x1⟩ := cells_of_block (World.alloc_heap_new w7 (.cells #[.int .i64 x.1, .bool x.2] 43)); clear hb7 hb7a)
          | (go_at_call 22; refine hdrop.mono ?_; rintro e w6 ⟨rfl, q6, cap6, w1, hs1, hb1, ho1, hw, hpf⟩; have HL6 := hide (show Lst w6 w2.heap.size L q6 cap6 l6 from hw ▸ ((unhide HL1).put hs1 ho1).2); have HR6 := hide (show Row0 w6 (some ⟨g0, 0, none⟩) cap0 l0 q6 l6 from hw ▸ row0_step (unhide HL1) (unhide HR1) hs1 ho1 hpf hgL hg1); have HC6 := hide (show Cur w6 C (some ⟨g0, 0, none⟩) l0.length cap0 i from hw ▸ cur_step (unhide HL1) (unhide HC1) hs1 _); have HW6 := hide (show OwnK encP 43 2 w3.heap.size w6 (some ⟨bw0, ow0, none⟩) cw l0 from hw ▸ row_turned (unhide HL1) (unhide HW1) hs1 (unhide HSep) _); have HSep6 := hide (sep_step (unhide HSep) hs1 (own_lt (unhide HW1))); have HB6 := hide (show Below w2.heap.size w2 w6 from hw ▸ ((unhide HB1).trans hb1).setCell (p := ⟨L, 0, none⟩) hLB _); clear hs1 hb1 ho1 hw hpf))
        obtain ⟨W, hW⟩ : ∃ W, W = w7.alloc (.cells #[.int .i64 x.1, .bool x.2] 43) := ⟨_, rfl⟩
        rw [← hW] at HL8 HR8 HC8 HW8 HB8 x0 x1 ⊢
        clear hW
        obtain ⟨bw, ow, hqw, _, a0, a1⟩ := postAt (unhide HW8).ls (unhide HXK)
        obtain ⟨rfl, rfl⟩ : bw0 = bw ∧ ow0 = ow := by injection hqw with hqw; injection hqw with h1 h2 _; exact ⟨h1, h2⟩
        have rx0 := cell_regrown x0
        have rx1 := cell_regrown x1
        have ra0 := cell_regrown a0
        have ra1 := cell_regrown a1
        have hlf := fun (d : Nat) (os : Array Obj) => hle (grow (redrawn W d) os) ((unhide HC8).below (below_regrown W d os))
        have hvv := fun W => neqP x x W
        rw [show decide (x = x) = true from decide_eq_true rfl] at hvv
        clear x0 x1 a0 a1
        refine wp_region_quiet_below (by assumption) (by kernel_rfl) ?_
        repeat (go_big_quiet_step (first | (go_at_fn 20; refine Calls.regrown_of (hlf _ _))))
        refine wpQuiet_nil ?_
        intro w12 hw'
        obtain ⟨⟨dq, osq⟩, hw''⟩ := hw'
        have b12 := below_regrown W dq osq
        dsimp only at hw''
        rw [← hw''] at b12
        have HB12 := hide b12
        have hnx1 := nextC_in C (some ⟨g0, 0, none⟩) l0.length cap0 i w12 ((unhide HC8).below b12) hlt (by omega)
        clear hw'' b12 rx0 rx1 ra0 ra1 hlf hvv
        go_wp2_with (go_at_call 19; refine hnx1.mono ?_; rintro e w13 ⟨rfl, hc13, hg13⟩; have HC13 := hide hc13; have HG13 := hide hg13; clear hc13 hg13)
        go_roundw
        case rel => exact ⟨i + 1, q6, cap6, l6, by omega, by go_num, ((unhide HL8).below (unhide HB12)).cur ((unhide HC8).below (unhide HB12)) (unhide HG13), unhide HSt6, unhide HMem6, unhide HC13, row0_cur (row0_below (unhide HR8) (unhide HB12)) (unhide HG13) hgC (by have := ((unhide HC8).below (unhide HB12)).lt; omega), own_cur ((unhide HW8).below (unhide HB12)) ((unhide HC8).below (unhide HB12)) (unhide HG13), unhide HSep6, ((unhide HB8).trans ((unhide HB12).mono (unhide HB8).size)).trans (below_of_grown (unhide HG13) hCB (Nat.le_trans (unhide HB8).size (unhide HB12).size))⟩
        case measure => simp [intOf]; omega
    · obtain rfl : i = l0.length := by omega
      have hpo := postC C q0 cap0 l0.length l0 wr (unhide HC0) (unhide HR0).1 (Nat.le_refl _) (by omega)
      rw [List.getElem?_eq_none (Nat.le_refl _)] at hpo
      have hpo' : Calls Try.prog 17 #[.pointer (some ⟨C, 0, none⟩)] wr fun e w' => e = .returned (.tuple #[.agg #[.int .i64 0, .bool false], .bool false]) ∧ Below wr.heap.size wr w' := hpo
      have ki1 : ¬ (l0.length : Int) < (l0.length : Int) := by omega
      clear hpo
      go_wp2_with (go_at_call 17; refine hpo'.mono ?_; rintro e w7 ⟨rfl, hb7⟩; have HB7 := hide ((unhide HB0).trans (hb7.mono (unhide HB0).size)); clear hb7)
      go_ret
      exact ⟨rfl, (unhide HB2).trans (((unhide HB7).alloc (unhide HB7).size _).mono hsz2)⟩
end Go.Proofs.Ytelgpmjafaopmaa

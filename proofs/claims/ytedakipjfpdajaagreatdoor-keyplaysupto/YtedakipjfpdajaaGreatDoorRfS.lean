/- The reference's Words of a list: its members, merged. -/
import Derived.Test.YtedakipjfpdajaaGreatDoorRfM
import Derived.Deep.Cut
import Derived.Deep.CutRange
namespace Go.Proofs.YtedakipjfpdajaaGreatDoor
open Go.RowKit Go.Sort Go.Shelf

def SortsS (l : List ByteArray) : Prop := ∀ (q : Option Addr) (c : Nat) (w : World), SlOf encS 1 w q c l → Calls Tryz.prog 74 #[.slice q l.length c] w fun e w' => (∃ L q' c', e = .returned (.slice q' L.length c') ∧ OwnK encS 9 1 w.heap.size w' q' c' L ∧ Sm L l) ∧ Below w.heap.size w w'
set_option maxHeartbeats 1000000 in
set_option maxRecDepth 100000 in
theorem sortS_small (l : List ByteArray) (h : l.length < 2) : SortsS l := by
  intro q c w hs
  have h2 : (l.length : Int) < 2 := by omega
  have hA := (Below.refl w.heap.size w).alloc (Nat.le_refl _) (.cells #[] 9)
  have HS := hide (hs.below hA)
  clear hs
  go_enter Tryz.func74, Tryz.ntmps74
  go_wp2_with (at_builtin; refine wpList_app rowS rfl _ _ rfl w.heap.size (some ⟨w.heap.size, 0, none⟩) 0 [] q c l 0 l.length l.length rfl rfl (by omega) rfl rfl (OwnK.made _ _ (Nat.le_refl _)) (unhide HS).src (by unfold maxLen; omega) (by omega) (by simp) ?_; intro q3 c3 w3 ho3 hb3 _ _; have HO := hide ho3; have HB := hide (hA.trans hb3); clear ho3 hb3)
  go_ret
  exact ⟨⟨l, q3, c3, rfl, by simpa using unhide HO, sm_short l⟩, unhide HB⟩
set_option maxHeartbeats 8000000 in
set_option maxRecDepth 100000 in
theorem sortS_step (l : List ByteArray) (h2 : 2 ≤ l.length) (hl : l.length * 16 ≤ 140737488355328) (hf : ∀ x ∈ l, x.size ≤ maxLen) (m n : Nat) (hm : l.length / 2 = m) (hn : l.length - m = n) (h1 : SortsS (l.take m)) (h3 : SortsS (l.drop m)) : SortsS l := by
  intro q c w hs
  have mixed : Tryz.prog.follows .mixedOrders = true := by kernel_rfl
  have en120 : ∀ args w, (callFunc 120 args).run Tryz.prog w = .ok (.enter 120 args) w := enters_of Tryz.func120 (by kernel_rfl) rfl
  have hlc := hs.2.1
  obtain ⟨b, off, rfl, hbw, _⟩ := hs.2.2.2 (by omega)
  obtain ⟨c2, hc2⟩ : ∃ c2, c - m = c2 := ⟨_, rfl⟩
  have hC1 : ∀ W, Below w.heap.size w W → Calls Tryz.prog 74 #[.slice (some ⟨b, off, none⟩) m c] W fun e w' => ∃ a q1 c1, e = .returned (.slice q1 a.length c1) ∧ SlOf encS 1 w' q1 c1 a ∧ Sm a (l.take m) ∧ Below w.heap.size w w' ∧ Below W.heap.size W w' := fun W hW => by
    have := h1 (some ⟨b, off, none⟩) c W ((slG_take (by decide) hs m).below hW)
    rw [List.length_take, Nat.min_eq_left (by omega)] at this
    exact this.mono fun e w' ⟨⟨a, q', c', he, ho, hs⟩, hb⟩ => ⟨a, q', c', he, ho.ls, hs, below_sub hW hb, hb⟩
  have hC2 : ∀ W, Below w.heap.size w W → Calls Tryz.prog 74 #[.slice (some ⟨b, off + m, none⟩) n c2] W fun e w' => ∃ a q1 c1, e = .returned (.slice q1 a.length c1) ∧ SlOf encS 1 w' q1 c1 a ∧ Sm a (l.drop m) ∧ Below w.heap.size w w' ∧ Below W.heap.size W w' := fun W hW => by
    have := h3 (some ⟨b, off + m * 1, none⟩) (c - m) W ((slG_drop (by decide) hs m (by omega)).below hW)
    rw [List.length_drop, hn, hc2, Nat.mul_one] at this
    exact this.mono fun e w' ⟨⟨a, q', c', he, ho, hs⟩, hb⟩ => ⟨a, q', c', he, ho.ls, hs, below_sub hW hb, hb⟩
  have g0 : ¬ (l.length : Int) < 2 := by omega
  have g1 : (l.length : Int) / 2 = (m : Int) := by omega
  have g2 : (0 : Int) ≤ (m : Int) := by omega
  have g3 : (m : Int) ≤ (c : Int) := by omega
  have g4 : (m : Int) ≤ (l.length : Int) := by omega
  have g5 : (l.length : Int) ≤ (c : Int) := by omega
  have g6 : ¬ c = m := by omega
  have g7 : (l.length : Int) ≤ 8796093022208 := by omega
  have g8 : (l.length : Int).tdiv 2 = (m : Int) := by rw [Int.tdiv_eq_ediv_of_nonneg (by omega)]; omega
  have g9 := wrap_nat m (by omega)
  have HN := hide hn
  have HM := hide hm
  have HC := hide hc2
  clear h1 h3 hs
  go_enter Tryz.func74, Tryz.ntmps74
  go_wp2
  go_cut [3, 4] from 15 (fun s3 s4 V => ∃ (a d : List ByteArray) (q1 q2 : Option Addr) (c1 c3 : Nat), s3 = .slice q1 a.length c1 ∧ s4 = .slice q2 d.length c3 ∧ SlOf encS 1 V q1 c1 a ∧ SlOf encS 1 V q2 c3 d ∧ Hid (Sm a (l.take m)) ∧ Hid (Sm d (l.drop m)) ∧ Below w.heap.size w V)
  case first =>
    go_region_held3 (fun _ => True) (go_keep) (first
      | (go_at_call 74; (with_reducible refine (hC1 _ (by first | exact unhide B2 | exact (Below.refl _ _).drew | exact Below.refl _ _)).mono ?_); rintro e w1 ⟨a, q1, c1, rfl, s1, e1, bw1, bb1⟩; have E1 := hide e1; have S1 := hide s1; (first | have S2' := hide ((unhide S2).below bb1) | skip); have B1 := hide bw1; clear s1 e1 bw1 bb1)
      | (go_at_call 74; (with_reducible refine (hC2 _ (by first | exact unhide B1 | exact (Below.refl _ _).drew | exact Below.refl _ _)).mono ?_); rintro e w2 ⟨d, q2, c3, rfl, s2, e2, bw2, bb2⟩; have E2 := hide e2; have S2 := hide s2; (first | have S1' := hide ((unhide S1).below bb2) | skip); have B2 := hide bw2; clear s2 e2 bw2 bb2))
    all_goals
      go_wp2
      go_meet
      first
        | exact ⟨a, d, q1, q2, c1, c3, rfl, rfl, unhide S1', unhide S2, E1, E2, unhide B2⟩
        | exact ⟨a, d, q1, q2, c1, c3, rfl, rfl, unhide S1, unhide S2', E1, E2, unhide B1⟩
  case rest =>
    obtain ⟨a, d, q1, q2, c1, c3, rfl, rfl, s1, s2, E1, E2, bw⟩ := hcut
    obtain ⟨W, rfl⟩ : ∃ W, W = wc := ⟨_, rfl⟩
    have S1 := hide s1
    have S2 := hide s2
    have BW := hide bw
    have la : a.length ≤ m := by have := (unhide E1).2; rw [List.length_take] at this; omega
    have ld : d.length ≤ n := by have := (unhide E2).2; rw [List.length_drop] at this; omega
    have i9 : (a.length : Int) ≤ 8796093022208 := by omega
    have j9 : (d.length : Int) ≤ 8796093022208 := by omega
    have ad9 : a.length + d.length ≤ l.length := by omega
    have fa : ∀ x ∈ a, x.size ≤ maxLen := fun x hx => hf x (List.mem_of_mem_take (((unhide E1).1 x).1 hx))
    clear hC1 hC2 s1 s2 bw g1 g2 g3 g4 g5 g6 g8 g9 hn hc2 hm
    go_wp2
    go_loopw [5, 6, 7] (fun ov iv jv wr => ∃ (i j : Nat) (out : List ByteArray) (qo : Option Addr) (co : Nat), i ≤ a.length ∧ j ≤ d.length ∧ ov = .slice qo out.length co ∧ iv = .int .i64 i ∧ jv = .int .i64 j ∧ Hid (Mg a d i j out) ∧ Hid (OwnK encS 9 1 W.heap.size wr qo co out) ∧ Hid (Below W.heap.size W wr)) (fun _ iv jv _ => (a.length + d.length) - ((intOf iv).toNat + (intOf jv).toNat))
    case atStart => exact ⟨0, 0, [], none, 0, Nat.zero_le _, Nat.zero_le _, rfl, rfl, rfl, hide (Mg.start _ _), hide (OwnK.nil _ _), hide (Below.refl _ _)⟩
    case round =>
      obtain ⟨i, j, out, qo, co, hi, hj, rfl, rfl, rfl, HMr, HO, HB⟩ := hrel
      have lo : out.length ≤ i + j := (unhide HMr).2
      have HLO := hide lo
      by_cases hdone : i = a.length ∧ j = d.length
      · obtain ⟨rfl, rfl⟩ := hdone
        have t1 : ¬ (a.length : Int) < (a.length : Int) := by omega
        have t2 : ¬ (d.length : Int) < (d.length : Int) := by omega
        clear lo
        go_wp2
        go_ret
        exact ⟨⟨out, qo, co, rfl, (unhide HO).mono (unhide BW).size, (unhide HMr).done (unhide E1) (unhide E2) rfl rfl⟩, below_sub (unhide BW) (unhide HB)⟩
      · by_cases hij : i < a.length ∧ j < d.length
        · have hi1 : i < a.length := hij.1
          have hj1 : j < d.length := hij.2
          obtain ⟨x, hx, _⟩ := get_at hi1
          obtain ⟨bx, ox, hqx, hbx, xc⟩ := wordsAt (unhide S1) hx
          subst hqx
          obtain ⟨t, ht, _⟩ := get_at hj1
          obtain ⟨bt, ot, hqt, hbt, tc⟩ := wordsAt (unhide S2) ht
          subst hqt
          have fx := fa x (List.mem_of_getElem? hx)
          have x0 := re_cell (unhide HB) hbx xc
          have t0 := re_cell (unhide HB) hbt tc
          have c1 : (i : Int) < (a.length : Int) := by omega
          have c2 : (j : Int) < (d.length : Int) := by omega
          have c0 : (0 : Int) ≤ (i : Int) := by omega
          have e0 : (0 : Int) ≤ (j : Int) := by omega
          have eb : ((j : Int) == (d.length : Int)) = false := by rw [beq_eq_false_iff_ne]; omega
          have HXX := hide hx
          have HTT := hide ht
          clear lo hx ht
          by_cases hc : cmpS x.data.toList t.data.toList ≤ 0
          · go_wp2
            refine wp_region_quiet_below (by assumption) (by kernel_rfl) ?_
            repeat (go_big_quiet_step (first | (go_at_fn 120; refine Calls.regrown_of (texts_any _ _ _ fx))))
            refine wpQuiet_nil ?_
            intro _ hw'
            obtain ⟨⟨dq, osq⟩, hw''⟩ := hw'
            subst hw''
            have B4 := hide (below_sub (unhide HB) (below_regrown wr dq osq))
            have HO4 := hide ((unhide HO).below (below_regrown wr dq osq))
            generalize grow (redrawn wr dq) osq = V4 at B4 HO4 ⊢
            clear t0
            clear x0
            have x1 := ((unhide B4).cell (p := ⟨bx, _, none⟩) hbx).trans xc
            have hs4 : W.heap.size ≤ V4.heap.size := (unhide B4).size
            by_cases hout : out.length = 0
            · obtain rfl : out = [] := List.length_eq_zero_iff.1 hout
              go_wp2_with (at_builtin; refine wpList_app rowS rfl _ _ rfl W.heap.size qo co [] (some ⟨V4.heap.size, 0, none⟩) 1 [x] 0 1 (0 + 1) rfl rfl rfl rfl rfl ((unhide HO4).below ((Below.refl _ _).alloc (Nat.le_refl _) _)) (srcOneS _ _) (by have := unhide HLO; unfold maxLen; omega) (by have := unhide HLO; omega) (by simp; omega) ?_; intro q5 c5 w5 ho5 hb5 _ _; have HO5 := hide ho5; have HB5 := hide ((unhide B4).trans (((Below.refl W.heap.size V4).alloc hs4 _).trans hb5)); clear ho5 hb5)
              go_roundw
              case rel => exact ⟨i + 1, j, [] ++ [x], q5, c5, by omega, by omega, rfl, by go_num, by go_num, hide ((unhide HMr).left (unhide HXX)), HO5, HB5⟩
              case measure => simp [intOf]; omega
            · obtain ⟨e, he⟩ : ∃ e, out.length = e + 1 := ⟨out.length - 1, by omega⟩
              obtain ⟨z, hz, _⟩ := get_at (l := out) (k := e) (by omega)
              obtain ⟨g, hqo, hBg, hgw⟩ := (unhide HO4).someG (by omega)
              subst hqo
              obtain ⟨gz, oz, hqz, hbz, zc⟩ := wordsAt (unhide HO4).ls hz
              cases hqz
              rw [Nat.zero_add] at zc
              have e1 : (0 : Int) ≤ (e : Int) := by omega
              have e2 : (e : Int) < (e : Int) + 1 := by omega
              have e3 : (((e : Int) + 1) == 0) = false := by rw [beq_eq_false_iff_ne]; omega
              have e4 : (e : Int) ≤ 8796093022208 := by have := unhide HLO; omega
              have HE0 := hide he
              have HZ := hide (List.mem_of_getElem? hz)
              clear hz
              by_cases hzx : z = x
              · have hne : (z.toList == x.toList) = true := by simp [hzx]
                have HMn : Hid (Mg a d (i + 1) (j) out) := hide ((unhide HMr).leftS (unhide HXX) (by rw [← hzx]; exact unhide HZ))
                clear hzx
                go_wp2
                go_roundw
                case rel => exact ⟨i + 1, j, out, some ⟨g, 0, none⟩, co, by omega, by omega, by rw [unhide HE0], by go_num, by go_num, HMn, HO4, B4⟩
                case measure => simp [intOf]; omega
              · have hne : (z.toList == x.toList) = false := toList_ne hzx
                have HMn : Hid (Mg a d (i + 1) (j) (out ++ [x])) := hide ((unhide HMr).left (unhide HXX))
                clear hzx
                go_wp2_with (at_builtin; refine wpList_app rowS rfl _ _ rfl W.heap.size (some ⟨g, 0, none⟩) co out (some ⟨V4.heap.size, 0, none⟩) 1 [x] out.length 1 (out.length + 1) (by rw [unhide HE0]) rfl rfl rfl rfl ((unhide HO4).below ((Below.refl _ _).alloc (Nat.le_refl _) _)) (srcOneS _ _) (by have := unhide HLO; unfold maxLen; omega) (by have := unhide HLO; omega) (by simp; omega) ?_; intro q5 c5 w5 ho5 hb5 _ _; have HO5 := hide ho5; have HB5 := hide ((unhide B4).trans (((Below.refl W.heap.size V4).alloc hs4 _).trans hb5)); clear ho5 hb5)
                go_roundw
                case rel => exact ⟨i + 1, j, out ++ [x], q5, c5, by omega, by omega, by rw [List.length_append, unhide HE0]; rfl, by go_num, by go_num, HMn, HO5, HB5⟩
                case measure => simp [intOf]; omega

          · go_wp2
            refine wp_region_quiet_below (by assumption) (by kernel_rfl) ?_
            repeat (go_big_quiet_step (first | (go_at_fn 120; refine Calls.regrown_of (texts_any _ _ _ fx))))
            refine wpQuiet_nil ?_
            intro _ hw'
            obtain ⟨⟨dq, osq⟩, hw''⟩ := hw'
            subst hw''
            have B4 := hide (below_sub (unhide HB) (below_regrown wr dq osq))
            have HO4 := hide ((unhide HO).below (below_regrown wr dq osq))
            generalize grow (redrawn wr dq) osq = V4 at B4 HO4 ⊢
            clear x0
            clear t0
            have t1 := ((unhide B4).cell (p := ⟨bt, _, none⟩) hbt).trans tc
            have hs4 : W.heap.size ≤ V4.heap.size := (unhide B4).size
            by_cases hout : out.length = 0
            · obtain rfl : out = [] := List.length_eq_zero_iff.1 hout
              go_wp2_with (at_builtin; refine wpList_app rowS rfl _ _ rfl W.heap.size qo co [] (some ⟨V4.heap.size, 0, none⟩) 1 [t] 0 1 (0 + 1) rfl rfl rfl rfl rfl ((unhide HO4).below ((Below.refl _ _).alloc (Nat.le_refl _) _)) (srcOneS _ _) (by have := unhide HLO; unfold maxLen; omega) (by have := unhide HLO; omega) (by simp; omega) ?_; intro q5 c5 w5 ho5 hb5 _ _; have HO5 := hide ho5; have HB5 := hide ((unhide B4).trans (((Below.refl W.heap.size V4).alloc hs4 _).trans hb5)); clear ho5 hb5)
              go_roundw
              case rel => exact ⟨i, j + 1, [] ++ [t], q5, c5, by omega, by omega, rfl, by go_num, by go_num, hide ((unhide HMr).right (unhide HTT)), HO5, HB5⟩
              case measure => simp [intOf]; omega
            · obtain ⟨e, he⟩ : ∃ e, out.length = e + 1 := ⟨out.length - 1, by omega⟩
              obtain ⟨z, hz, _⟩ := get_at (l := out) (k := e) (by omega)
              obtain ⟨g, hqo, hBg, hgw⟩ := (unhide HO4).someG (by omega)
              subst hqo
              obtain ⟨gz, oz, hqz, hbz, zc⟩ := wordsAt (unhide HO4).ls hz
              cases hqz
              rw [Nat.zero_add] at zc
              have e1 : (0 : Int) ≤ (e : Int) := by omega
              have e2 : (e : Int) < (e : Int) + 1 := by omega
              have e3 : (((e : Int) + 1) == 0) = false := by rw [beq_eq_false_iff_ne]; omega
              have e4 : (e : Int) ≤ 8796093022208 := by have := unhide HLO; omega
              have HE0 := hide he
              have HZ := hide (List.mem_of_getElem? hz)
              clear hz
              by_cases hzx : z = t
              · have hne : (z.toList == t.toList) = true := by simp [hzx]
                have HMn : Hid (Mg a d (i) (j + 1) out) := hide ((unhide HMr).rightS (unhide HTT) (by rw [← hzx]; exact unhide HZ))
                clear hzx
                go_wp2
                go_roundw
                case rel => exact ⟨i, j + 1, out, some ⟨g, 0, none⟩, co, by omega, by omega, by rw [unhide HE0], by go_num, by go_num, HMn, HO4, B4⟩
                case measure => simp [intOf]; omega
              · have hne : (z.toList == t.toList) = false := toList_ne hzx
                have HMn : Hid (Mg a d (i) (j + 1) (out ++ [t])) := hide ((unhide HMr).right (unhide HTT))
                clear hzx
                go_wp2_with (at_builtin; refine wpList_app rowS rfl _ _ rfl W.heap.size (some ⟨g, 0, none⟩) co out (some ⟨V4.heap.size, 0, none⟩) 1 [t] out.length 1 (out.length + 1) (by rw [unhide HE0]) rfl rfl rfl rfl ((unhide HO4).below ((Below.refl _ _).alloc (Nat.le_refl _) _)) (srcOneS _ _) (by have := unhide HLO; unfold maxLen; omega) (by have := unhide HLO; omega) (by simp; omega) ?_; intro q5 c5 w5 ho5 hb5 _ _; have HO5 := hide ho5; have HB5 := hide ((unhide B4).trans (((Below.refl W.heap.size V4).alloc hs4 _).trans hb5)); clear ho5 hb5)
                go_roundw
                case rel => exact ⟨i, j + 1, out ++ [t], q5, c5, by omega, by omega, by rw [List.length_append, unhide HE0]; rfl, by go_num, by go_num, HMn, HO5, HB5⟩
                case measure => simp [intOf]; omega

        · by_cases hi1 : i < a.length
          · obtain rfl : j = d.length := by omega
            obtain ⟨x, hx, _⟩ := get_at hi1
            obtain ⟨bx, ox, hqx, hbx, xc⟩ := wordsAt (unhide S1) hx
            subst hqx
            have x0 := re_cell (unhide HB) hbx xc
            have c1 : (i : Int) < (a.length : Int) := by omega
            have c0 : (0 : Int) ≤ (i : Int) := by omega
            have HXX := hide hx
            clear lo hx
            go_wp2
            refine wp_region_quiet_below (by assumption) (by kernel_rfl) ?_
            repeat (go_big_quiet_step (fail))
            refine wpQuiet_nil ?_
            intro _ hw'
            obtain ⟨⟨dq, osq⟩, hw''⟩ := hw'
            subst hw''
            have B4 := hide (below_sub (unhide HB) (below_regrown wr dq osq))
            have HO4 := hide ((unhide HO).below (below_regrown wr dq osq))
            generalize grow (redrawn wr dq) osq = V4 at B4 HO4 ⊢
            clear x0
            have x1 := ((unhide B4).cell (p := ⟨bx, _, none⟩) hbx).trans xc
            have hs4 : W.heap.size ≤ V4.heap.size := (unhide B4).size
            by_cases hout : out.length = 0
            · obtain rfl : out = [] := List.length_eq_zero_iff.1 hout
              go_wp2_with (at_builtin; refine wpList_app rowS rfl _ _ rfl W.heap.size qo co [] (some ⟨V4.heap.size, 0, none⟩) 1 [x] 0 1 (0 + 1) rfl rfl rfl rfl rfl ((unhide HO4).below ((Below.refl _ _).alloc (Nat.le_refl _) _)) (srcOneS _ _) (by have := unhide HLO; unfold maxLen; omega) (by have := unhide HLO; omega) (by simp; omega) ?_; intro q5 c5 w5 ho5 hb5 _ _; have HO5 := hide ho5; have HB5 := hide ((unhide B4).trans (((Below.refl W.heap.size V4).alloc hs4 _).trans hb5)); clear ho5 hb5)
              go_roundw
              case rel => exact ⟨i + 1, d.length, [] ++ [x], q5, c5, by omega, by omega, rfl, by go_num, by go_num, hide ((unhide HMr).left (unhide HXX)), HO5, HB5⟩
              case measure => simp [intOf]; omega
            · obtain ⟨e, he⟩ : ∃ e, out.length = e + 1 := ⟨out.length - 1, by omega⟩
              obtain ⟨z, hz, _⟩ := get_at (l := out) (k := e) (by omega)
              obtain ⟨g, hqo, hBg, hgw⟩ := (unhide HO4).someG (by omega)
              subst hqo
              obtain ⟨gz, oz, hqz, hbz, zc⟩ := wordsAt (unhide HO4).ls hz
              cases hqz
              rw [Nat.zero_add] at zc
              have e1 : (0 : Int) ≤ (e : Int) := by omega
              have e2 : (e : Int) < (e : Int) + 1 := by omega
              have e3 : (((e : Int) + 1) == 0) = false := by rw [beq_eq_false_iff_ne]; omega
              have e4 : (e : Int) ≤ 8796093022208 := by have := unhide HLO; omega
              have HE0 := hide he
              have HZ := hide (List.mem_of_getElem? hz)
              clear hz
              by_cases hzx : z = x
              · have hne : (z.toList == x.toList) = true := by simp [hzx]
                have HMn : Hid (Mg a d (i + 1) (d.length) out) := hide ((unhide HMr).leftS (unhide HXX) (by rw [← hzx]; exact unhide HZ))
                clear hzx
                go_wp2
                go_roundw
                case rel => exact ⟨i + 1, d.length, out, some ⟨g, 0, none⟩, co, by omega, by omega, by rw [unhide HE0], by go_num, by go_num, HMn, HO4, B4⟩
                case measure => simp [intOf]; omega
              · have hne : (z.toList == x.toList) = false := toList_ne hzx
                have HMn : Hid (Mg a d (i + 1) (d.length) (out ++ [x])) := hide ((unhide HMr).left (unhide HXX))
                clear hzx
                go_wp2_with (at_builtin; refine wpList_app rowS rfl _ _ rfl W.heap.size (some ⟨g, 0, none⟩) co out (some ⟨V4.heap.size, 0, none⟩) 1 [x] out.length 1 (out.length + 1) (by rw [unhide HE0]) rfl rfl rfl rfl ((unhide HO4).below ((Below.refl _ _).alloc (Nat.le_refl _) _)) (srcOneS _ _) (by have := unhide HLO; unfold maxLen; omega) (by have := unhide HLO; omega) (by simp; omega) ?_; intro q5 c5 w5 ho5 hb5 _ _; have HO5 := hide ho5; have HB5 := hide ((unhide B4).trans (((Below.refl W.heap.size V4).alloc hs4 _).trans hb5)); clear ho5 hb5)
                go_roundw
                case rel => exact ⟨i + 1, d.length, out ++ [x], q5, c5, by omega, by omega, by rw [List.length_append, unhide HE0]; rfl, by go_num, by go_num, HMn, HO5, HB5⟩
                case measure => simp [intOf]; omega

          · obtain rfl : i = a.length := by omega
            have hj1 : j < d.length := by omega
            obtain ⟨t, ht, _⟩ := get_at hj1
            obtain ⟨bt, ot, hqt, hbt, tc⟩ := wordsAt (unhide S2) ht
            subst hqt
            have t0 := re_cell (unhide HB) hbt tc
            have c2 : (j : Int) < (d.length : Int) := by omega
            have e0 : (0 : Int) ≤ (j : Int) := by omega
            have eb : ((j : Int) == (d.length : Int)) = false := by rw [beq_eq_false_iff_ne]; omega
            have HTT := hide ht
            clear lo ht
            go_wp2
            refine wp_region_quiet_below (by assumption) (by kernel_rfl) ?_
            repeat (go_big_quiet_step (fail))
            refine wpQuiet_nil ?_
            intro _ hw'
            obtain ⟨⟨dq, osq⟩, hw''⟩ := hw'
            subst hw''
            have B4 := hide (below_sub (unhide HB) (below_regrown wr dq osq))
            have HO4 := hide ((unhide HO).below (below_regrown wr dq osq))
            generalize grow (redrawn wr dq) osq = V4 at B4 HO4 ⊢
            clear t0
            have t1 := ((unhide B4).cell (p := ⟨bt, _, none⟩) hbt).trans tc
            have hs4 : W.heap.size ≤ V4.heap.size := (unhide B4).size
            by_cases hout : out.length = 0
            · obtain rfl : out = [] := List.length_eq_zero_iff.1 hout
              go_wp2_with (at_builtin; refine wpList_app rowS rfl _ _ rfl W.heap.size qo co [] (some ⟨V4.heap.size, 0, none⟩) 1 [t] 0 1 (0 + 1) rfl rfl rfl rfl rfl ((unhide HO4).below ((Below.refl _ _).alloc (Nat.le_refl _) _)) (srcOneS _ _) (by have := unhide HLO; unfold maxLen; omega) (by have := unhide HLO; omega) (by simp; omega) ?_; intro q5 c5 w5 ho5 hb5 _ _; have HO5 := hide ho5; have HB5 := hide ((unhide B4).trans (((Below.refl W.heap.size V4).alloc hs4 _).trans hb5)); clear ho5 hb5)
              go_roundw
              case rel => exact ⟨a.length, j + 1, [] ++ [t], q5, c5, by omega, by omega, rfl, by go_num, by go_num, hide ((unhide HMr).right (unhide HTT)), HO5, HB5⟩
              case measure => simp [intOf]; omega
            · obtain ⟨e, he⟩ : ∃ e, out.length = e + 1 := ⟨out.length - 1, by omega⟩
              obtain ⟨z, hz, _⟩ := get_at (l := out) (k := e) (by omega)
              obtain ⟨g, hqo, hBg, hgw⟩ := (unhide HO4).someG (by omega)
              subst hqo
              obtain ⟨gz, oz, hqz, hbz, zc⟩ := wordsAt (unhide HO4).ls hz
              cases hqz
              rw [Nat.zero_add] at zc
              have e1 : (0 : Int) ≤ (e : Int) := by omega
              have e2 : (e : Int) < (e : Int) + 1 := by omega
              have e3 : (((e : Int) + 1) == 0) = false := by rw [beq_eq_false_iff_ne]; omega
              have e4 : (e : Int) ≤ 8796093022208 := by have := unhide HLO; omega
              have HE0 := hide he
              have HZ := hide (List.mem_of_getElem? hz)
              clear hz
              by_cases hzx : z = t
              · have hne : (z.toList == t.toList) = true := by simp [hzx]
                have HMn : Hid (Mg a d (a.length) (j + 1) out) := hide ((unhide HMr).rightS (unhide HTT) (by rw [← hzx]; exact unhide HZ))
                clear hzx
                go_wp2
                go_roundw
                case rel => exact ⟨a.length, j + 1, out, some ⟨g, 0, none⟩, co, by omega, by omega, by rw [unhide HE0], by go_num, by go_num, HMn, HO4, B4⟩
                case measure => simp [intOf]; omega
              · have hne : (z.toList == t.toList) = false := toList_ne hzx
                have HMn : Hid (Mg a d (a.length) (j + 1) (out ++ [t])) := hide ((unhide HMr).right (unhide HTT))
                clear hzx
                go_wp2_with (at_builtin; refine wpList_app rowS rfl _ _ rfl W.heap.size (some ⟨g, 0, none⟩) co out (some ⟨V4.heap.size, 0, none⟩) 1 [t] out.length 1 (out.length + 1) (by rw [unhide HE0]) rfl rfl rfl rfl ((unhide HO4).below ((Below.refl _ _).alloc (Nat.le_refl _) _)) (srcOneS _ _) (by have := unhide HLO; unfold maxLen; omega) (by have := unhide HLO; omega) (by simp; omega) ?_; intro q5 c5 w5 ho5 hb5 _ _; have HO5 := hide ho5; have HB5 := hide ((unhide B4).trans (((Below.refl W.heap.size V4).alloc hs4 _).trans hb5)); clear ho5 hb5)
                go_roundw
                case rel => exact ⟨a.length, j + 1, out ++ [t], q5, c5, by omega, by omega, by rw [List.length_append, unhide HE0]; rfl, by go_num, by go_num, HMn, HO5, HB5⟩
                case measure => simp [intOf]; omega

theorem sortS_any (n : Nat) : ∀ l : List ByteArray, l.length ≤ n → l.length * 16 ≤ 140737488355328 → (∀ x ∈ l, x.size ≤ maxLen) → SortsS l := by
  induction n with
  | zero => exact fun l h _ _ => sortS_small l (by omega)
  | succ n ih =>
    intro l h hl hf
    by_cases h2 : l.length < 2
    · exact sortS_small l h2
    · refine sortS_step l (by omega) hl hf _ _ rfl rfl (ih _ ?_ ?_ ?_) (ih _ ?_ ?_ ?_)
      · rw [List.length_take]; omega
      · rw [List.length_take]; omega
      · exact fun x hx => hf x (List.mem_of_mem_take hx)
      · rw [List.length_drop]; omega
      · rw [List.length_drop]; omega
      · exact fun x hx => hf x (List.mem_of_mem_drop hx)
/-- trommelref09.Words. -/
theorem refWords (l : List ByteArray) (hl : l.length * 16 ≤ 140737488355328) (hf : ∀ x ∈ l, x.size ≤ maxLen) : SortsS l := sortS_any l.length l (Nat.le_refl _) hl hf
end Go.Proofs.YtedakipjfpdajaaGreatDoor

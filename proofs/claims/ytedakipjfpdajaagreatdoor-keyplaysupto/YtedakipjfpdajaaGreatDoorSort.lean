/- The reference's Sort of keys: rising, each once, by merging halves. -/
import Derived.Test.YtedakipjfpdajaaGreatDoorZab
import Derived.Deep.Cut
import Derived.Deep.CutRange
namespace Go.Proofs.YtedakipjfpdajaaGreatDoor
open Go.RowKit Go.Sort Go.Shelf

def FitK (l : List Ky) : Prop := ∀ x ∈ l, x.attr.size ≤ maxLen ∧ x.word.size ≤ maxLen
def SortsK (l : List Ky) : Prop := ∀ (q : Option Addr) (c : Nat) (w : World), SlOf encK 5 w q c l → Calls Tryz.prog 36 #[.slice q l.length c] w fun e w' => (∃ q' c', e = .returned (.slice q' (ris l).length c') ∧ OwnK encK 46 5 w.heap.size w' q' c' (ris l)) ∧ Below w.heap.size w w'
theorem ris_short {l : List Ky} (h : l.length < 2) : ris l = l := by
  match l, h with
  | [], _ => rfl
  | [x], _ => rfl
theorem sl_take {w : World} {b off c : Nat} {l : List Ky} (h : SlOf encK 5 w (some ⟨b, off, none⟩) c l) (m : Nat) : SlOf encK 5 w (some ⟨b, off, none⟩) c (l.take m) := by
  refine ⟨(fun h => by cases h), Nat.le_trans (by rw [List.length_take]; omega) h.2.1, h.2.2.1, fun h0 => ?_⟩
  obtain ⟨b', off', hq, hb, hc⟩ := h.2.2.2 (by rw [List.length_take] at h0; omega)
  cases hq
  refine ⟨b, off, rfl, hb, fun j u hj => hc j u ?_⟩
  have e : (flatK encK 5 l.toArray).toList = (flatK encK 5 (l.take m).toArray).toList ++ (flatK encK 5 (l.drop m).toArray).toList := by rw [← flat_app encK 5 (by decide), List.take_append_drop]
  rw [e, List.getElem?_append_left (List.getElem?_eq_some_iff.1 hj).1]
  exact hj
theorem sl_drop {w : World} {b off c : Nat} {l : List Ky} (h : SlOf encK 5 w (some ⟨b, off, none⟩) c l) (m : Nat) (hm : m ≤ l.length) : SlOf encK 5 w (some ⟨b, off + m * 5, none⟩) (c - m) (l.drop m) := by
  refine ⟨(fun h => by cases h), (by have := h.2.1; rw [List.length_drop]; omega), (by have := h.2.2.1; omega), fun h0 => ?_⟩
  obtain ⟨b', off', hq, hb, hc⟩ := h.2.2.2 (by rw [List.length_drop] at h0; omega)
  cases hq
  refine ⟨b, off + m * 5, rfl, hb, fun j u hj => ?_⟩
  rw [Nat.add_assoc]
  refine hc (m * 5 + j) u ?_
  have e : (flatK encK 5 l.toArray).toList = (flatK encK 5 (l.take m).toArray).toList ++ (flatK encK 5 (l.drop m).toArray).toList := by rw [← flat_app encK 5 (by decide), List.take_append_drop]
  have e2 : (flatK encK 5 (l.take m).toArray).toList.length = m * 5 := by rw [flat_len, List.length_take, Nat.min_eq_left hm]
  rw [e, List.getElem?_append_right (by omega), e2, Nat.add_sub_cancel_left]
  exact hj
theorem box_set5 {V : World} {b : Nat} {c0 c1 c2 c3 c4 : Value} (h : V.heap[b]? = some (.cells #[c0, c1, c2, c3, c4] 46 (0, 0))) (v0 v1 v2 v3 v4 : Value) :
    (((((V.setCell ⟨b, 0, none⟩ v0).setCell ⟨b, 1, none⟩ v1).setCell ⟨b, 2, none⟩ v2).setCell ⟨b, 3, none⟩ v3).setCell ⟨b, 4, none⟩ v4).heap[b]? = some (.cells #[v0, v1, v2, v3, v4] 46 (0, 0)) := by
  simp [World.setCell, Array.getElem?_modify, h]
set_option maxHeartbeats 1000000 in
set_option maxRecDepth 100000 in
theorem sort_small (l : List Ky) (h : l.length < 2) : SortsK l := by
  intro q c w hs
  rw [ris_short h]
  have h2 : (l.length : Int) < 2 := by omega
  have hA := (Below.refl w.heap.size w).alloc (Nat.le_refl _) (.cells #[] 46)
  have HS := hide (hs.below hA)
  clear hs
  go_enter Tryz.func36, Tryz.ntmps36
  go_wp2_with (at_builtin; refine wpList_app rowP rfl _ _ rfl w.heap.size (some ⟨w.heap.size, 0, none⟩) 0 [] q c l 0 l.length l.length rfl rfl (by omega) rfl rfl (OwnK.made _ _ (Nat.le_refl _)) (unhide HS).src (by unfold maxLen; omega) (by omega) (by simp) ?_; intro q3 c3 w3 ho3 hb3 _ _; have HO := hide ho3; have HB := hide (hA.trans hb3); clear ho3 hb3)
  go_ret
  exact ⟨⟨q3, c3, rfl, by simpa using unhide HO⟩, unhide HB⟩
def zeroKy : Ky := ⟨⟨#[]⟩, 0, 0, 0, ⟨#[]⟩⟩
theorem re_cell {w W : World} (hB : Below w.heap.size w W) {p : Addr} (hp : p.block < w.heap.size) {v : Value} (hc : w.cell? p = some v) : ∀ n os, (grow (redrawn W n) os).cell? p = some v := cell_regrown ((hB.cell hp).trans hc)
theorem srcOneK (w : World) (x : Ky) : SrcK encK 5 (w.alloc (.cells #[.string x.attr, .int .i64 x.kind, .int .i64 x.level, .int .i64 x.num, .string x.word] 46)) (some ⟨w.heap.size, 0, none⟩) 1 [x] := by
  refine ⟨(fun h => by cases h), fun ad e j u hj => ?_⟩
  cases e
  rw [flat_oneP] at hj
  exact news_one w x j u hj
set_option maxHeartbeats 8000000 in
set_option maxRecDepth 100000 in
theorem sort_step (l : List Ky) (h2 : 2 ≤ l.length) (hl : l.length * 56 ≤ 140737488355328) (hf : FitK l) (m n : Nat) (hm : l.length / 2 = m) (hn : l.length - m = n) (h1 : SortsK (l.take m)) (h3 : SortsK (l.drop m)) : SortsK l := by
  intro q c w hs
  have mixed : Tryz.prog.follows .mixedOrders = true := by kernel_rfl
  have en11 : ∀ args w, (callFunc 76 args).run Tryz.prog w = .ok (.enter 76 args) w := enters_of Tryz.func76 (by kernel_rfl) rfl
  have hlc := hs.2.1
  obtain ⟨b, off, rfl, hbw, _⟩ := hs.2.2.2 (by omega)
  obtain ⟨c2, hc2⟩ : ∃ c2, c - m = c2 := ⟨_, rfl⟩
  obtain ⟨a, ha⟩ : ∃ a, ris (l.take m) = a := ⟨_, rfl⟩
  obtain ⟨d, hd⟩ : ∃ d, ris (l.drop m) = d := ⟨_, rfl⟩
  have sa : Str a := by rw [← ha]; exact str_ris _
  have sd : Str d := by rw [← hd]; exact str_ris _
  have la : a.length ≤ m := by rw [← ha]; refine Nat.le_trans (ris_len _) ?_; rw [List.length_take]; omega
  have ld : d.length ≤ n := by rw [← hd]; refine Nat.le_trans (ris_len _) ?_; rw [List.length_drop]; omega
  have fa : ∀ x ∈ a, x.attr.size ≤ maxLen ∧ x.word.size ≤ maxLen := fun x hx => by rw [← ha, mem_ris] at hx; exact hf x (List.mem_of_mem_take hx)
  have hend : ∀ i j out, Mrg a d i j out → a.length ≤ i → d.length ≤ j → out = ris l := fun i j out h hi hj => by
    rw [← ha] at h hi
    rw [← hd] at h hj
    rw [h.done hi hj, List.take_append_drop]
  have hC1 : ∀ W, Below w.heap.size w W → Calls Tryz.prog 36 #[.slice (some ⟨b, off, none⟩) m c] W fun e w' => ∃ q1 c1, e = .returned (.slice q1 a.length c1) ∧ SlOf encK 5 w' q1 c1 a ∧ Below w.heap.size w w' ∧ Below W.heap.size W w' := fun W hW => by
    have := h1 (some ⟨b, off, none⟩) c W ((sl_take hs m).below hW)
    rw [List.length_take, Nat.min_eq_left (by omega), ha] at this
    exact this.mono fun e w' ⟨⟨q', c', he, ho⟩, hb⟩ => ⟨q', c', he, ho.ls, below_sub hW hb, hb⟩
  have hC2 : ∀ W, Below w.heap.size w W → Calls Tryz.prog 36 #[.slice (some ⟨b, off + m * 5, none⟩) n c2] W fun e w' => ∃ q1 c1, e = .returned (.slice q1 d.length c1) ∧ SlOf encK 5 w' q1 c1 d ∧ Below w.heap.size w w' ∧ Below W.heap.size W w' := fun W hW => by
    have := h3 (some ⟨b, off + m * 5, none⟩) (c - m) W ((sl_drop hs m (by omega)).below hW)
    rw [List.length_drop, hn, hd, hc2] at this
    exact this.mono fun e w' ⟨⟨q', c', he, ho⟩, hb⟩ => ⟨q', c', he, ho.ls, below_sub hW hb, hb⟩
  have g0 : ¬ (l.length : Int) < 2 := by omega
  have g1 : (l.length : Int) / 2 = (m : Int) := by omega
  have g2 : (0 : Int) ≤ (m : Int) := by omega
  have g3 : (m : Int) ≤ (c : Int) := by omega
  have g4 : (m : Int) ≤ (l.length : Int) := by omega
  have g5 : (l.length : Int) ≤ (c : Int) := by omega
  have g6 : ¬ c = m := by omega
  have g7 : (l.length : Int) ≤ 2513169434917 := by omega
  have g8 : (l.length : Int).tdiv 2 = (m : Int) := by rw [Int.tdiv_eq_ediv_of_nonneg (by omega)]; omega
  have g9 := wrap_nat m (by omega)
  have HN := hide hn
  have HM := hide hm
  have HC := hide hc2
  have HA := hide ha
  have HD := hide hd
  have HE := hide hend
  have SA := hide sa
  have SD := hide sd
  clear h1 h3 hs ha hd hend sa sd
  go_enter Tryz.func36, Tryz.ntmps36
  go_wp2
  go_cut [3, 4] from 15 (fun s3 s4 V => ∃ (q1 q2 : Option Addr) (c1 c3 : Nat), s3 = .slice q1 a.length c1 ∧ s4 = .slice q2 d.length c3 ∧ SlOf encK 5 V q1 c1 a ∧ SlOf encK 5 V q2 c3 d ∧ Below w.heap.size w V)
  case first =>
    go_region_held3 (fun _ => True) (go_keep) (first
      | (go_at_call 36; (with_reducible refine (hC1 _ (by first | exact unhide B2 | exact (Below.refl _ _).drew | exact Below.refl _ _)).mono ?_); rintro e w1 ⟨q1, c1, rfl, s1, bw1, bb1⟩; have S1 := hide s1; (first | have S2' := hide ((unhide S2).below bb1) | skip); have B1 := hide bw1; clear s1 bw1 bb1)
      | (go_at_call 36; (with_reducible refine (hC2 _ (by first | exact unhide B1 | exact (Below.refl _ _).drew | exact Below.refl _ _)).mono ?_); rintro e w2 ⟨q2, c3, rfl, s2, bw2, bb2⟩; have S2 := hide s2; (first | have S1' := hide ((unhide S1).below bb2) | skip); have B2 := hide bw2; clear s2 bw2 bb2))
    all_goals
      go_wp2
      go_meet
      first
        | exact ⟨q1, q2, c1, c3, rfl, rfl, unhide S1', unhide S2, unhide B2⟩
        | exact ⟨q1, q2, c1, c3, rfl, rfl, unhide S1, unhide S2', unhide B1⟩
  case rest =>
    obtain ⟨q1, q2, c1, c3, rfl, rfl, s1, s2, bw⟩ := hcut
    obtain ⟨W, rfl⟩ : ∃ W, W = wc := ⟨_, rfl⟩
    have S1 := hide s1
    have S2 := hide s2
    have BW := hide bw
    have i9 : (a.length : Int) ≤ 2513169434917 := by omega
    have j9 : (d.length : Int) ≤ 2513169434917 := by omega
    have ad9 : a.length + d.length ≤ l.length := by omega
    clear hC1 hC2 s1 s2 bw g1 g2 g3 g4 g5 g6 g8 g9 hn hc2 hm
    go_wp2
    go_loopw [5, 6, 7] (fun ov iv jv wr => ∃ (i j : Nat) (out : List Ky) (qo : Option Addr) (co : Nat), i ≤ a.length ∧ j ≤ d.length ∧ ov = .slice qo out.length co ∧ iv = .int .i64 i ∧ jv = .int .i64 j ∧ Hid (Mrg a d i j out) ∧ Hid (OwnK encK 46 5 W.heap.size wr qo co out) ∧ Hid (Below W.heap.size W wr)) (fun _ iv jv _ => (a.length + d.length) - ((intOf iv).toNat + (intOf jv).toNat))
    case atStart => exact ⟨0, 0, [], none, 0, Nat.zero_le _, Nat.zero_le _, rfl, rfl, rfl, hide (Mrg.start _ _), hide (OwnK.nil _ _), hide (Below.refl _ _)⟩
    case round =>
      obtain ⟨i, j, out, qo, co, hi, hj, rfl, rfl, rfl, HMr, HO, HB⟩ := hrel
      have lo : out.length ≤ i + j := (unhide HMr).len
      have HLO := hide lo
      by_cases hdone : i = a.length ∧ j = d.length
      · obtain ⟨rfl, rfl⟩ := hdone
        have t1 : ¬ (a.length : Int) < (a.length : Int) := by omega
        have t2 : ¬ (d.length : Int) < (d.length : Int) := by omega
        clear lo
        go_wp2
        go_ret
        have e := unhide HE _ _ _ (unhide HMr) (Nat.le_refl _) (Nat.le_refl _)
        subst e
        exact ⟨⟨qo, co, rfl, (unhide HO).mono (unhide BW).size⟩, below_sub (unhide BW) (unhide HB)⟩
      · by_cases hij : i < a.length ∧ j < d.length
        · have hi1 : i < a.length := hij.1
          have hj1 : j < d.length := hij.2
          obtain ⟨x, hx, _⟩ := get_at hi1
          obtain ⟨bx, ox, hqx, hbx, xc0, xc1, xc2, xc3, xc4⟩ := postAt (unhide S1) hx
          subst hqx
          obtain ⟨t, ht, _⟩ := get_at hj1
          obtain ⟨bt, ot, hqt, hbt, tc0, tc1, tc2, tc3, tc4⟩ := postAt (unhide S2) ht
          subst hqt
          obtain ⟨X, HX⟩ : ∃ X, wr.alloc (.cells #[.string ⟨#[]⟩, .int .i64 0, .int .i64 0, .int .i64 0, .string ⟨#[]⟩] 46) = X := ⟨_, rfl⟩
          have bX : Below wr.heap.size wr X := by rw [← HX]; exact (Below.refl _ _).alloc (Nat.le_refl _) _
          have kX : X.heap[wr.heap.size]? = some (.cells #[.string ⟨#[]⟩, .int .i64 0, .int .i64 0, .int .i64 0, .string ⟨#[]⟩] 46 (0, 0)) := by rw [← HX]; exact World.alloc_heap_new _ _
          have lX : wr.heap.size < X.heap.size := (Array.getElem?_eq_some_iff.1 kX).1
          have BX := hide bX
          have KX := hide kX
          have fx := fa x (List.mem_of_getElem? hx)
          have x0 := re_cell (below_sub (unhide HB) bX) hbx xc0
          have x1 := re_cell (below_sub (unhide HB) bX) hbx xc1
          have x2 := re_cell (below_sub (unhide HB) bX) hbx xc2
          have x3 := re_cell (below_sub (unhide HB) bX) hbx xc3
          have x4 := re_cell (below_sub (unhide HB) bX) hbx xc4
          have t0 := re_cell (below_sub (unhide HB) bX) hbt tc0
          have t1 := re_cell (below_sub (unhide HB) bX) hbt tc1
          have t2 := re_cell (below_sub (unhide HB) bX) hbt tc2
          have t3 := re_cell (below_sub (unhide HB) bX) hbt tc3
          have t4 := re_cell (below_sub (unhide HB) bX) hbt tc4
          have c1 : (i : Int) < (a.length : Int) := by omega
          have c2 : (j : Int) < (d.length : Int) := by omega
          have c0 : (0 : Int) ≤ (i : Int) := by omega
          have e0 : (0 : Int) ≤ (j : Int) := by omega
          have eb : ((j : Int) == (d.length : Int)) = false := by rw [beq_eq_false_iff_ne]; omega
          have HXX := hide hx
          have HTT := hide ht
          clear lo hx ht bX kX
          by_cases hc : cmpK x t ≤ 0
          · go_wp2
            refine wp_region_quiet_below (by assumption) (by kernel_rfl) ?_
            repeat (go_big_quiet_step (first | (go_at_fn 76; refine Calls.regrown_of (refCmp _ _ _ fx.1 fx.2))))
            refine wpQuiet_nil ?_
            intro _ hw'
            obtain ⟨⟨dq, osq⟩, hw''⟩ := hw'
            subst hw''
            clear x0 x1 x2 x3 x4 t0 t1 t2 t3 t4
            have B2 := hide (below_sub (unhide BX) (below_regrown X dq osq))
            have K2 := hide (((below_regrown X dq osq).block _ lX).trans (unhide KX))
            generalize grow (redrawn X dq) osq = V2 at B2 K2 ⊢
            have lV2 : wr.heap.size < V2.heap.size := (Array.getElem?_eq_some_iff.1 (unhide K2)).1
            obtain ⟨z0, z1, z2, z3, z4⟩ := cells_of_block (x := zeroKy) (unhide K2)
            have zf := fun o => frozen_free (o := o) (unhide K2)
            have x0 := ((below_sub (unhide HB) (unhide B2)).cell (p := ⟨bx, _, none⟩) hbx).trans xc0
            have x1 := ((below_sub (unhide HB) (unhide B2)).cell (p := ⟨bx, _, none⟩) hbx).trans xc1
            have x2 := ((below_sub (unhide HB) (unhide B2)).cell (p := ⟨bx, _, none⟩) hbx).trans xc2
            have x3 := ((below_sub (unhide HB) (unhide B2)).cell (p := ⟨bx, _, none⟩) hbx).trans xc3
            have x4 := ((below_sub (unhide HB) (unhide B2)).cell (p := ⟨bx, _, none⟩) hbx).trans xc4
            obtain ⟨V3, HV3⟩ : ∃ V3, ((((V2.setCell ⟨wr.heap.size, 0, none⟩ (.string x.attr)).setCell ⟨wr.heap.size, 1, none⟩ (.int .i64 x.kind)).setCell ⟨wr.heap.size, 2, none⟩ (.int .i64 x.level)).setCell ⟨wr.heap.size, 3, none⟩ (.int .i64 x.num)).setCell ⟨wr.heap.size, 4, none⟩ (.string x.word) = V3 := ⟨_, rfl⟩
            have k3 : V3.heap[wr.heap.size]? = some (.cells #[.string x.attr, .int .i64 x.kind, .int .i64 x.level, .int .i64 x.num, .string x.word] 46 (0, 0)) := by rw [← HV3]; exact box_set5 (unhide K2) _ _ _ _ _
            have b3 : Below wr.heap.size wr V3 := by rw [← HV3]; exact (((((unhide B2).setCell (Nat.le_refl _) _).setCell (Nat.le_refl _) _).setCell (Nat.le_refl _) _).setCell (Nat.le_refl _) _).setCell (Nat.le_refl _) _
            go_wp2
            have K3 := hide k3
            have B3 := hide b3
            have HO3 := hide ((unhide HO).below b3)
            have l3 : wr.heap.size < V3.heap.size := (Array.getElem?_eq_some_iff.1 k3).1
            have HMs := hide ((unhide HMr).leftC (unhide SA) (unhide SD) (unhide HXX) (unhide HTT) (by omega))
            clear k3 b3 HV3 z0 z1 z2 z3 z4 zf lV2 K2 B2 x0 x1 x2 x3 x4
            by_cases hout : out.length = 0
            · obtain rfl : out = [] := List.length_eq_zero_iff.1 hout
              go_wp2
              refine wp_region_quiet_below (by assumption) (by kernel_rfl) ?_
              repeat (go_big_quiet_step (fail))
              refine wpQuiet_nil ?_
              intro _ hw'
              obtain ⟨⟨dq, osq⟩, hw''⟩ := hw'
              subst hw''
              have B4 := hide (below_sub (unhide B3) (below_regrown V3 dq osq))
              have HO4 := hide ((unhide HO3).below (below_regrown V3 dq osq))
              have K4 := hide (((below_regrown V3 dq osq).block _ l3).trans (unhide K3))
              generalize grow (redrawn V3 dq) osq = V4 at B4 K4 HO4 ⊢
              have HMn : Hid (Mrg a d (i + 1) (j) ([] ++ [x])) := hide (by have := unhide HMs; rwa [step_new (by simp)] at this)
              obtain ⟨p0, p1, p2, p3, p4⟩ := cells_of_block (unhide K4)
              have hs4 : W.heap.size ≤ V4.heap.size := Nat.le_trans (unhide HB).size (unhide B4).size
              go_wp2_with (at_builtin; refine wpList_app rowP rfl _ _ rfl W.heap.size qo co [] (some ⟨V4.heap.size, 0, none⟩) 1 [x] 0 1 (0 + 1) rfl rfl rfl rfl rfl ((unhide HO4).below ((Below.refl _ _).alloc (Nat.le_refl _) _)) (srcOneK _ _) (by have := unhide HLO; unfold maxLen; omega) (by have := unhide HLO; omega) (by simp; omega) ?_; intro q5 c5 w5 ho5 hb5 _ _; have HO5 := hide ho5; have HB5 := hide ((unhide HB).trans (((unhide B4).mono (unhide HB).size).trans (((Below.refl W.heap.size V4).alloc hs4 _).trans hb5))); clear ho5 hb5)
              go_roundw
              case rel => exact ⟨i + 1, j, [] ++ [x], q5, c5, by omega, by omega, rfl, by go_num, by go_num, HMn, HO5, HB5⟩
              case measure => simp [intOf]; omega
            · obtain ⟨e, he⟩ : ∃ e, out.length = e + 1 := ⟨out.length - 1, by omega⟩
              obtain ⟨z, hz, _⟩ := get_at (l := out) (k := e) (by omega)
              obtain ⟨g, hqo, hBg, hgw, _, _⟩ := (unhide HO3).some_of (by omega)
              subst hqo
              obtain ⟨s0, s1, s2, s3, s4⟩ := (unhide HO3).at2 hz
              obtain ⟨p0, p1, p2, p3, p4⟩ := cells_of_block (unhide K3)
              have s0' := cell_regrown s0
              have s1' := cell_regrown s1
              have s2' := cell_regrown s2
              have s3' := cell_regrown s3
              have s4' := cell_regrown s4
              have p0' := cell_regrown p0
              have p1' := cell_regrown p1
              have p2' := cell_regrown p2
              have p3' := cell_regrown p3
              have p4' := cell_regrown p4
              have hlast : out.getLast? = some z := by rw [List.getLast?_eq_getElem?, he]; exact hz
              have e1 : (0 : Int) ≤ (e : Int) := by omega
              have e2 : (e : Int) < (e : Int) + 1 := by omega
              have e3 : (((e : Int) + 1) == 0) = false := by rw [beq_eq_false_iff_ne]; omega
              have e4 : (e : Int) ≤ 2513169434917 := by have := unhide HLO; omega
              have hne := fun W => neqP z x W
              have HE0 := hide he
              have HLA := hide hlast
              clear s0 s1 s2 s3 s4 p0 p1 p2 p3 p4 hz hlast
              by_cases hzx : z = x
              · rw [show decide (z = x) = true from decide_eq_true hzx] at hne
                have HMn : Hid (Mrg a d (i + 1) (j) out) := hide (by have := unhide HMs; rwa [step_same (by rw [unhide HLA, hzx])] at this)
                clear hzx
                go_wp2
                refine wp_region_quiet_below (by assumption) (by kernel_rfl) ?_
                repeat (go_big_quiet_step (fail))
                refine wpQuiet_nil ?_
                intro _ hw'
                obtain ⟨⟨dq, osq⟩, hw''⟩ := hw'
                subst hw''
                have B4 := hide (below_sub (unhide B3) (below_regrown V3 dq osq))
                have HO4 := hide ((unhide HO3).below (below_regrown V3 dq osq))
                have K4 := hide (((below_regrown V3 dq osq).block _ l3).trans (unhide K3))
                generalize grow (redrawn V3 dq) osq = V4 at B4 K4 HO4 ⊢
                clear s0' s1' s2' s3' s4' p0' p1' p2' p3' p4' hne
                go_wp2
                go_roundw
                case rel => exact ⟨i + 1, j, out, some ⟨g, 0, none⟩, co, by omega, by omega, by rw [unhide HE0], by go_num, by go_num, HMn, HO4, hide (below_sub (unhide HB) (unhide B4))⟩
                case measure => simp [intOf]; omega
              · rw [show decide (z = x) = false from decide_eq_false hzx] at hne
                have HMn : Hid (Mrg a d (i + 1) (j) (out ++ [x])) := hide (by have := unhide HMs; rwa [step_new (by rw [unhide HLA]; intro h; exact hzx (Option.some.inj h))] at this)
                clear hzx
                go_wp2
                refine wp_region_quiet_below (by assumption) (by kernel_rfl) ?_
                repeat (go_big_quiet_step (fail))
                refine wpQuiet_nil ?_
                intro _ hw'
                obtain ⟨⟨dq, osq⟩, hw''⟩ := hw'
                subst hw''
                have B4 := hide (below_sub (unhide B3) (below_regrown V3 dq osq))
                have HO4 := hide ((unhide HO3).below (below_regrown V3 dq osq))
                have K4 := hide (((below_regrown V3 dq osq).block _ l3).trans (unhide K3))
                generalize grow (redrawn V3 dq) osq = V4 at B4 K4 HO4 ⊢
                clear s0' s1' s2' s3' s4' p0' p1' p2' p3' p4' hne he
                obtain ⟨p0, p1, p2, p3, p4⟩ := cells_of_block (unhide K4)
                have hs4 : W.heap.size ≤ V4.heap.size := Nat.le_trans (unhide HB).size (unhide B4).size
                go_wp2_with (at_builtin; refine wpList_app rowP rfl _ _ rfl W.heap.size (some ⟨g, 0, none⟩) co out (some ⟨V4.heap.size, 0, none⟩) 1 [x] out.length 1 (out.length + 1) rfl rfl rfl rfl rfl ((unhide HO4).below ((Below.refl _ _).alloc (Nat.le_refl _) _)) (srcOneK _ _) (by have := unhide HLO; unfold maxLen; omega) (by have := unhide HLO; omega) (by simp; omega) ?_; intro q5 c5 w5 ho5 hb5 _ _; have HO5 := hide ho5; have HB5 := hide ((unhide HB).trans (((unhide B4).mono (unhide HB).size).trans (((Below.refl W.heap.size V4).alloc hs4 _).trans hb5))); clear ho5 hb5)
                go_roundw
                case rel => exact ⟨i + 1, j, out ++ [x], q5, c5, by omega, by omega, by rw [List.length_append]; rfl, by go_num, by go_num, HMn, HO5, HB5⟩
                case measure => simp [intOf]; omega

          · go_wp2
            refine wp_region_quiet_below (by assumption) (by kernel_rfl) ?_
            repeat (go_big_quiet_step (first | (go_at_fn 76; refine Calls.regrown_of (refCmp _ _ _ fx.1 fx.2))))
            refine wpQuiet_nil ?_
            intro _ hw'
            obtain ⟨⟨dq, osq⟩, hw''⟩ := hw'
            subst hw''
            clear x0 x1 x2 x3 x4 t0 t1 t2 t3 t4
            have B2 := hide (below_sub (unhide BX) (below_regrown X dq osq))
            have K2 := hide (((below_regrown X dq osq).block _ lX).trans (unhide KX))
            generalize grow (redrawn X dq) osq = V2 at B2 K2 ⊢
            have lV2 : wr.heap.size < V2.heap.size := (Array.getElem?_eq_some_iff.1 (unhide K2)).1
            obtain ⟨z0, z1, z2, z3, z4⟩ := cells_of_block (x := zeroKy) (unhide K2)
            have zf := fun o => frozen_free (o := o) (unhide K2)
            have t0 := ((below_sub (unhide HB) (unhide B2)).cell (p := ⟨bt, _, none⟩) hbt).trans tc0
            have t1 := ((below_sub (unhide HB) (unhide B2)).cell (p := ⟨bt, _, none⟩) hbt).trans tc1
            have t2 := ((below_sub (unhide HB) (unhide B2)).cell (p := ⟨bt, _, none⟩) hbt).trans tc2
            have t3 := ((below_sub (unhide HB) (unhide B2)).cell (p := ⟨bt, _, none⟩) hbt).trans tc3
            have t4 := ((below_sub (unhide HB) (unhide B2)).cell (p := ⟨bt, _, none⟩) hbt).trans tc4
            obtain ⟨V3, HV3⟩ : ∃ V3, ((((V2.setCell ⟨wr.heap.size, 0, none⟩ (.string t.attr)).setCell ⟨wr.heap.size, 1, none⟩ (.int .i64 t.kind)).setCell ⟨wr.heap.size, 2, none⟩ (.int .i64 t.level)).setCell ⟨wr.heap.size, 3, none⟩ (.int .i64 t.num)).setCell ⟨wr.heap.size, 4, none⟩ (.string t.word) = V3 := ⟨_, rfl⟩
            have k3 : V3.heap[wr.heap.size]? = some (.cells #[.string t.attr, .int .i64 t.kind, .int .i64 t.level, .int .i64 t.num, .string t.word] 46 (0, 0)) := by rw [← HV3]; exact box_set5 (unhide K2) _ _ _ _ _
            have b3 : Below wr.heap.size wr V3 := by rw [← HV3]; exact (((((unhide B2).setCell (Nat.le_refl _) _).setCell (Nat.le_refl _) _).setCell (Nat.le_refl _) _).setCell (Nat.le_refl _) _).setCell (Nat.le_refl _) _
            go_wp2
            have K3 := hide k3
            have B3 := hide b3
            have HO3 := hide ((unhide HO).below b3)
            have l3 : wr.heap.size < V3.heap.size := (Array.getElem?_eq_some_iff.1 k3).1
            have HMs := hide ((unhide HMr).rightC (unhide SA) (unhide SD) (unhide HXX) (unhide HTT) (by omega))
            clear k3 b3 HV3 z0 z1 z2 z3 z4 zf lV2 K2 B2 t0 t1 t2 t3 t4
            by_cases hout : out.length = 0
            · obtain rfl : out = [] := List.length_eq_zero_iff.1 hout
              go_wp2
              refine wp_region_quiet_below (by assumption) (by kernel_rfl) ?_
              repeat (go_big_quiet_step (fail))
              refine wpQuiet_nil ?_
              intro _ hw'
              obtain ⟨⟨dq, osq⟩, hw''⟩ := hw'
              subst hw''
              have B4 := hide (below_sub (unhide B3) (below_regrown V3 dq osq))
              have HO4 := hide ((unhide HO3).below (below_regrown V3 dq osq))
              have K4 := hide (((below_regrown V3 dq osq).block _ l3).trans (unhide K3))
              generalize grow (redrawn V3 dq) osq = V4 at B4 K4 HO4 ⊢
              have HMn : Hid (Mrg a d (i) (j + 1) ([] ++ [t])) := hide (by have := unhide HMs; rwa [step_new (by simp)] at this)
              obtain ⟨p0, p1, p2, p3, p4⟩ := cells_of_block (unhide K4)
              have hs4 : W.heap.size ≤ V4.heap.size := Nat.le_trans (unhide HB).size (unhide B4).size
              go_wp2_with (at_builtin; refine wpList_app rowP rfl _ _ rfl W.heap.size qo co [] (some ⟨V4.heap.size, 0, none⟩) 1 [t] 0 1 (0 + 1) rfl rfl rfl rfl rfl ((unhide HO4).below ((Below.refl _ _).alloc (Nat.le_refl _) _)) (srcOneK _ _) (by have := unhide HLO; unfold maxLen; omega) (by have := unhide HLO; omega) (by simp; omega) ?_; intro q5 c5 w5 ho5 hb5 _ _; have HO5 := hide ho5; have HB5 := hide ((unhide HB).trans (((unhide B4).mono (unhide HB).size).trans (((Below.refl W.heap.size V4).alloc hs4 _).trans hb5))); clear ho5 hb5)
              go_roundw
              case rel => exact ⟨i, j + 1, [] ++ [t], q5, c5, by omega, by omega, rfl, by go_num, by go_num, HMn, HO5, HB5⟩
              case measure => simp [intOf]; omega
            · obtain ⟨e, he⟩ : ∃ e, out.length = e + 1 := ⟨out.length - 1, by omega⟩
              obtain ⟨z, hz, _⟩ := get_at (l := out) (k := e) (by omega)
              obtain ⟨g, hqo, hBg, hgw, _, _⟩ := (unhide HO3).some_of (by omega)
              subst hqo
              obtain ⟨s0, s1, s2, s3, s4⟩ := (unhide HO3).at2 hz
              obtain ⟨p0, p1, p2, p3, p4⟩ := cells_of_block (unhide K3)
              have s0' := cell_regrown s0
              have s1' := cell_regrown s1
              have s2' := cell_regrown s2
              have s3' := cell_regrown s3
              have s4' := cell_regrown s4
              have p0' := cell_regrown p0
              have p1' := cell_regrown p1
              have p2' := cell_regrown p2
              have p3' := cell_regrown p3
              have p4' := cell_regrown p4
              have hlast : out.getLast? = some z := by rw [List.getLast?_eq_getElem?, he]; exact hz
              have e1 : (0 : Int) ≤ (e : Int) := by omega
              have e2 : (e : Int) < (e : Int) + 1 := by omega
              have e3 : (((e : Int) + 1) == 0) = false := by rw [beq_eq_false_iff_ne]; omega
              have e4 : (e : Int) ≤ 2513169434917 := by have := unhide HLO; omega
              have hne := fun W => neqP z t W
              have HE0 := hide he
              have HLA := hide hlast
              clear s0 s1 s2 s3 s4 p0 p1 p2 p3 p4 hz hlast
              by_cases hzx : z = t
              · rw [show decide (z = t) = true from decide_eq_true hzx] at hne
                have HMn : Hid (Mrg a d (i) (j + 1) out) := hide (by have := unhide HMs; rwa [step_same (by rw [unhide HLA, hzx])] at this)
                clear hzx
                go_wp2
                refine wp_region_quiet_below (by assumption) (by kernel_rfl) ?_
                repeat (go_big_quiet_step (fail))
                refine wpQuiet_nil ?_
                intro _ hw'
                obtain ⟨⟨dq, osq⟩, hw''⟩ := hw'
                subst hw''
                have B4 := hide (below_sub (unhide B3) (below_regrown V3 dq osq))
                have HO4 := hide ((unhide HO3).below (below_regrown V3 dq osq))
                have K4 := hide (((below_regrown V3 dq osq).block _ l3).trans (unhide K3))
                generalize grow (redrawn V3 dq) osq = V4 at B4 K4 HO4 ⊢
                clear s0' s1' s2' s3' s4' p0' p1' p2' p3' p4' hne
                go_wp2
                go_roundw
                case rel => exact ⟨i, j + 1, out, some ⟨g, 0, none⟩, co, by omega, by omega, by rw [unhide HE0], by go_num, by go_num, HMn, HO4, hide (below_sub (unhide HB) (unhide B4))⟩
                case measure => simp [intOf]; omega
              · rw [show decide (z = t) = false from decide_eq_false hzx] at hne
                have HMn : Hid (Mrg a d (i) (j + 1) (out ++ [t])) := hide (by have := unhide HMs; rwa [step_new (by rw [unhide HLA]; intro h; exact hzx (Option.some.inj h))] at this)
                clear hzx
                go_wp2
                refine wp_region_quiet_below (by assumption) (by kernel_rfl) ?_
                repeat (go_big_quiet_step (fail))
                refine wpQuiet_nil ?_
                intro _ hw'
                obtain ⟨⟨dq, osq⟩, hw''⟩ := hw'
                subst hw''
                have B4 := hide (below_sub (unhide B3) (below_regrown V3 dq osq))
                have HO4 := hide ((unhide HO3).below (below_regrown V3 dq osq))
                have K4 := hide (((below_regrown V3 dq osq).block _ l3).trans (unhide K3))
                generalize grow (redrawn V3 dq) osq = V4 at B4 K4 HO4 ⊢
                clear s0' s1' s2' s3' s4' p0' p1' p2' p3' p4' hne he
                obtain ⟨p0, p1, p2, p3, p4⟩ := cells_of_block (unhide K4)
                have hs4 : W.heap.size ≤ V4.heap.size := Nat.le_trans (unhide HB).size (unhide B4).size
                go_wp2_with (at_builtin; refine wpList_app rowP rfl _ _ rfl W.heap.size (some ⟨g, 0, none⟩) co out (some ⟨V4.heap.size, 0, none⟩) 1 [t] out.length 1 (out.length + 1) rfl rfl rfl rfl rfl ((unhide HO4).below ((Below.refl _ _).alloc (Nat.le_refl _) _)) (srcOneK _ _) (by have := unhide HLO; unfold maxLen; omega) (by have := unhide HLO; omega) (by simp; omega) ?_; intro q5 c5 w5 ho5 hb5 _ _; have HO5 := hide ho5; have HB5 := hide ((unhide HB).trans (((unhide B4).mono (unhide HB).size).trans (((Below.refl W.heap.size V4).alloc hs4 _).trans hb5))); clear ho5 hb5)
                go_roundw
                case rel => exact ⟨i, j + 1, out ++ [t], q5, c5, by omega, by omega, by rw [List.length_append]; rfl, by go_num, by go_num, HMn, HO5, HB5⟩
                case measure => simp [intOf]; omega

        · by_cases hi1 : i < a.length
          · obtain rfl : j = d.length := by omega
            obtain ⟨x, hx, _⟩ := get_at hi1
            obtain ⟨bx, ox, hqx, hbx, xc0, xc1, xc2, xc3, xc4⟩ := postAt (unhide S1) hx
            subst hqx
            obtain ⟨X, HX⟩ : ∃ X, wr.alloc (.cells #[.string ⟨#[]⟩, .int .i64 0, .int .i64 0, .int .i64 0, .string ⟨#[]⟩] 46) = X := ⟨_, rfl⟩
            have bX : Below wr.heap.size wr X := by rw [← HX]; exact (Below.refl _ _).alloc (Nat.le_refl _) _
            have kX : X.heap[wr.heap.size]? = some (.cells #[.string ⟨#[]⟩, .int .i64 0, .int .i64 0, .int .i64 0, .string ⟨#[]⟩] 46 (0, 0)) := by rw [← HX]; exact World.alloc_heap_new _ _
            have lX : wr.heap.size < X.heap.size := (Array.getElem?_eq_some_iff.1 kX).1
            have BX := hide bX
            have KX := hide kX
            have c1 : (i : Int) < (a.length : Int) := by omega
            have c0 : (0 : Int) ≤ (i : Int) := by omega
            have HXX := hide hx
            clear lo hx bX kX
            go_wp2
            refine wp_region_quiet_below (by assumption) (by kernel_rfl) ?_
            repeat (go_big_quiet_step (fail))
            refine wpQuiet_nil ?_
            intro _ hw'
            obtain ⟨⟨dq, osq⟩, hw''⟩ := hw'
            subst hw''
            have B2 := hide (below_sub (unhide BX) (below_regrown X dq osq))
            have K2 := hide (((below_regrown X dq osq).block _ lX).trans (unhide KX))
            generalize grow (redrawn X dq) osq = V2 at B2 K2 ⊢
            have lV2 : wr.heap.size < V2.heap.size := (Array.getElem?_eq_some_iff.1 (unhide K2)).1
            obtain ⟨z0, z1, z2, z3, z4⟩ := cells_of_block (x := zeroKy) (unhide K2)
            have zf := fun o => frozen_free (o := o) (unhide K2)
            have x0 := ((below_sub (unhide HB) (unhide B2)).cell (p := ⟨bx, _, none⟩) hbx).trans xc0
            have x1 := ((below_sub (unhide HB) (unhide B2)).cell (p := ⟨bx, _, none⟩) hbx).trans xc1
            have x2 := ((below_sub (unhide HB) (unhide B2)).cell (p := ⟨bx, _, none⟩) hbx).trans xc2
            have x3 := ((below_sub (unhide HB) (unhide B2)).cell (p := ⟨bx, _, none⟩) hbx).trans xc3
            have x4 := ((below_sub (unhide HB) (unhide B2)).cell (p := ⟨bx, _, none⟩) hbx).trans xc4
            obtain ⟨V3, HV3⟩ : ∃ V3, ((((V2.setCell ⟨wr.heap.size, 0, none⟩ (.string x.attr)).setCell ⟨wr.heap.size, 1, none⟩ (.int .i64 x.kind)).setCell ⟨wr.heap.size, 2, none⟩ (.int .i64 x.level)).setCell ⟨wr.heap.size, 3, none⟩ (.int .i64 x.num)).setCell ⟨wr.heap.size, 4, none⟩ (.string x.word) = V3 := ⟨_, rfl⟩
            have k3 : V3.heap[wr.heap.size]? = some (.cells #[.string x.attr, .int .i64 x.kind, .int .i64 x.level, .int .i64 x.num, .string x.word] 46 (0, 0)) := by rw [← HV3]; exact box_set5 (unhide K2) _ _ _ _ _
            have b3 : Below wr.heap.size wr V3 := by rw [← HV3]; exact (((((unhide B2).setCell (Nat.le_refl _) _).setCell (Nat.le_refl _) _).setCell (Nat.le_refl _) _).setCell (Nat.le_refl _) _).setCell (Nat.le_refl _) _
            go_wp2
            have K3 := hide k3
            have B3 := hide b3
            have HO3 := hide ((unhide HO).below b3)
            have l3 : wr.heap.size < V3.heap.size := (Array.getElem?_eq_some_iff.1 k3).1
            have HMs := hide ((unhide HMr).leftE (unhide SA) (unhide HXX) (Nat.le_refl _))
            clear k3 b3 HV3 z0 z1 z2 z3 z4 zf lV2 K2 B2 x0 x1 x2 x3 x4
            by_cases hout : out.length = 0
            · obtain rfl : out = [] := List.length_eq_zero_iff.1 hout
              go_wp2
              refine wp_region_quiet_below (by assumption) (by kernel_rfl) ?_
              repeat (go_big_quiet_step (fail))
              refine wpQuiet_nil ?_
              intro _ hw'
              obtain ⟨⟨dq, osq⟩, hw''⟩ := hw'
              subst hw''
              have B4 := hide (below_sub (unhide B3) (below_regrown V3 dq osq))
              have HO4 := hide ((unhide HO3).below (below_regrown V3 dq osq))
              have K4 := hide (((below_regrown V3 dq osq).block _ l3).trans (unhide K3))
              generalize grow (redrawn V3 dq) osq = V4 at B4 K4 HO4 ⊢
              have HMn : Hid (Mrg a d (i + 1) (d.length) ([] ++ [x])) := hide (by have := unhide HMs; rwa [step_new (by simp)] at this)
              obtain ⟨p0, p1, p2, p3, p4⟩ := cells_of_block (unhide K4)
              have hs4 : W.heap.size ≤ V4.heap.size := Nat.le_trans (unhide HB).size (unhide B4).size
              go_wp2_with (at_builtin; refine wpList_app rowP rfl _ _ rfl W.heap.size qo co [] (some ⟨V4.heap.size, 0, none⟩) 1 [x] 0 1 (0 + 1) rfl rfl rfl rfl rfl ((unhide HO4).below ((Below.refl _ _).alloc (Nat.le_refl _) _)) (srcOneK _ _) (by have := unhide HLO; unfold maxLen; omega) (by have := unhide HLO; omega) (by simp; omega) ?_; intro q5 c5 w5 ho5 hb5 _ _; have HO5 := hide ho5; have HB5 := hide ((unhide HB).trans (((unhide B4).mono (unhide HB).size).trans (((Below.refl W.heap.size V4).alloc hs4 _).trans hb5))); clear ho5 hb5)
              go_roundw
              case rel => exact ⟨i + 1, d.length, [] ++ [x], q5, c5, by omega, by omega, rfl, by go_num, by go_num, HMn, HO5, HB5⟩
              case measure => simp [intOf]; omega
            · obtain ⟨e, he⟩ : ∃ e, out.length = e + 1 := ⟨out.length - 1, by omega⟩
              obtain ⟨z, hz, _⟩ := get_at (l := out) (k := e) (by omega)
              obtain ⟨g, hqo, hBg, hgw, _, _⟩ := (unhide HO3).some_of (by omega)
              subst hqo
              obtain ⟨s0, s1, s2, s3, s4⟩ := (unhide HO3).at2 hz
              obtain ⟨p0, p1, p2, p3, p4⟩ := cells_of_block (unhide K3)
              have s0' := cell_regrown s0
              have s1' := cell_regrown s1
              have s2' := cell_regrown s2
              have s3' := cell_regrown s3
              have s4' := cell_regrown s4
              have p0' := cell_regrown p0
              have p1' := cell_regrown p1
              have p2' := cell_regrown p2
              have p3' := cell_regrown p3
              have p4' := cell_regrown p4
              have hlast : out.getLast? = some z := by rw [List.getLast?_eq_getElem?, he]; exact hz
              have e1 : (0 : Int) ≤ (e : Int) := by omega
              have e2 : (e : Int) < (e : Int) + 1 := by omega
              have e3 : (((e : Int) + 1) == 0) = false := by rw [beq_eq_false_iff_ne]; omega
              have e4 : (e : Int) ≤ 2513169434917 := by have := unhide HLO; omega
              have hne := fun W => neqP z x W
              have HE0 := hide he
              have HLA := hide hlast
              clear s0 s1 s2 s3 s4 p0 p1 p2 p3 p4 hz hlast
              by_cases hzx : z = x
              · rw [show decide (z = x) = true from decide_eq_true hzx] at hne
                have HMn : Hid (Mrg a d (i + 1) (d.length) out) := hide (by have := unhide HMs; rwa [step_same (by rw [unhide HLA, hzx])] at this)
                clear hzx
                go_wp2
                refine wp_region_quiet_below (by assumption) (by kernel_rfl) ?_
                repeat (go_big_quiet_step (fail))
                refine wpQuiet_nil ?_
                intro _ hw'
                obtain ⟨⟨dq, osq⟩, hw''⟩ := hw'
                subst hw''
                have B4 := hide (below_sub (unhide B3) (below_regrown V3 dq osq))
                have HO4 := hide ((unhide HO3).below (below_regrown V3 dq osq))
                have K4 := hide (((below_regrown V3 dq osq).block _ l3).trans (unhide K3))
                generalize grow (redrawn V3 dq) osq = V4 at B4 K4 HO4 ⊢
                clear s0' s1' s2' s3' s4' p0' p1' p2' p3' p4' hne
                go_wp2
                go_roundw
                case rel => exact ⟨i + 1, d.length, out, some ⟨g, 0, none⟩, co, by omega, by omega, by rw [unhide HE0], by go_num, by go_num, HMn, HO4, hide (below_sub (unhide HB) (unhide B4))⟩
                case measure => simp [intOf]; omega
              · rw [show decide (z = x) = false from decide_eq_false hzx] at hne
                have HMn : Hid (Mrg a d (i + 1) (d.length) (out ++ [x])) := hide (by have := unhide HMs; rwa [step_new (by rw [unhide HLA]; intro h; exact hzx (Option.some.inj h))] at this)
                clear hzx
                go_wp2
                refine wp_region_quiet_below (by assumption) (by kernel_rfl) ?_
                repeat (go_big_quiet_step (fail))
                refine wpQuiet_nil ?_
                intro _ hw'
                obtain ⟨⟨dq, osq⟩, hw''⟩ := hw'
                subst hw''
                have B4 := hide (below_sub (unhide B3) (below_regrown V3 dq osq))
                have HO4 := hide ((unhide HO3).below (below_regrown V3 dq osq))
                have K4 := hide (((below_regrown V3 dq osq).block _ l3).trans (unhide K3))
                generalize grow (redrawn V3 dq) osq = V4 at B4 K4 HO4 ⊢
                clear s0' s1' s2' s3' s4' p0' p1' p2' p3' p4' hne he
                obtain ⟨p0, p1, p2, p3, p4⟩ := cells_of_block (unhide K4)
                have hs4 : W.heap.size ≤ V4.heap.size := Nat.le_trans (unhide HB).size (unhide B4).size
                go_wp2_with (at_builtin; refine wpList_app rowP rfl _ _ rfl W.heap.size (some ⟨g, 0, none⟩) co out (some ⟨V4.heap.size, 0, none⟩) 1 [x] out.length 1 (out.length + 1) rfl rfl rfl rfl rfl ((unhide HO4).below ((Below.refl _ _).alloc (Nat.le_refl _) _)) (srcOneK _ _) (by have := unhide HLO; unfold maxLen; omega) (by have := unhide HLO; omega) (by simp; omega) ?_; intro q5 c5 w5 ho5 hb5 _ _; have HO5 := hide ho5; have HB5 := hide ((unhide HB).trans (((unhide B4).mono (unhide HB).size).trans (((Below.refl W.heap.size V4).alloc hs4 _).trans hb5))); clear ho5 hb5)
                go_roundw
                case rel => exact ⟨i + 1, d.length, out ++ [x], q5, c5, by omega, by omega, by rw [List.length_append]; rfl, by go_num, by go_num, HMn, HO5, HB5⟩
                case measure => simp [intOf]; omega

          · obtain rfl : i = a.length := by omega
            have hj1 : j < d.length := by omega
            obtain ⟨t, ht, _⟩ := get_at hj1
            obtain ⟨bt, ot, hqt, hbt, tc0, tc1, tc2, tc3, tc4⟩ := postAt (unhide S2) ht
            subst hqt
            obtain ⟨X, HX⟩ : ∃ X, wr.alloc (.cells #[.string ⟨#[]⟩, .int .i64 0, .int .i64 0, .int .i64 0, .string ⟨#[]⟩] 46) = X := ⟨_, rfl⟩
            have bX : Below wr.heap.size wr X := by rw [← HX]; exact (Below.refl _ _).alloc (Nat.le_refl _) _
            have kX : X.heap[wr.heap.size]? = some (.cells #[.string ⟨#[]⟩, .int .i64 0, .int .i64 0, .int .i64 0, .string ⟨#[]⟩] 46 (0, 0)) := by rw [← HX]; exact World.alloc_heap_new _ _
            have lX : wr.heap.size < X.heap.size := (Array.getElem?_eq_some_iff.1 kX).1
            have BX := hide bX
            have KX := hide kX
            have c2 : (j : Int) < (d.length : Int) := by omega
            have e0 : (0 : Int) ≤ (j : Int) := by omega
            have eb : ((j : Int) == (d.length : Int)) = false := by rw [beq_eq_false_iff_ne]; omega
            have HTT := hide ht
            clear lo ht bX kX
            go_wp2
            refine wp_region_quiet_below (by assumption) (by kernel_rfl) ?_
            repeat (go_big_quiet_step (fail))
            refine wpQuiet_nil ?_
            intro _ hw'
            obtain ⟨⟨dq, osq⟩, hw''⟩ := hw'
            subst hw''
            have B2 := hide (below_sub (unhide BX) (below_regrown X dq osq))
            have K2 := hide (((below_regrown X dq osq).block _ lX).trans (unhide KX))
            generalize grow (redrawn X dq) osq = V2 at B2 K2 ⊢
            have lV2 : wr.heap.size < V2.heap.size := (Array.getElem?_eq_some_iff.1 (unhide K2)).1
            obtain ⟨z0, z1, z2, z3, z4⟩ := cells_of_block (x := zeroKy) (unhide K2)
            have zf := fun o => frozen_free (o := o) (unhide K2)
            have t0 := ((below_sub (unhide HB) (unhide B2)).cell (p := ⟨bt, _, none⟩) hbt).trans tc0
            have t1 := ((below_sub (unhide HB) (unhide B2)).cell (p := ⟨bt, _, none⟩) hbt).trans tc1
            have t2 := ((below_sub (unhide HB) (unhide B2)).cell (p := ⟨bt, _, none⟩) hbt).trans tc2
            have t3 := ((below_sub (unhide HB) (unhide B2)).cell (p := ⟨bt, _, none⟩) hbt).trans tc3
            have t4 := ((below_sub (unhide HB) (unhide B2)).cell (p := ⟨bt, _, none⟩) hbt).trans tc4
            obtain ⟨V3, HV3⟩ : ∃ V3, ((((V2.setCell ⟨wr.heap.size, 0, none⟩ (.string t.attr)).setCell ⟨wr.heap.size, 1, none⟩ (.int .i64 t.kind)).setCell ⟨wr.heap.size, 2, none⟩ (.int .i64 t.level)).setCell ⟨wr.heap.size, 3, none⟩ (.int .i64 t.num)).setCell ⟨wr.heap.size, 4, none⟩ (.string t.word) = V3 := ⟨_, rfl⟩
            have k3 : V3.heap[wr.heap.size]? = some (.cells #[.string t.attr, .int .i64 t.kind, .int .i64 t.level, .int .i64 t.num, .string t.word] 46 (0, 0)) := by rw [← HV3]; exact box_set5 (unhide K2) _ _ _ _ _
            have b3 : Below wr.heap.size wr V3 := by rw [← HV3]; exact (((((unhide B2).setCell (Nat.le_refl _) _).setCell (Nat.le_refl _) _).setCell (Nat.le_refl _) _).setCell (Nat.le_refl _) _).setCell (Nat.le_refl _) _
            go_wp2
            have K3 := hide k3
            have B3 := hide b3
            have HO3 := hide ((unhide HO).below b3)
            have l3 : wr.heap.size < V3.heap.size := (Array.getElem?_eq_some_iff.1 k3).1
            have HMs := hide ((unhide HMr).rightE (unhide SD) (unhide HTT) (Nat.le_refl _))
            clear k3 b3 HV3 z0 z1 z2 z3 z4 zf lV2 K2 B2 t0 t1 t2 t3 t4
            by_cases hout : out.length = 0
            · obtain rfl : out = [] := List.length_eq_zero_iff.1 hout
              go_wp2
              refine wp_region_quiet_below (by assumption) (by kernel_rfl) ?_
              repeat (go_big_quiet_step (fail))
              refine wpQuiet_nil ?_
              intro _ hw'
              obtain ⟨⟨dq, osq⟩, hw''⟩ := hw'
              subst hw''
              have B4 := hide (below_sub (unhide B3) (below_regrown V3 dq osq))
              have HO4 := hide ((unhide HO3).below (below_regrown V3 dq osq))
              have K4 := hide (((below_regrown V3 dq osq).block _ l3).trans (unhide K3))
              generalize grow (redrawn V3 dq) osq = V4 at B4 K4 HO4 ⊢
              have HMn : Hid (Mrg a d (a.length) (j + 1) ([] ++ [t])) := hide (by have := unhide HMs; rwa [step_new (by simp)] at this)
              obtain ⟨p0, p1, p2, p3, p4⟩ := cells_of_block (unhide K4)
              have hs4 : W.heap.size ≤ V4.heap.size := Nat.le_trans (unhide HB).size (unhide B4).size
              go_wp2_with (at_builtin; refine wpList_app rowP rfl _ _ rfl W.heap.size qo co [] (some ⟨V4.heap.size, 0, none⟩) 1 [t] 0 1 (0 + 1) rfl rfl rfl rfl rfl ((unhide HO4).below ((Below.refl _ _).alloc (Nat.le_refl _) _)) (srcOneK _ _) (by have := unhide HLO; unfold maxLen; omega) (by have := unhide HLO; omega) (by simp; omega) ?_; intro q5 c5 w5 ho5 hb5 _ _; have HO5 := hide ho5; have HB5 := hide ((unhide HB).trans (((unhide B4).mono (unhide HB).size).trans (((Below.refl W.heap.size V4).alloc hs4 _).trans hb5))); clear ho5 hb5)
              go_roundw
              case rel => exact ⟨a.length, j + 1, [] ++ [t], q5, c5, by omega, by omega, rfl, by go_num, by go_num, HMn, HO5, HB5⟩
              case measure => simp [intOf]; omega
            · obtain ⟨e, he⟩ : ∃ e, out.length = e + 1 := ⟨out.length - 1, by omega⟩
              obtain ⟨z, hz, _⟩ := get_at (l := out) (k := e) (by omega)
              obtain ⟨g, hqo, hBg, hgw, _, _⟩ := (unhide HO3).some_of (by omega)
              subst hqo
              obtain ⟨s0, s1, s2, s3, s4⟩ := (unhide HO3).at2 hz
              obtain ⟨p0, p1, p2, p3, p4⟩ := cells_of_block (unhide K3)
              have s0' := cell_regrown s0
              have s1' := cell_regrown s1
              have s2' := cell_regrown s2
              have s3' := cell_regrown s3
              have s4' := cell_regrown s4
              have p0' := cell_regrown p0
              have p1' := cell_regrown p1
              have p2' := cell_regrown p2
              have p3' := cell_regrown p3
              have p4' := cell_regrown p4
              have hlast : out.getLast? = some z := by rw [List.getLast?_eq_getElem?, he]; exact hz
              have e1 : (0 : Int) ≤ (e : Int) := by omega
              have e2 : (e : Int) < (e : Int) + 1 := by omega
              have e3 : (((e : Int) + 1) == 0) = false := by rw [beq_eq_false_iff_ne]; omega
              have e4 : (e : Int) ≤ 2513169434917 := by have := unhide HLO; omega
              have hne := fun W => neqP z t W
              have HE0 := hide he
              have HLA := hide hlast
              clear s0 s1 s2 s3 s4 p0 p1 p2 p3 p4 hz hlast
              by_cases hzx : z = t
              · rw [show decide (z = t) = true from decide_eq_true hzx] at hne
                have HMn : Hid (Mrg a d (a.length) (j + 1) out) := hide (by have := unhide HMs; rwa [step_same (by rw [unhide HLA, hzx])] at this)
                clear hzx
                go_wp2
                refine wp_region_quiet_below (by assumption) (by kernel_rfl) ?_
                repeat (go_big_quiet_step (fail))
                refine wpQuiet_nil ?_
                intro _ hw'
                obtain ⟨⟨dq, osq⟩, hw''⟩ := hw'
                subst hw''
                have B4 := hide (below_sub (unhide B3) (below_regrown V3 dq osq))
                have HO4 := hide ((unhide HO3).below (below_regrown V3 dq osq))
                have K4 := hide (((below_regrown V3 dq osq).block _ l3).trans (unhide K3))
                generalize grow (redrawn V3 dq) osq = V4 at B4 K4 HO4 ⊢
                clear s0' s1' s2' s3' s4' p0' p1' p2' p3' p4' hne
                go_wp2
                go_roundw
                case rel => exact ⟨a.length, j + 1, out, some ⟨g, 0, none⟩, co, by omega, by omega, by rw [unhide HE0], by go_num, by go_num, HMn, HO4, hide (below_sub (unhide HB) (unhide B4))⟩
                case measure => simp [intOf]; omega
              · rw [show decide (z = t) = false from decide_eq_false hzx] at hne
                have HMn : Hid (Mrg a d (a.length) (j + 1) (out ++ [t])) := hide (by have := unhide HMs; rwa [step_new (by rw [unhide HLA]; intro h; exact hzx (Option.some.inj h))] at this)
                clear hzx
                go_wp2
                refine wp_region_quiet_below (by assumption) (by kernel_rfl) ?_
                repeat (go_big_quiet_step (fail))
                refine wpQuiet_nil ?_
                intro _ hw'
                obtain ⟨⟨dq, osq⟩, hw''⟩ := hw'
                subst hw''
                have B4 := hide (below_sub (unhide B3) (below_regrown V3 dq osq))
                have HO4 := hide ((unhide HO3).below (below_regrown V3 dq osq))
                have K4 := hide (((below_regrown V3 dq osq).block _ l3).trans (unhide K3))
                generalize grow (redrawn V3 dq) osq = V4 at B4 K4 HO4 ⊢
                clear s0' s1' s2' s3' s4' p0' p1' p2' p3' p4' hne he
                obtain ⟨p0, p1, p2, p3, p4⟩ := cells_of_block (unhide K4)
                have hs4 : W.heap.size ≤ V4.heap.size := Nat.le_trans (unhide HB).size (unhide B4).size
                go_wp2_with (at_builtin; refine wpList_app rowP rfl _ _ rfl W.heap.size (some ⟨g, 0, none⟩) co out (some ⟨V4.heap.size, 0, none⟩) 1 [t] out.length 1 (out.length + 1) rfl rfl rfl rfl rfl ((unhide HO4).below ((Below.refl _ _).alloc (Nat.le_refl _) _)) (srcOneK _ _) (by have := unhide HLO; unfold maxLen; omega) (by have := unhide HLO; omega) (by simp; omega) ?_; intro q5 c5 w5 ho5 hb5 _ _; have HO5 := hide ho5; have HB5 := hide ((unhide HB).trans (((unhide B4).mono (unhide HB).size).trans (((Below.refl W.heap.size V4).alloc hs4 _).trans hb5))); clear ho5 hb5)
                go_roundw
                case rel => exact ⟨a.length, j + 1, out ++ [t], q5, c5, by omega, by omega, by rw [List.length_append]; rfl, by go_num, by go_num, HMn, HO5, HB5⟩
                case measure => simp [intOf]; omega

theorem sort_any (n : Nat) : ∀ l : List Ky, l.length ≤ n → l.length * 56 ≤ 140737488355328 → FitK l → SortsK l := by
  induction n with
  | zero => exact fun l h _ _ => sort_small l (by omega)
  | succ n ih =>
    intro l h hl hf
    by_cases h2 : l.length < 2
    · exact sort_small l h2
    · refine sort_step l (by omega) hl hf _ _ rfl rfl (ih _ ?_ ?_ ?_) (ih _ ?_ ?_ ?_)
      · rw [List.length_take]; omega
      · rw [List.length_take]; omega
      · exact fun x hx => hf x (List.mem_of_mem_take hx)
      · rw [List.length_drop]; omega
      · rw [List.length_drop]; omega
      · exact fun x hx => hf x (List.mem_of_mem_drop hx)
/-- trommelref12.Sort. -/
theorem refSort (l : List Ky) (hl : l.length * 56 ≤ 140737488355328) (hf : FitK l) : SortsK l := sort_any l.length l (Nat.le_refl _) hl hf
end Go.Proofs.YtedakipjfpdajaaGreatDoor

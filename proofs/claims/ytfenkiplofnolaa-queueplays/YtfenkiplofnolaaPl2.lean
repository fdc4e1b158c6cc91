/- The document's Heads. -/
import Derived.Test.YtfenkiplofnolaaPl1
namespace Go.Proofs.Ytfenkiplofnolaa
open Go.RowKit Go.Sort

structure RFam (w : World) (dom : Nat → Prop) (pf : Nat → Option Addr) (df mf : Nat → Nat) (lf : Nat → List Int) : Prop where
  r : ∀ g, dom g → RIn w g (pf g) (df g) (mf g) (lf g)
  rp : ∀ g g', dom g → dom g' → ∀ i, (pf g).map (·.block) = some i → i ≠ g'
variable {w w' : World} {dom : Nat → Prop} {pf : Nat → Option Addr} {df mf : Nat → Nat} {lf : Nat → List Int}
theorem RFam.below (h : RFam w dom pf df mf lf) (hb : Below w.heap.size w w') : RFam w' dom pf df mf lf := ⟨fun g hg => (h.r g hg).below hb, h.rp⟩
theorem RIn.keep {w w' : World} {r : Nat} {p : Option Addr} {d m : Nat} {l : List Int} (h : RIn w r p d m l) (hs : w.heap.size ≤ w'.heap.size) (h1 : w'.heap[r]? = w.heap[r]?) (h2 : ∀ i, p.map (·.block) = some i → w'.heap[i]? = w.heap[i]?) : RIn w' r p d m l := ⟨h1.trans h.1, h.2.1.keep hs h2, h.2.2.1, h.2.2.2.1, h.2.2.2.2.1, fun i hi => Nat.lt_of_lt_of_le (h.2.2.2.2.2 i hi) hs⟩
theorem RFam.congr {lf' : Nat → List Int} (h : RFam w dom pf df mf lf) (e : ∀ g, dom g → lf' g = lf g) : RFam w dom pf df mf lf' := ⟨fun g hg => by rw [e g hg]; exact h.r g hg, h.rp⟩
theorem RFam.turn (h : RFam w dom pf df mf lf) {g : Nat} (hg : dom g) {p' : Option Addr} {d' : Nat} {l' : List Int} (hR : RIn w' g p' d' (mf g) l') (hm : w.grownBy w' (some g)) (hp : p'.map (·.block) = (pf g).map (·.block)) : RFam w' dom (upd pf g p') (upd df g d') mf (upd lf g l') := by
  refine ⟨fun g' hg' => ?_, fun g1 g2 h1 h2 i hi => ?_⟩
  · by_cases e : g' = g
    · subst e
      rw [upd_same, upd_same, upd_same]
      exact hR
    · rw [upd_ne _ _ e, upd_ne _ _ e, upd_ne _ _ e]
      exact (h.r g' hg').keep hm.size (hm.block g' (h.r g' hg').lt (fun q => e (by injection q))) fun i hi => hm.block i ((h.r g' hg').2.2.2.2.2 i hi) (fun q => h.rp g' g hg' hg i hi (by injection q))
  · by_cases e1 : g1 = g
    · subst e1
      rw [upd_same, hp] at hi
      exact h.rp g1 g2 h1 h2 i hi
    · rw [upd_ne _ _ e1] at hi
      exact h.rp g1 g2 h1 h2 i hi
theorem eq_ptr26 {w : World} {a b : Nat} (ha : Cel w a) (hb : Cel w b) : (binOp .eql 26 (.pointer (some ⟨a, 0, none⟩)) (.pointer (some ⟨b, 0, none⟩))).run Try.prog w = .ok (.bool (decide (a = b))) w := by
  obtain ⟨ca, ta, ha⟩ := ha
  obtain ⟨cb, tb, hb⟩ := hb
  have u := Try.underlying26
  have z : (sizeOf 78).run Try.prog w = .ok 2 w := by kernel_rfl
  simp only [binOp]
  unfold Op.equal
  rw [show Op.maxDepth = 9999 + 1 from rfl]
  unfold Op.equalIn
  by_cases h : a = b
  · subst h
    simp [run_underlying u, z, run_sameAddr_same]
  · have hne : (⟨a, 0, none⟩ : Addr) ≠ ⟨b, 0, none⟩ := fun e => h (by injection e)
    simp [run_underlying u, z, run_sameAddr_other w hne ha hb, h]
theorem RIn.cel {w : World} {r : Nat} {p : Option Addr} {d m : Nat} {l : List Int} (h : RIn w r p d m l) : Cel w r := ⟨_, _, h.1⟩
theorem Cel.below {w w' : World} {g : Nat} (h : Cel w g) (hb : Below w.heap.size w w') : Cel w' g := by
  obtain ⟨cs, t, h⟩ := h
  exact ⟨cs, t, (hb.block g (Array.getElem?_eq_some_iff.1 h).1).trans h⟩
theorem count_step {l : List Nat} {k x y : Nat} (h : l[k]? = some y) : (l.take (k + 1)).count x = (l.take k).count x + (if y = x then 1 else 0) := by
  rw [take_snoc_of h, List.count_append]
  congr 1
  by_cases e : y = x
  · subst e; simp
  · rw [if_neg e]; simp [e]
theorem upd_blk {pf : Nat → Option Addr} {x : Nat} {p' : Option Addr} (h : p'.map (·.block) = (pf x).map (·.block)) (g : Nat) : (upd pf x p' g).map (·.block) = (pf g).map (·.block) := by
  by_cases e : g = x
  · subst e; rw [upd_same]; exact h
  · rw [upd_ne _ _ e]
theorem rfam_app {w w3 w4 : World} {dom : Nat → Prop} {pf : Nat → Option Addr} {df mf : Nat → Nat} {lf : Nat → List Int} (h : RFam w3 dom pf df mf lf) (b : Below w.heap.size w3 w4) (h1 : ∀ g, dom g → g < w.heap.size) (h2 : ∀ g, dom g → ∀ i, (pf g).map (·.block) = some i → i < w.heap.size) : RFam w4 dom pf df mf lf :=
  ⟨fun g hg => (h.r g hg).keep b.size (b.block g (h1 g hg)) (fun i hi => b.block i (h2 g hg i hi)), h.rp⟩
/-- Each has an item for each time that it stands there. -/
def Enough (rs : List Nat) (lf : Nat → List Int) : Prop := ∀ g ∈ rs, rs.count g ≤ (lf g).length
/-- The first loop: does each list have enough? -/
def Okk (rs : List Nat) (lf : Nat → List Int) (i : Nat) : Prop := ∀ j x, j < i → rs[j]? = some x → rs.count x ≤ (lf x).length
set_option maxHeartbeats 8000000 in
set_option maxRecDepth 100000 in
theorem rheads_any (p : Option Addr) (c : Nat) (rs : List Nat) (w : World) (hs : SlOf encG 1 w p c rs) (hd : ∀ g ∈ rs, dom g) (hf : RFam w dom pf df mf lf) (hl : rs.length * 8 ≤ 140737488355328) (hso : ∀ a, p = some a → ¬ dom a.block) :
    Calls Try.prog 18 #[.slice p rs.length c] w fun e w' => (¬ Enough rs lf ∧ e = .returned (.tuple #[.slice none 0 0, .bool false]) ∧ Below w.heap.size w w') ∨ (Enough rs lf ∧ (∃ q' c', e = .returned (.tuple #[.slice q' rs.length c', .bool true]) ∧ OwnK encI 3 1 w.heap.size w' q' c' (heads rs lf)) ∧ (∃ pf' df', RFam w' dom pf' df' mf (fun g => (lf g).drop (rs.count g)) ∧ ∀ g, (pf' g).map (·.block) = (pf g).map (·.block)) ∧ Kpt (fun i => ¬ dom i) w w') := by
  have mixed : Try.prog.follows .mixedOrders = true := by kernel_rfl
  have n0 : (rs.length : Int) ≤ 100000000000000 := by omega
  have HS := hide hs
  have HF := hide hf
  have HD := hide hd
  have HSO := hide hso
  clear hs hf hd hso
  go_enter Try.func18, Try.ntmps18
  go_wp2
  go_loopw [4] (fun i wr => ∃ k : Nat, k ≤ rs.length ∧ i = .int .i64 k ∧ Hid (Okk rs lf k) ∧ Hid (Below w.heap.size w wr)) (fun i _ => rs.length - (intOf i).toNat)
  case atStart => exact ⟨0, by omega, rfl, hide (fun j x hj _ => by omega), hide (Below.refl _ _)⟩
  case round =>
    obtain ⟨k, hk, rfl, HC, HB⟩ := hrel
    by_cases hlt : k < rs.length
    · obtain ⟨x, hx, _⟩ := get_at hlt
      have hxm := List.mem_of_getElem? hx
      have ki0 : (0 : Int) ≤ (k : Int) := by omega
      have ki1 : (k : Int) < (rs.length : Int) := by omega
      obtain ⟨V0, hV0⟩ : ∃ V0, V0 = wr := ⟨_, rfl⟩
      have HB0 := HB
      rw [← hV0] at HB0
      go_wp2
      go_loopw [5, 6] (fun a b wi => ∃ j : Nat, j ≤ rs.length ∧ b = .int .i64 j ∧ a = .int .i64 ((rs.take j).count x : Nat) ∧ Hid (Below w.heap.size w wi)) (fun _ b _ => rs.length - (intOf b).toNat)
      case atStart => exact ⟨0, by omega, rfl, rfl, by first | exact HB | exact HB0⟩
      case round =>
        obtain ⟨j, hj, rfl, rfl, HI⟩ := hrel
        by_cases hjlt : j < rs.length
        · obtain ⟨y, hy, _⟩ := get_at hjlt
          obtain ⟨b, off, hp, hbl, hcx⟩ := ptrAt ((unhide HS).below (unhide HI)) hx
          obtain ⟨b', off', hp', _, hcy⟩ := ptrAt ((unhide HS).below (unhide HI)) hy
          rw [hp] at hp'
          injection hp' with hp'
          injection hp' with e1 e2
          subst e1 e2
          subst hp
          have hym := List.mem_of_getElem? hy
          have ji0 : (0 : Int) ≤ (j : Int) := by omega
          have ji1 : (j : Int) < (rs.length : Int) := by omega
          have cx := (((unhide HF).r x (unhide HD x hxm)).below (unhide HI)).cel
          have cy := (((unhide HF).r y (unhide HD y hym)).below (unhide HI)).cel
          have q1 := fun d os => eq_ptr26 (cy.below (below_regrown wr d os)) (cx.below (below_regrown wr d os))
          have g1 := cell_regrown hcy
          have g2 := cell_regrown hcx
          have hst := count_step (x := x) hy
          have hcnt : (rs.take j).count x ≤ j := Nat.le_trans List.count_le_length (by simp; omega)
          obtain ⟨n, hn⟩ : ∃ n, (rs.take j).count x = n := ⟨_, rfl⟩
          rw [hn] at hst hcnt
          rw [hn]
          have hwn := wrap_nat (n + 1) (by omega)
          by_cases hyx : y = x
          · rw [if_pos hyx] at hst
            rw [decide_eq_true hyx] at q1
            have HST := hide hst
            clear hy hym cx cy hst hn hyx
            go_wp2
            refine wp_region_quiet_below (by assumption) (by kernel_rfl) ?_
            repeat (go_big_quiet_step (fail))
            refine wpQuiet_nil ?_
            intro _ hw'
            obtain ⟨⟨dq, osq⟩, hw''⟩ := hw'
            subst hw''
            clear q1 g1 g2
            go_wp2
            go_roundw
            case rel => exact ⟨j + 1, by omega, by go_num, by rw [unhide HST]; go_num, hide ((unhide HI).trans ((below_regrown _ _ _).mono (unhide HI).size))⟩
            case measure => simp [intOf]; omega
          · rw [if_neg hyx, Nat.add_zero] at hst
            rw [decide_eq_false hyx] at q1
            have HST := hide hst
            clear hy hym cx cy hst hn hyx
            go_wp2
            refine wp_region_quiet_below (by assumption) (by kernel_rfl) ?_
            repeat (go_big_quiet_step (fail))
            refine wpQuiet_nil ?_
            intro _ hw'
            obtain ⟨⟨dq, osq⟩, hw''⟩ := hw'
            subst hw''
            clear q1 g1 g2
            go_wp2
            go_roundw
            case rel => exact ⟨j + 1, by omega, by go_num, by rw [unhide HST]; rfl, hide ((unhide HI).trans ((below_regrown _ _ _).mono (unhide HI).size))⟩
            case measure => simp [intOf]; omega
        · obtain rfl : rs.length = j := by omega
          have ji1 : ¬ (rs.length : Int) < (rs.length : Int) := by omega
          rw [List.take_length]
          obtain ⟨b, off, hp, hbl, hcx⟩ := ptrAt ((unhide HS).below (unhide HI)) hx
          subst hp
          obtain ⟨c0, _⟩ := cells2 (((unhide HF).r x (unhide HD x hxm)).below (unhide HI)).1
          have HXM := hide hxm
          have HX := hide hx
          clear hxm hx
          by_cases hle : (lf x).length < rs.count x
          · have hle1 : ((lf x).length : Int) < ((rs.count x : Nat) : Int) := by omega
            go_wp2
            go_ret2
            exact Or.inl ⟨fun h => by have := h x (unhide HXM); omega, rfl, unhide HI⟩
          · have hle1 : ¬ ((lf x).length : Int) < ((rs.count x : Nat) : Int) := by omega
            have HOK := hide (show Okk rs lf (k + 1) from fun j' x' hj' hx' => by
              by_cases e : j' = k
              · subst e
                rw [unhide HX] at hx'
                cases hx'
                omega
              · exact unhide HC j' x' (by omega) hx')
            go_wp2
            go_roundw
            case rel => exact ⟨k + 1, by omega, by go_num, HOK, HI⟩
            case measure => simp [intOf]; omega
    · obtain rfl : rs.length = k := by omega
      have ki1 : ¬ (rs.length : Int) < (rs.length : Int) := by omega
      have hall : Enough rs lf := fun g hg => by
        obtain ⟨j, hj⟩ := List.mem_iff_getElem?.1 hg
        exact unhide HC j g (List.getElem?_eq_some_iff.1 hj).1 hj
      have HA := hide hall
      have HRL := hide (show ∀ g, dom g → ∀ i, (pf g).map (·.block) = some i → i < w.heap.size from fun g hg => ((unhide HF).r g hg).2.2.2.2.2)
      obtain ⟨V1, hV1⟩ : ∃ V1, wr = V1 := ⟨_, rfl⟩
      have hf1 := (unhide HF).below (unhide HB)
      have hk1 : Kpt (fun i => ¬ dom i) w wr := Kpt.of (unhide HB)
      rw [hV1] at hf1 hk1
      have HF1 := hide hf1
      have HK1 := hide hk1
      clear hall hf1 hk1
      go_wp2
      clear hV1
      go_loopw [7, 8] (fun s i wi => ∃ (k : Nat) (qo : Option Addr) (co : Nat) (pf' : Nat → Option Addr) (df' : Nat → Nat), k ≤ rs.length ∧ i = .int .i64 k ∧ s = .slice qo k co ∧ Hid (OwnK encI 3 1 w.heap.size wi qo co ((List.range k).map (hv rs lf))) ∧ Hid (RFam wi dom pf' df' mf (fun g => (lf g).drop ((rs.take k).count g))) ∧ Hid (∀ g, (pf' g).map (·.block) = (pf g).map (·.block)) ∧ Hid (Kpt (fun i => ¬ dom i) w wi)) (fun _ i _ => rs.length - (intOf i).toNat)
      case atStart => exact ⟨0, none, 0, pf, df, by omega, rfl, rfl, hide (OwnK.nil _ _), hide ((unhide HF1).congr (fun g _ => by simp)), hide (fun _ => rfl), HK1⟩
      case round =>
        obtain ⟨k, qo, co, pf', df', hk, rfl, rfl, HO, HFm, HPF, HK⟩ := hrel
        by_cases hlt : k < rs.length
        · obtain ⟨x, hx, _⟩ := get_at hlt
          obtain ⟨bq, off, hp, hbl, hcell0⟩ := ptrAt (unhide HS) hx
          have hcell : wr.cell? ⟨bq, off + k, none⟩ = some (.pointer (some ⟨x, 0, none⟩)) := by
            have hbk := (unhide HK).block bq (unhide HSO ⟨bq, off, none⟩ hp) hbl
            unfold World.cell? at hcell0 ⊢
            rw [hbk]
            exact hcell0
          subst hp
          have ki0 : (0 : Int) ≤ (k : Int) := by omega
          have ki2 : (k : Int) < (rs.length : Int) := by omega
          have hdx := unhide HD x (List.mem_of_getElem? hx)
          obtain ⟨n, hn⟩ : ∃ n, (rs.take k).count x = n := ⟨_, rfl⟩
          have hnl : n < (lf x).length := by
            have h1 := unhide HA x (List.mem_of_getElem? hx)
            have h2 := count_take_le rs (k + 1) x
            have h3 : (rs.take (k + 1)).count x = n + 1 := by have := congrFun (count_snoc hx) x; rw [← hn]; simpa [upN] using this
            omega
          obtain ⟨d1, d2⟩ := drop_take1 hnl
          have htake := rtake x (pf' x) (df' x) (mf x) _ 1 wr ((unhide HFm).r x hdx) (fun i hi => (unhide HFm).rp x x hdx hdx i hi)
          rw [hn, show takeN 1 ((lf x).drop n).length = 1 by unfold takeN; rw [List.length_drop]; omega, d1, d2] at htake
          have hhv : hv rs lf k = (lf x).getD n 0 := by rw [heads_at hx, hn]
          rw [← hhv] at htake
          have hfe : ∀ g, (lf g).drop ((rs.take (k + 1)).count g) = upd (fun g => (lf g).drop ((rs.take k).count g)) x ((lf x).drop (n + 1)) g := fun g => by
            have h3 := congrFun (count_snoc hx) g
            rw [hn] at h3
            by_cases hg : g = x
            · subst hg; rw [upd_same]; rw [h3]; unfold upN; rw [if_pos rfl]
            · rw [upd_ne _ _ hg]; rw [h3]; unfold upN; rw [if_neg hg]
          have hcb : (cutK 1 (pf' x) (df' x) 1).map (·.block) = (pf' x).map (·.block) := by
            unfold cutK
            split
            · rfl
            · cases pf' x with
              | none => rfl
              | some a => rw [Option.map_some, Option.map_some, Option.map_some, add_block]
          have hrs : (List.range (k + 1)).map (hv rs lf) = (List.range k).map (hv rs lf) ++ [hv rs lf k] := by rw [List.range_succ, List.map_append]; rfl
          have HFE := hide hfe
          have HRS := hide hrs
          have HDX := hide hdx
          have HCB := hide hcb
          have HXL := hide ((unhide HF).r x hdx).lt
          generalize hv rs lf k = vv at htake HRS
          clear hfe hrs hdx hx hn hnl d1 d2 hhv hcell0 hcb
          go_wp2_with (first
            | (go_at_call 15; refine htake.mono ?_; rintro e w3 ⟨rfl, s3, r3, g3⟩; have F3 := hide ((unhide HFm).turn (unhide HDX) r3 g3 (unhide HCB)); have S3 := hide s3; have HO3 := hide ((unhide HO).keep (w' := w3) (fun i hi => g3.block i ((unhide HO).blk hi).2 (fun q => by have h1 := ((unhide HO).blk hi).1; have h2 := unhide HXL; injection q with q; omega))); have K3 := hide ((unhide HK).trans ⟨g3.os, g3.tape, g3.output, g3.size, fun i hi hs => g3.block i hs (fun q => hi (by injection q with q; rw [q]; exact unhide HDX))⟩); clear s3 r3 g3)
            | (at_builtin; refine wpList_appK rowI rfl _ _ rfl w.heap.size qo co ((List.range k).map (hv rs lf)) (pf' x) (df' x) [vv] k 1 (k + 1) (by simp) rfl rfl rfl rfl (unhide HO3) (unhide S3).src (by unfold maxLen; omega) (by omega) (unhide K3).size ?_; intro q4 c4 w4 o4 b4 s4; have O4 := hide o4; have F4 := hide (rfam_app (unhide F3) b4 (fun g hg => ((unhide HF).r g hg).lt) (fun g hg i hi => unhide HRL g hg i (by rw [← hi]; exact ((upd_blk (unhide HCB) g).trans (unhide HPF g)).symm))); have K4 := hide ((unhide K3).app b4); clear o4 b4 s4))
          go_roundw
          case rel => exact ⟨k + 1, q4, c4, _, _, by omega, by go_num, rfl, hide (by rw [unhide HRS]; exact unhide O4), hide ((unhide F4).congr (fun g _ => unhide HFE g)), hide (fun g => (upd_blk (unhide HCB) g).trans (unhide HPF g)), K4⟩
          case measure => simp [intOf]; omega
        · obtain rfl : rs.length = k := by omega
          have ki2 : ¬ (rs.length : Int) < (rs.length : Int) := by omega
          have hfm := unhide HFm
          simp only [List.take_length] at hfm
          have HFN := hide hfm
          clear hfm
          go_wp2
          go_ret2
          exact Or.inr ⟨unhide HA, ⟨qo, co, rfl, unhide HO⟩, ⟨pf', ⟨df', unhide HFN⟩, unhide HPF⟩, unhide HK⟩
end Go.Proofs.Ytfenkiplofnolaa

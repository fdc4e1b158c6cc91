/- Many queues side by side; Heads. -/
import Derived.Test.YtfenkiplofnolaaRdy
namespace Go.Proofs.Ytfenkiplofnolaa
open Go.RowKit Go.Sort Go.Shelf

structure Fam (w : World) (dom : Nat → Prop) (qf : Nat → Option Addr) (cf mf : Nat → Nat) (lf : Nat → List Int) : Prop where
  q : ∀ g, dom g → QIn encI 3 1 51 w g (qf g) (cf g) (mf g) (lf g)
  ap : ∀ g g', dom g → dom g' → g ≠ g' → ∀ i, Ft g (qf g) i → ¬ Ft g' (qf g') i
/-- The blocks of no queue. -/
def Out (dom : Nat → Prop) (qf : Nat → Option Addr) (i : Nat) : Prop := ∀ g, dom g → ¬ Ft g (qf g) i
def upd {α : Type} (f : Nat → α) (g : Nat) (v : α) : Nat → α := fun i => if i = g then v else f i
theorem upd_same {α : Type} (f : Nat → α) (g : Nat) (v : α) : upd f g v g = v := if_pos rfl
theorem upd_ne {α : Type} (f : Nat → α) {g i : Nat} (v : α) (h : i ≠ g) : upd f g v i = f i := if_neg h
variable {w w' : World} {dom : Nat → Prop} {qf : Nat → Option Addr} {cf mf : Nat → Nat} {lf : Nat → List Int}
theorem Fam.below (h : Fam w dom qf cf mf lf) (hb : Below w.heap.size w w') : Fam w' dom qf cf mf lf := ⟨fun g hg => (h.q g hg).below hb, h.ap⟩
theorem Fam.kept (h : Fam w dom qf cf mf lf) (hb : ∀ g, dom g → ∀ i, Ft g (qf g) i → w'.heap[i]? = w.heap[i]?) : Fam w' dom qf cf mf lf := ⟨fun g hg => (h.q g hg).kept (hb g hg), h.ap⟩
theorem Fam.congr {lf' : Nat → List Int} (h : Fam w dom qf cf mf lf) (e : ∀ g, dom g → lf' g = lf g) : Fam w dom qf cf mf lf' := ⟨fun g hg => by rw [e g hg]; exact h.q g hg, h.ap⟩
theorem Fam.mv (h : Fam w dom qf cf mf lf) {g : Nat} (hg : dom g) {q' : Option Addr} {c' : Nat} {l' : List Int} (hQ : QIn encI 3 1 51 w' g q' c' (mf g) l') (hm : Mv w w' g (qf g) q') : Fam w' dom (upd qf g q') (upd cf g c') mf (upd lf g l') := by
  have hft : ∀ g', dom g' → g' ≠ g → ∀ i, Ft g' (qf g') i → ¬ Ft g q' i := fun g' hg' hne i hi hf => by
    rcases hm.2 i hf with h1 | h1
    · exact h.ap g' g hg' hg hne i hi h1
    · have := (h.q g' hg').ftlt hi
      omega
  refine ⟨fun g' hg' => ?_, fun g1 g2 h1 h2 hne i hi => ?_⟩
  · by_cases e : g' = g
    · subst e
      rw [upd_same, upd_same, upd_same]
      exact hQ
    · rw [upd_ne _ _ e, upd_ne _ _ e, upd_ne _ _ e]
      exact (h.q g' hg').other hm (h.ap g' g hg' hg e)
  · by_cases e1 : g1 = g
    · subst e1
      rw [upd_same] at hi
      rw [upd_ne _ _ (Ne.symm hne)]
      exact fun hf => hft g2 h2 (Ne.symm hne) i hf hi
    · rw [upd_ne _ _ e1] at hi
      by_cases e2 : g2 = g
      · subst e2
        rw [upd_same]
        exact hft g1 h1 e1 i hi
      · rw [upd_ne _ _ e2]
        exact h.ap g1 g2 h1 h2 hne i hi
/-- A call that leaves the row where it is. -/
theorem Fam.mv0 (h : Fam w dom qf cf mf lf) {g : Nat} (hg : dom g) {l' : List Int} (hQ : QIn encI 3 1 51 w' g (qf g) (cf g) (mf g) l') (hm : Mv w w' g (qf g) (qf g)) : Fam w' dom qf cf mf (upd lf g l') := by
  have h1 := h.mv hg hQ hm
  have e1 : upd qf g (qf g) = qf := by funext i; by_cases e : i = g; · subst e; exact upd_same _ _ _
                                       · exact upd_ne _ _ e
  have e2 : upd cf g (cf g) = cf := by funext i; by_cases e : i = g; · subst e; exact upd_same _ _ _
                                       · exact upd_ne _ _ e
  rwa [e1, e2] at h1
theorem mv_out {g : Nat} (hg : dom g) {q' : Option Addr} (hm : Mv w w' g (qf g) q') : Kpt (Out dom qf) w w' := hm.1.mono fun _ hi => hi g hg
theorem Fam.lenAt (h : Fam w dom qf cf mf lf) {g : Nat} (hg : dom g) : LenAt w g (lf g).length := ⟨_, _, (h.q g hg).1⟩
/-- What stands first when the j-th of the list is taken. -/
def hv (gs : List Nat) (lf : Nat → List Int) (i : Nat) : Int := (lf (gs.getD i 0)).getD ((gs.take i).count (gs.getD i 0)) 0
def heads (gs : List Nat) (lf : Nat → List Int) : List Int := (List.range gs.length).map (hv gs lf)
theorem heads_at {gs : List Nat} {k x : Nat} (hx : gs[k]? = some x) (lf : Nat → List Int) : hv gs lf k = (lf x).getD ((gs.take k).count x) 0 := by
  have e : gs.getD k 0 = x := by rw [List.getD_eq_getElem?_getD, hx]; rfl
  unfold hv
  rw [e]
theorem drop_take1 {l : List Int} {n : Nat} (h : n < l.length) : (l.drop n).take 1 = [l.getD n 0] ∧ (l.drop n).drop 1 = l.drop (n + 1) := by
  have e : l.getD n 0 = l[n] := by rw [List.getD_eq_getElem?_getD, List.getElem?_eq_getElem h]; rfl
  rw [List.drop_eq_getElem_cons h, e]
  exact ⟨rfl, rfl⟩
theorem Kpt.app {D : Nat → Prop} {w w3 w4 : World} (h : Kpt D w w3) (b : Below w.heap.size w3 w4) : Kpt D w w4 := ⟨b.os.trans h.os, b.tape.trans h.tape, b.output.trans h.output, Nat.le_trans h.size b.size, fun i hi hs => (b.block i hs).trans (h.block i hi hs)⟩
set_option maxHeartbeats 4000000 in
set_option maxRecDepth 100000 in
theorem heads_no (p : Option Addr) (c : Nat) (gs : List Nat) (w : World) (hs : SlOf encG 1 w p c gs) (hd : ∀ g ∈ gs, dom g) (hf : Fam w dom qf cf mf lf) (hl : gs.length * 8 ≤ 140737488355328) (hall : ¬ ∀ g ∈ gs, gs.count g ≤ (lf g).length) :
    Calls Try.prog 17 #[.slice p gs.length c] w fun e w' => e = .returned (.tuple #[.slice none 0 0, .bool false]) ∧ Below w.heap.size w w' := by
  have hrd := ready_any p c gs (fun g => (lf g).length) w hs (fun g hg => hf.lenAt (hd g hg)) (by omega)
  rw [decide_eq_false hall] at hrd
  clear hs hf hd hall
  go_enter Try.func17, Try.ntmps17
  go_wp2_with (go_at_call 35; refine hrd.mono ?_; rintro e w1 ⟨rfl, b1⟩; have B1 := hide b1; clear b1)
  go_ret2
  exact ⟨rfl, unhide B1⟩
set_option maxHeartbeats 4000000 in
set_option maxRecDepth 100000 in
theorem heads_yes (p : Option Addr) (c : Nat) (gs : List Nat) (w : World) (hs : SlOf encG 1 w p c gs) (hd : ∀ g ∈ gs, dom g) (hf : Fam w dom qf cf mf lf) (hl : gs.length * 8 ≤ 140737488355328) (hall : ∀ g ∈ gs, gs.count g ≤ (lf g).length) (hso : ∀ a, p = some a → Out dom qf a.block) :
    Calls Try.prog 17 #[.slice p gs.length c] w fun e w' => (∃ q' c', e = .returned (.tuple #[.slice q' gs.length c', .bool true]) ∧ OwnK encI 3 1 w.heap.size w' q' c' (heads gs lf)) ∧ Fam w' dom qf cf mf (fun g => (lf g).drop (gs.count g)) ∧ Kpt (Out dom qf) w w' := by
  have hrd := ready_any p c gs (fun g => (lf g).length) w hs (fun g hg => hf.lenAt (hd g hg)) (by omega)
  rw [decide_eq_true hall] at hrd
  obtain ⟨cur, hcs, hmk⟩ := makeI gs.length hl
  have n0 : (gs.length : Int) ≤ 100000000000000 := by omega
  have n1 : (0 : Int) ≤ (gs.length : Int) := by omega
  have HS := hide hs
  have HF := hide hf
  have HD := hide hd
  have HA := hide hall
  have HC := hide hcs
  have HSO := hide hso
  clear hs hf hd hall hcs hso
  go_enter Try.func17, Try.ntmps17
  go_wp2_with (go_at_call 35; refine hrd.mono ?_; rintro e w1 ⟨rfl, b1⟩; have B1 := hide b1; clear b1)
  have hO0 : OwnK encI 3 1 w.heap.size (w1.alloc (.cells cur 3)) (some ⟨w1.heap.size, 0, none⟩) gs.length [] := ownI (unhide B1).size (by unfold maxLen; omega) (unhide HC)
  have hB0 : Below w.heap.size w (w1.alloc (.cells cur 3)) := (unhide B1).alloc (unhide B1).size _
  obtain ⟨Z, hZ⟩ : ∃ Z, w1.alloc (.cells cur 3) = Z := ⟨_, rfl⟩
  rw [hZ] at hO0 hB0
  rw [hZ]
  go_loopw [4, 15] (fun s i wr => ∃ (k : Nat) (qo : Option Addr) (co : Nat), k ≤ gs.length ∧ i = .int .i64 k ∧ s = .slice qo k co ∧ Hid (OwnK encI 3 1 w.heap.size wr qo co ((List.range k).map (hv gs lf))) ∧ Hid (Fam wr dom qf cf mf (fun g => (lf g).drop ((gs.take k).count g))) ∧ Hid (Kpt (Out dom qf) w wr)) (fun _ i _ => gs.length - (intOf i).toNat)
  case atStart => exact ⟨0, _, _, by omega, rfl, rfl, hide hO0, hide (((unhide HF).below hB0).congr (fun g _ => by simp)), hide (Kpt.of hB0)⟩
  case round =>
    obtain ⟨k, qo, co, hk, rfl, rfl, HO, HFm, HK⟩ := hrel
    clear hO0 hB0 hZ
    by_cases hlt : k < gs.length
    · obtain ⟨x, hx, _⟩ := get_at hlt
      obtain ⟨bq, off, hp, hbl, hcell0⟩ := ptrAt (unhide HS) hx
      have hcell : wr.cell? ⟨bq, off + k, none⟩ = some (.pointer (some ⟨x, 0, none⟩)) := by
        have hbk := (unhide HK).block bq (unhide HSO ⟨bq, off, none⟩ hp) hbl
        unfold World.cell? at hcell0 ⊢
        rw [hbk]
        exact hcell0
      subst hp
      have ki0 : (0 : Int) ≤ (k : Int) := by omega
      have ki1 : (k : Int) < (gs.length : Int) := by omega
      have hdx := unhide HD x (List.mem_of_getElem? hx)
      obtain ⟨n, hn⟩ : ∃ n, (gs.take k).count x = n := ⟨_, rfl⟩
      have hnl : n < (lf x).length := by
        have h1 := unhide HA x (List.mem_of_getElem? hx)
        have h2 := count_take_le gs (k + 1) x
        have h3 : (gs.take (k + 1)).count x = n + 1 := by have := congrFun (count_snoc hx) x; rw [← hn]; simpa [upN] using this
        omega
      obtain ⟨d1, d2⟩ := drop_take1 hnl
      have htake := takeI x (qf x) (cf x) (mf x) _ 1 wr ((unhide HFm).q x hdx)
      rw [hn, show takeN 1 ((lf x).drop n).length = 1 by unfold takeN; rw [List.length_drop]; omega, d1, d2] at htake
      have hhv : hv gs lf k = (lf x).getD n 0 := by rw [heads_at hx, hn]
      rw [← hhv] at htake
      have hfe : ∀ g, (lf g).drop ((gs.take (k + 1)).count g) = upd (fun g => (lf g).drop ((gs.take k).count g)) x ((lf x).drop (n + 1)) g := fun g => by
        have h3 := congrFun (count_snoc hx) g
        rw [hn] at h3
        by_cases hg : g = x
        · subst hg; rw [upd_same]; rw [h3]; unfold upN; rw [if_pos rfl]
        · rw [upd_ne _ _ hg]; rw [h3]; unfold upN; rw [if_neg hg]
      have hrs : (List.range (k + 1)).map (hv gs lf) = (List.range k).map (hv gs lf) ++ [hv gs lf k] := by rw [List.range_succ, List.map_append]; rfl
      have HFE := hide hfe
      have HRS := hide hrs
      have HDX := hide hdx
      generalize hv gs lf k = vv at htake HRS
      clear hfe hrs hdx hx hn hnl d1 d2 hhv hcell0
      go_wp2_with (first
        | (go_at_call 13; refine htake.mono ?_; rintro e w3 ⟨⟨q3, c3, rfl, o3⟩, i3, m3⟩; have F3 := hide ((unhide HFm).mv0 (unhide HDX) i3 m3); have O3 := hide o3; have HO3 := hide ((unhide HO).keep (w' := w3) (fun i hi => m3.1.block i (fun hf => by have h1 := ((unhide HO).blk hi).1; have h2 := ((unhide HF).q x (unhide HDX)).ftlt hf; omega) ((unhide HO).blk hi).2)); have K3 := hide ((unhide HK).trans (mv_out (unhide HDX) m3)); clear o3 i3 m3)
        | (at_builtin; refine wpList_appK rowI rfl _ _ rfl w.heap.size qo co ((List.range k).map (hv gs lf)) q3 c3 [vv] k 1 (k + 1) (by simp) rfl rfl rfl rfl (unhide HO3) (unhide O3).ls.src (by unfold maxLen; omega) (by omega) (unhide K3).size ?_; intro q4 c4 w4 o4 b4 s4; have O4 := hide o4; have F4 := hide ((unhide F3).kept (w' := w4) (fun g hg i hi => s4.1.block i (((unhide F3).q g hg).ftlt hi) (fun he => by have h1 := ((unhide HO3).blk he.symm).1; have h2 := ((unhide HF).q g hg).ftlt hi; omega))); have K4 := hide ((unhide K3).app b4); clear o4 b4 s4))
      go_roundw
      case rel => exact ⟨k + 1, q4, c4, by omega, by go_num, rfl, hide (by rw [unhide HRS]; exact unhide O4), hide ((unhide F4).congr (fun g _ => unhide HFE g)), K4⟩
      case measure => simp [intOf]; omega
    · obtain rfl : gs.length = k := by omega
      have ki1 : ¬ (gs.length : Int) < (gs.length : Int) := by omega
      have hfm := unhide HFm
      simp only [List.take_length] at hfm
      have HFN := hide hfm
      clear hfm
      go_wp2
      go_ret2
      exact ⟨⟨qo, co, rfl, unhide HO⟩, unhide HFN, unhide HK⟩
end Go.Proofs.Ytfenkiplofnolaa

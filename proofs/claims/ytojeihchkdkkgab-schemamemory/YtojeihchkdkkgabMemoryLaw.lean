/- The law SchemaMemory returns true at every list of attributes and every list of pairs. -/
import Derived.Test.YtojeihchkdkkgabOver
namespace Go.Proofs.Ytojeihchkdkkgab
open Go.RowKit Go.Sort Go.Shelf

/-- A row of the call's own, whatever it holds. -/
def RawA (B : Nat) (w : World) (q : Option Addr) (n cap : Nat) : Prop := ∃ xs, w.ownsRow B 26 2 (.slice q n cap) n xs
theorem RawA.cell {B : Nat} {w : World} {g n cap : Nat} (h : RawA B w (some ⟨g, 0, none⟩) n cap) (t : Nat) (ht : t < n * 2) : (∃ v, w.cell? ⟨g, t, none⟩ = some v) ∧ w.frozen? ⟨g, t, none⟩ = false := by
  obtain ⟨xs, h⟩ := h
  rcases h.2 with ⟨h0, _⟩ | ⟨g', cap', cur, hv, _, hblk, hc, _, hs, _⟩
  · cases h0
  · injection hv with h1 h2 h3
    cases h1
    have hlt : t < cur.size := by rw [hs]; omega
    exact ⟨⟨cur[t], by rw [cell_of_row w g t cur 26 (0, 0) hblk]; exact Array.getElem?_eq_getElem hlt⟩, frozen_free hblk⟩
theorem RawA.set {B : Nat} {w : World} {g n cap : Nat} (h : RawA B w (some ⟨g, 0, none⟩) n cap) (j : Nat) (u : Value) : RawA B (w.setCell ⟨g, j, none⟩ u) (some ⟨g, 0, none⟩) n cap := by
  obtain ⟨xs, h⟩ := h
  exact ⟨_, (h.stored j u).1⟩
theorem RawA.shape {B : Nat} {w : World} {q : Option Addr} {n cap : Nat} (h : RawA B w q n cap) : (q = none ∧ n = 0 ∧ cap = 0) ∨ ∃ g, q = some ⟨g, 0, none⟩ := by
  obtain ⟨xs, h⟩ := h
  rcases h.2 with ⟨h0, _⟩ | ⟨g', cap', cur, hv, _⟩
  · injection h0 with h1 h2 h3
    exact Or.inl ⟨h1, h2, h3⟩
  · injection hv with h1
    exact Or.inr ⟨g', h1⟩
theorem OwnK.rawA {B : Nat} {w : World} {q : Option Addr} {cap : Nat} {l : List (ByteArray × Int)} (h : OwnK encA 26 2 B w q cap l) : RawA B w q l.length cap := ⟨_, h⟩
theorem RawA.lt {B : Nat} {w : World} {q : Option Addr} {n cap : Nat} (h : RawA B w q n cap) : ∀ g, (Value.slice q n cap).ownBlock = some g → B ≤ g ∧ g < w.heap.size := by
  obtain ⟨xs, h⟩ := h
  exact fun g hg => h.lt g hg
theorem RawK.lt {B : Nat} {w : World} {q : Option Addr} {n cap : Nat} (h : RawK B w q n cap) : ∀ g, (Value.slice q n cap).ownBlock = some g → B ≤ g ∧ g < w.heap.size := by
  obtain ⟨xs, h⟩ := h
  exact fun g hg => h.lt g hg
theorem NewA.grownR {B : Nat} {w w' : World} {q : Option Addr} {cap : Nat} {r : Option Nat} {l : List (ByteArray × Int)} (h : NewA B w q cap l) (hb : w.grownBy w' r) (hr : ∀ g, r = some g → g < B) : NewA B w' q cap l := by
  rcases h with h | ⟨g, rfl, hB, hg, hH, hc⟩
  · exact Or.inl h
  · have hne : some g ≠ r := fun e => by have := hr g e.symm; omega
    have hblk := hb.block g hg hne
    exact Or.inr ⟨g, rfl, hB, Nat.lt_of_lt_of_le hg hb.size, fun t ht => ⟨(World.cell?_of_block hblk).trans (hH t ht).1, (World.frozen?_of_block hblk).trans (hH t ht).2⟩, hc⟩
theorem NewP.grownR {B : Nat} {w w' : World} {q : Option Addr} {cap : Nat} {r : Option Nat} {l : List (ByteArray × Int × Int × ByteArray)} (h : NewP B w q cap l) (hb : w.grownBy w' r) (hr : ∀ g, r = some g → g < B) : NewP B w' q cap l := by
  rcases h with h | ⟨g, rfl, hB, hg, hH, hc⟩
  · exact Or.inl h
  · have hne : some g ≠ r := fun e => by have := hr g e.symm; omega
    have hblk := hb.block g hg hne
    exact Or.inr ⟨g, rfl, hB, Nat.lt_of_lt_of_le hg hb.size, fun t ht => ⟨(World.cell?_of_block hblk).trans (hH t ht).1, (World.frozen?_of_block hblk).trans (hH t ht).2⟩, hc⟩
def oneA : Array Value := #[.string ⟨#[103, 114, 111, 119, 110]⟩, .int .i64 0]
set_option maxHeartbeats 4000000 in
set_option maxRecDepth 100000 in
theorem schemaMemory_any (pp0 : Option Addr) (cap0 : Nat) (l0 : List (ByteArray × Int)) (pp1 : Option Addr) (cap1 : Nat) (l1 : List (ByteArray × Int × Int × ByteArray)) (W : World) (hl0 : l0.length * 24 + 24 ≤ 140737488355328) (hl1 : l1.length * 48 + 96 ≤ 140737488355328) (hn0 : pp0 = none → l0.length = 0 ∧ cap0 = 0) (hn1 : pp1 = none → l1.length = 0 ∧ cap1 = 0) (hs1 : ∀ x ∈ l1, x.1.size ≤ maxLen) (hP0 : AtsOf W pp0 l0) (hP1 : PrsOf W pp1 l1) :
    Calls Try.prog 7 #[.slice pp0 l0.length cap0, .slice pp1 l1.length cap1] W fun e w' => e = .returned (.bool true) ∧ Below W.heap.size W w' := by
  have mixed : Try.prog.follows .mixedOrders = true := by kernel_rfl
  have hfx := fixed_any W
  have HP0 := hide hP0
  have HP1 := hide hP1
  have Hn0 := hide hn0
  have Hn1 := hide hn1
  have Hs1 := hide hs1
  have l00 : (0 : Int) ≤ (l0.length : Int) := by omega
  clear hP0 hP1 hn0 hn1 hs1
  by_cases h64 : 64 < l0.length
  · have ha := fun (V : World) (hv : Below W.heap.size W V) => new_big pp0 cap0 l0 V (by omega) (unhide Hn0) ((unhide HP0).below hv) h64
    clear h64
    go_enter Try.func7, Try.ntmps7
    go_wp2_with (first
      | (go_at_call 8; refine hfx.mono ?_; rintro e w1 ⟨rfl, b1⟩; have B1 := hide b1; clear b1)
      | (go_at_call 9; refine (ha _ (unhide B1)).mono ?_; rintro e w2 ⟨rfl, b2⟩; have B2 := hide (below_sub (unhide B1) b2); clear b2))
    go_ret
    exact ⟨rfl, unhide B2⟩
  by_cases hok : ¬ (l0.all atOk = true ∧ (l0.map nmA).Nodup)
  · have ha := fun (V : World) (hv : Below W.heap.size W V) => new_bad pp0 cap0 l0 V (by omega) (unhide Hn0) ((unhide HP0).below hv) (by omega) hok
    clear h64 hok
    go_enter Try.func7, Try.ntmps7
    go_wp2_with (first
      | (go_at_call 8; refine hfx.mono ?_; rintro e w1 ⟨rfl, b1⟩; have B1 := hide b1; clear b1)
      | (go_at_call 9; refine (ha _ (unhide B1)).mono ?_; rintro e w2 ⟨rfl, b2⟩; have B2 := hide (below_sub (unhide B1) b2); clear b2))
    go_ret
    exact ⟨rfl, unhide B2⟩
  obtain ⟨hok1, hok2⟩ := Classical.byContradiction hok
  have ha := fun (V : World) (hv : Below W.heap.size W V) => new_any2 pp0 cap0 l0 V (by omega) (unhide Hn0) ((unhide HP0).below hv) (by omega) hok1 hok2
  have hb := fun (ls : List (ByteArray × Int)) (hs : Strict nmA ls) (hp : ls.Perm l0) (V : World) (hv : Below W.heap.size W V) => refNew_good ls pp0 cap0 l0 V (by omega) ((unhide HP0).below hv) (by omega) hok1 hs hp
  have H64 : Hid (l0.length ≤ 64) := hide (by omega)
  have Hok1 := hide hok1
  clear h64 hok hok1
  go_enter Try.func7, Try.ntmps7
  go_wp2_with (first
    | (go_at_call 8; refine hfx.mono ?_; rintro e w1 ⟨rfl, b1⟩; have B1 := hide b1; clear b1)
    | (go_at_call 9; refine (ha _ (unhide B1)).mono ?_; rintro e w2 ⟨⟨b, ls, rfl, hpm, hst, hN⟩, b2⟩; have B2 := hide (below_sub (unhide B1) b2); have Hpm := hide hpm; have Hst := hide hst; have HN2 := hide hN; clear b2 hpm hst hN)
    | (go_at_call 10; refine (hb ls (unhide Hst) (unhide Hpm) _ (unhide B2)).mono ?_; rintro e w3 ⟨⟨q3, cp3, rfl, hN3⟩, b3⟩; have B3 := hide (below_sub (unhide B2) b3); have HN3 := hide hN3; have HS3 := hide ((unhide HN2).below b3); clear b3 hN3)
    | (go_at_call 16; refine (attrs_any b ls w4 (by rw [(unhide Hpm).length_eq]; omega) ((unhide HS3).at.below (unhide B34))).mono ?_; rintro e w5 ⟨qb, cb, rfl, hN5, b5⟩; have B35 := hide (below_sub (unhide B34) b5); have HO5 := hide ((unhide HO4).below b5); have HB5 := hide hN5; clear b5 hN5)
    | (go_at_call 16; refine (attrs_own b ls w3 (by rw [(unhide Hpm).length_eq]; omega) (unhide HS3).at).mono ?_; rintro e w4 ⟨qa, ca, rfl, hO4, b4⟩; have B34 := hide b4; have HO4 := hide hO4; clear b4 hO4))
  obtain ⟨i0, hi, hz0, hz1, hz2⟩ := info_parts Try.info26
  have Hi := hide hi
  have Hz := hide (And.intro hz0 (And.intro hz1 hz2))
  have hlsl : ls.length ≤ 64 := by rw [(unhide Hpm).length_eq]; exact unhide H64
  have Hr : Hid (∀ g, (Value.slice qa ls.length ca).ownBlock = some g → w3.heap.size ≤ g ∧ g < w4.heap.size) := hide (unhide HO4).rawA.lt
  have HraA := hide (unhide HO5).rawA
  clear ha hb hi hz0 hz1 hz2 hfx
  go_loopw [45] (fun i wr => ∃ k : Nat, k ≤ ls.length ∧ i = .int .i64 k ∧ Hid (RawA w3.heap.size wr qa ls.length ca) ∧ Hid (w5.grownBy wr (Value.slice qa ls.length ca).ownBlock)) (fun i _ => ls.length - (intOf i).toNat)
  case atStart => exact ⟨0, by omega, rfl, HraA, hide (grown_refl _ _)⟩
  case round =>
    obtain ⟨k, hk, rfl, Hrow, Hgr⟩ := hrel
    by_cases hlt : k < ls.length
    · have k0 : (0 : Int) ≤ (k : Int) := by omega
      have k1 : (k : Int) < (ls.length : Int) := by omega
      rcases (unhide Hrow).shape with ⟨_, h1, _⟩ | ⟨g, rfl⟩
      · omega
      obtain ⟨⟨v0, cc0⟩, ff0⟩ := (unhide Hrow).cell (k * 2) (by omega)
      obtain ⟨⟨v1, cc1⟩, ff1⟩ := (unhide Hrow).cell (k * 2 + 1) (by omega)
      have Hg2 : Hid (w5.grownBy wr (some g)) := Hgr
      go_wp2
      exact ⟨⟨k + 1, by omega, by go_num, hide (((unhide Hrow).set _ _).set _ _), hide (grown_set (grown_set (unhide Hg2) _ _) _ _)⟩, by simp [intOf]; omega⟩
    · obtain rfl : k = ls.length := by omega
      obtain ⟨xs, hxs⟩ := unhide Hrow
      have Hxs := hide hxs
      have Hsz : Hid (w3.heap.size ≤ wr.heap.size) := hide (by have := (unhide Hgr).size; have := (unhide B35).size; omega)
      have hll : ls.length ≤ 140737488355328 := by omega
      have hl24 : ls.length * 24 ≤ 140737488355328 := by omega
      have hls : ((ls.length : Int) + 1 == (ls.length : Int) + 1) = true := by simp
      clear hxs Hrow hk hlt
      go_wp2_with (first
        | (at_builtin; refine wpList_app rowP rfl _ _ rfl w6.heap.size (some ⟨w6.heap.size, 0, none⟩) 0 [] pp1 cap1 l1 0 l1.length l1.length rfl rfl (by simp) rfl rfl (OwnK.made _ _ (Nat.le_refl _)) (SrcK.ofP (unhide Hn1) (((unhide HP1).below (unhide HW6)).below ((Below.refl _ _).alloc (Nat.le_refl _) _))) (by unfold maxLen; omega) (by omega) (by simp) ?_; intro qm cm w7 hown7 hb7 _ _; have HM7 := hide hown7; have B67 := hide (((Below.refl w6.heap.size w6).alloc (Nat.le_refl _) (.cells #[] 52)).trans hb7); clear hown7 hb7)
        | (at_builtin; refine wpList_append_own_at _ rfl _ _ 22 rfl w3.heap.size 26 i0 (.agg #[.string ⟨#[]⟩, .int .i64 0]) 2 24 Try.underlying22 (unhide Hi) (unhide Hz).1 (unhide Hz).2.1 (unhide Hz).2.2 rfl (by decide) _ ls.length xs rfl (World.ownsRow.alloc (unhide Hxs) _) ⟨wr.heap.size, 0, none⟩ 1 1 oneA.toList rfl rfl (World.news_of_block (heap_alloc_new wr _)) (by decide) (by unfold maxLen; omega) (by omega) (by have := unhide Hsz; simp; omega) ?_; intro v' w6 hown hgrow hnil hat; (obtain ⟨g6, c6, rfl, hB6, hlt6⟩ := hown.form (by omega)); have HG := hide (grown_two (grown_two (unhide Hgr) (grown_alloc wr (.cells oneA 26) none) (fun j hj => by cases hj)) hgrow (fun j hj => Or.inl hj)); have B36 := hide ((unhide B35).grown (unhide HG) (unhide B35).size (fun j hj => (unhide Hr j hj).1)); have HW6 := hide (below_sub (unhide B3) (unhide B36)); clear hown hgrow hnil hat))
      have HM : Hid (OwnK encP 52 4 w6.heap.size w7 qm cm l1) := HM7
      have HB6 : Hid (NewA w4.heap.size w6 qb cb ls) := hide ((unhide HB5).grownR (unhide HG) (fun g hg => (unhide Hr g hg).2))
      have Hrm : Hid (∀ g, (Value.slice qm l1.length cm).ownBlock = some g → w6.heap.size ≤ g ∧ g < w7.heap.size) := hide (unhide HM).raw.lt
      have B37 := hide (below_sub (unhide B36) (unhide B67))
      have HW7 := hide (below_sub (unhide HW6) (unhide B67))
      have HS : Hid (∀ V, Below w6.heap.size w6 V → SchAt V b ls) := hide (fun V hv => (unhide HS3).at.below (below_sub (unhide B36) hv))
      have HWa : Hid (∀ V, Below w6.heap.size w6 V → AtsOf V q3 ls) := hide (fun V hv => (unhide HN3).of.below (below_sub (unhide B36) hv))
      have HBb : Hid (∀ V, Below w6.heap.size w6 V → AtsOf V qb ls) := hide (fun V hv => ((unhide HB6).below hv).of)
      have HPp : Hid (∀ V, Below w6.heap.size w6 V → PrsOf V pp1 l1) := hide (fun V hv => (unhide HP1).below (below_sub (unhide HW6) hv))
      have Hnd : Hid ((ls.map nmA).Nodup) := hide (strict_nodup (unhide Hst) (List.Perm.refl _))
      have Hal : Hid (∀ y ∈ ls, atOk y = true) := hide (fun y hy => by
        have h1 := unhide Hok1
        rw [List.all_eq_true] at h1
        exact h1 y ((unhide Hpm).mem_iff.1 hy))
      clear HM7 HN2 HN3 HS3 HO4 HO5 HB5 B35 B34 HraA Hgr Hxs HG B36 B37 Hr hok2 Hi Hz HP0 Hn0 hB6 hlt6
      by_cases hfit : ¬ (l1.all (fitOk ls) = true ∧ (l1.map nmP).Nodup)
      · have hfit2 : ¬ ((∀ x ∈ l1, fit2 ls x) ∧ (l1.map nmP).Nodup) := fun h => hfit ⟨by rw [List.all_eq_true]; exact fun x hx => (fit_iff (unhide Hal) (unhide Hnd)).2 (h.1 x hx), h.2⟩
        have Hf1 := hide hfit
        have Hf2 := hide hfit2
        clear hfit hfit2
        go_wp2_with (first
          | (go_at_call 13; refine (event_bad b ls qm cm l1 w8 hll (by omega) (unhide HS w8 (below_sub (unhide B67) (unhide B78))) (unhide HM).newP.none ((unhide HM).newP.of.below (unhide B78)) (unhide Hf1)).mono ?_; rintro e w9 ⟨rfl, b9⟩; have B79 := hide (below_sub (unhide B78) b9); clear b9)
          | (go_at_call 13; refine (event_bad b ls qm cm l1 w7 hll (by omega) (unhide HS w7 (unhide B67)) (unhide HM).newP.none (unhide HM).newP.of (unhide Hf1)).mono ?_; rintro e w8 ⟨rfl, b8⟩; have B78 := hide b8; clear b8)
          | (go_at_call 14; refine (refEvent_bad q3 cp3 ls pp1 cap1 l1 w9 hll (by omega) (unhide Hs1) (unhide HWa w9 (below_sub (unhide B67) (unhide B79))) (unhide HPp w9 (below_sub (unhide B67) (unhide B79))) (unhide Hf2)).mono ?_; rintro e w10 ⟨rfl, b10⟩; have B710 := hide (below_sub (unhide B79) b10); clear b10)
          | (go_at_call 25; refine (over_any w6.heap.size qm l1.length cm w13 (by omega) (by have := (unhide B67).size; have := (unhide B713).size; omega) ((unhide HM).below (unhide B713)).raw).mono ?_; rintro e w14 ⟨rfl, hg14⟩; have B614 := hide ((below_sub (unhide B67) (unhide B713)).grown hg14 (below_sub (unhide B67) (unhide B713)).size (fun j hj => (unhide Hrm j hj).1)); clear hg14)
          | (go_at_call 25; refine (over_any w7.heap.size none 0 0 w10 (by omega) (unhide B710).size ⟨[], World.ownsRow_nil _ _ _ _⟩).mono ?_; rintro e w11 ⟨rfl, hg11⟩; have B711 := hide ((unhide B710).grown hg11 (unhide B710).size (fun j hj => by cases hj)); clear hg11)
          | (go_at_call 19; refine (sameP_eq none none 0 0 [] w17 (by simp) (PrsOf.nil _ _) (PrsOf.nil _ _)).mono ?_; rintro e w18 ⟨rfl, b18⟩; have B618 := hide (below_sub (unhide B617) b18); clear b18)
          | (go_at_call 19; refine (sameP_eq qm pp1 cm cap1 l1 w12 (by omega) ((unhide HM).newP.of.below (unhide B712)) (unhide HPp w12 (below_sub (unhide B67) (unhide B712)))).mono ?_; rintro e w13 ⟨rfl, b13⟩; have B713 := hide (below_sub (unhide B712) b13); clear b13)
          | (go_at_call 19; refine (sameP_eq none none 0 0 [] w11 (by simp) (PrsOf.nil _ _) (PrsOf.nil _ _)).mono ?_; rintro e w12 ⟨rfl, b12⟩; have B712 := hide (below_sub (unhide B711) b12); clear b12)
          | (go_at_call 11; refine (sameA_eq qx q3 cx cp3 ls w16 hll (unhide HX) (unhide HWa w16 (unhide B616))).mono ?_; rintro e w17 ⟨rfl, b17⟩; have B617 := hide (below_sub (unhide B616) b17); have B1417 := hide (below_sub (unhide B1416) b17); clear b17)
          | (go_at_call 11; refine (sameA_eq qb q3 cb cp3 ls w14 hll (unhide HBb w14 (unhide B614)) (unhide HWa w14 (unhide B614))).mono ?_; rintro e w15 ⟨rfl, b15⟩; have B615 := hide (below_sub (unhide B614) b15); have B1415 := hide b15; clear b15)
          | (go_at_call 16; refine (attrs_any b ls w15 hl24 (unhide HS w15 (unhide B615))).mono ?_; rintro e w16 ⟨qx, cx, rfl, hNx, b16⟩; have B616 := hide (below_sub (unhide B615) b16); have B1416 := hide (below_sub (unhide B1415) b16); have HX := hide hNx.of; clear b16 hNx))
        go_ret
        exact ⟨rfl, below_sub (unhide HW6) (unhide B618)⟩
      · have hfit := Classical.byContradiction hfit
        have Hf2 : Hid (∀ x ∈ l1, fit2 ls x) := hide (fun x hx => (fit_iff (unhide Hal) (unhide Hnd)).1 (by have := hfit.1; rw [List.all_eq_true] at this; exact this x hx))
        have Hf1 := hide hfit
        clear hfit
        go_wp2_with (first
          | (go_at_call 13; refine (event_good es b ls qm cm l1 w8 hll (by omega) (unhide HS w8 (below_sub (unhide B67) (unhide B78))) (unhide HM).newP.none ((unhide HM).newP.of.below (unhide B78)) (unhide Hf1).1 (unhide Hss) (unhide Hsp)).mono ?_; rintro e w9 ⟨⟨q9, c9, rfl, hN9⟩, b9⟩; have B79 := hide (below_sub (unhide B78) b9); have B89 := hide b9; have HN9 := hide hN9; have HO9 := hide ((unhide HO8).below b9); clear b9 hN9)
          | (go_at_call 13; refine (event_own b ls qm cm l1 w7 hll (by omega) (unhide HS w7 (unhide B67)) (unhide HM).newP.none (unhide HM).newP.of (unhide Hf1)).mono ?_; rintro e w8 ⟨⟨es, ql, cl, rfl, hsp, hss, hO8⟩, b8⟩; have B78 := hide b8; have Hsp := hide hsp; have Hss := hide hss; have HO8 := hide hO8; have Hesl : Hid (es.length = l1.length) := hide hsp.length_eq; clear b8 hsp hss hO8)
          | (go_at_call 14; refine (refEvent_good es q3 cp3 ls pp1 cap1 l1 w9 hll (by omega) (unhide Hs1) (unhide HWa w9 (below_sub (unhide B67) (unhide B79))) (unhide HPp w9 (below_sub (unhide B67) (unhide B79))) (unhide Hf2) (unhide Hss) (unhide Hsp)).mono ?_; rintro e w10 ⟨⟨q10, c10, rfl, hN10⟩, b10⟩; have B710 := hide (below_sub (unhide B79) b10); have HN10 := hide hN10; have HN9' := hide ((unhide HN9).below b10); have HO10 := hide ((unhide HO9).below b10); clear b10 hN10)
          | (go_at_call 25; refine (over_any w6.heap.size qm l1.length cm w13 (by omega) (by have := (unhide B67).size; have := (unhide B713).size; omega) ((unhide HM).below (unhide B713)).raw).mono ?_; rintro e w14 ⟨rfl, hg14⟩; have B614 := hide ((below_sub (unhide B67) (unhide B713)).grown hg14 (below_sub (unhide B67) (unhide B713)).size (fun j hj => (unhide Hrm j hj).1)); have HM14 := hide ((unhide HM13).grownR hg14 (fun j hj => Nat.lt_of_lt_of_le (unhide Hrm j hj).2 (unhide B78).size)); have HV14 := hide ((unhide HV13).grownR hg14 (fun j hj => Nat.lt_of_lt_of_le (unhide Hrm j hj).2 (unhide B79).size)); clear hg14)
          | (go_at_call 25; refine (over_any w7.heap.size ql es.length cl w10 (by rw [unhide Hesl]; omega) (unhide B710).size (unhide HO10).raw).mono ?_; rintro e w11 ⟨rfl, hg11⟩; have B711 := hide ((unhide B710).grown hg11 (unhide B710).size (fun j hj => ((unhide HO8).raw.lt j hj).1)); have HM11 := hide ((unhide HN9').grownR hg11 (fun j hj => ((unhide HO8).raw.lt j hj).2)); have HV11 := hide ((unhide HN10).grownR hg11 (fun j hj => Nat.lt_of_lt_of_le ((unhide HO8).raw.lt j hj).2 (by have := (unhide B89).size; omega))); clear hg11)
          | (go_at_call 19; refine (sameP_eq q9 q10 c9 c10 es w17 (by rw [unhide Hesl]; omega) ((unhide HM14).of.below (unhide B1417)) ((unhide HV14).of.below (unhide B1417))).mono ?_; rintro e w18 ⟨rfl, b18⟩; have B618 := hide (below_sub (unhide B617) b18); clear b18)
          | (go_at_call 19; refine (sameP_eq qm pp1 cm cap1 l1 w12 (by omega) ((unhide HM).newP.of.below (unhide B712)) (unhide HPp w12 (below_sub (unhide B67) (unhide B712)))).mono ?_; rintro e w13 ⟨rfl, b13⟩; have B713 := hide (below_sub (unhide B712) b13); have HM13 := hide ((unhide HM12).below b13); have HV13 := hide ((unhide HV12).below b13); clear b13)
          | (go_at_call 19; refine (sameP_eq q9 q10 c9 c10 es w11 (by rw [unhide Hesl]; omega) (unhide HM11).of (unhide HV11).of).mono ?_; rintro e w12 ⟨rfl, b12⟩; have B712 := hide (below_sub (unhide B711) b12); have HM12 := hide ((unhide HM11).below b12); have HV12 := hide ((unhide HV11).below b12); clear b12)
          | (go_at_call 11; refine (sameA_eq qx q3 cx cp3 ls w16 hll (unhide HX) (unhide HWa w16 (unhide B616))).mono ?_; rintro e w17 ⟨rfl, b17⟩; have B617 := hide (below_sub (unhide B616) b17); have B1417 := hide (below_sub (unhide B1416) b17); clear b17)
          | (go_at_call 11; refine (sameA_eq qb q3 cb cp3 ls w14 hll (unhide HBb w14 (unhide B614)) (unhide HWa w14 (unhide B614))).mono ?_; rintro e w15 ⟨rfl, b15⟩; have B615 := hide (below_sub (unhide B614) b15); have B1415 := hide b15; clear b15)
          | (go_at_call 16; refine (attrs_any b ls w15 hl24 (unhide HS w15 (unhide B615))).mono ?_; rintro e w16 ⟨qx, cx, rfl, hNx, b16⟩; have B616 := hide (below_sub (unhide B615) b16); have B1416 := hide (below_sub (unhide B1415) b16); have HX := hide hNx.of; clear b16 hNx))
        go_ret
        exact ⟨rfl, below_sub (unhide HW6) (unhide B618)⟩
end Go.Proofs.Ytojeihchkdkkgab

/- The disk's Crash. -/
import Derived.Test.YtfigjfmldpfjkaaGreatZac
namespace Go.Proofs.YtfigjfmldpfjkaaGreat
open Go.RowKit Go.Sort Go.Shelf

def chAt (cs : List Int) (i : Nat) : Int := (cs[i]?).getD 0
/-- What is found: the files of l, by the choices. -/
def FoundG (get get' : ByteArray → Option Fl) (cs : List Int) (l : List ByteArray) (i : Nat) : Prop :=
  (∀ j x fl, j < i → l[j]? = some x → get x = some fl → get' x = some (foundF fl (chAt cs j))) ∧ ∀ x, x ∉ l.take i → get' x = none
theorem FlAt.mono {B B' : Nat → Prop} {w : World} {h c : Nat} {q : Option Addr} {fl : Fl} (hf : FlAt B w h q c fl) (hB : ∀ i, B' i → B i) : FlAt B' w h q c fl := ⟨⟨fun hb => hf.1.1 (hB _ hb), fun p hp hb => hf.1.2 p hp (hB _ hb)⟩, hf.2⟩
theorem names_ne {α : Type} {f : ByteArray → Option α} {l : List ByteArray} (h : NamesOf f l) {i j : Nat} {x y : ByteArray} (hij : i < j) (hx : l[i]? = some x) (hy : l[j]? = some y) : x ≠ y := by
  intro e
  subst e
  have hi := (List.getElem?_eq_some_iff.1 hx)
  have hj := (List.getElem?_eq_some_iff.1 hy)
  obtain ⟨h1, e1⟩ := hi
  obtain ⟨h2, e2⟩ := hj
  have := List.pairwise_iff_getElem.1 h.1 i j h1 h2 hij
  rw [e1, e2] at this
  exact List.lt_irrefl _ this
theorem FoundG.step {get get' : ByteArray → Option Fl} {cs : List Int} {l : List ByteArray} {i : Nat} (h : FoundG get get' cs l i) (hn : NamesOf get l) {x : ByteArray} (hx : l[i]? = some x) {fl : Fl} (hf : get x = some fl) : FoundG get (upd get' x (some (foundF fl (chAt cs i)))) cs l (i + 1) := by
  refine ⟨fun j y fl' hj hy hg => ?_, fun y hy => ?_⟩
  · by_cases e : j = i
    · subst e
      rw [hx] at hy
      cases hy
      rw [hf] at hg
      cases hg
      exact upd_same _ _ _
    · rw [upd_ne _ _ (names_ne hn (show j < i by omega) hy hx)]
      exact h.1 j y fl' (by omega) hy hg
  · rw [take_snoc_of hx, List.mem_append] at hy
    rw [upd_ne _ _ (fun e => hy (Or.inr (by simp [e])))]
    exact h.2 y (fun h => hy (Or.inl h))
theorem grown_blw {B : Nat} {w w' : World} {r : Nat} (hg : w.grownBy w' (some r)) (hB : B ≤ r) (hs : B ≤ w.heap.size) : Below B w w' :=
  ⟨hg.os, hg.tape, hg.output, hg.size, fun k hk => hg.block k (by omega) (by intro e; injection e with e; omega)⟩
def CrashR (B : Nat → Prop) (s : Dk) (cs : List Int) (e : Ending) (w' : World) : Prop := ∃ gf l get', e = .returned (.pointer (some ⟨gf, 0, none⟩)) ∧ NamesOf s.get l ∧ FoundG s.get get' cs l l.length ∧ DkAt B w' gf ⟨get', l.length, 0, false, 0, 0⟩
/-- What region 9 reads. -/
abbrev SF (g gf m mf hx : Nat) (x : ByteArray) (W : World) : Prop := (W.cell? ⟨gf, 4, none⟩ = some (.map (some mf)) ∧ W.cell? ⟨g, 4, none⟩ = some (.map (some m))) ∧ (Instr.lookup 49 (.map (some m)) (.string x) false).run Tryz.prog W = .ok (.pointer (some ⟨hx, 0, none⟩)) W
set_option maxHeartbeats 4000000 in
set_option maxRecDepth 100000 in
theorem crash_any {B : Nat → Prop} {w : World} {g : Nat} {s : Dk} (hd : DkAt B w g s) (hB : Sub B w) (hn : s.n ≤ 1000000000) (hl : ∀ nm fl, s.get nm = some fl → nm.size ≤ 32 ∧ fl.bytes.length ≤ 140737488355328) (p : Option Addr) (k : Nat) (cs : List Int) (hc : SlOf encI 1 w p k cs) (hcl : cs.length ≤ 140737488355328) (hpg : 0 < cs.length → ∀ b off, p = some ⟨b, off, none⟩ → b ≠ g) :
    Calls Tryz.prog 15 #[.pointer (some ⟨g, 0, none⟩), .slice p cs.length k] w fun e w' => CrashR (· < w.heap.size) s cs e w' ∧ DkAt B w' g { s with off := true } ∧ Kpt B w w' := by
  obtain ⟨m, h, q, c, hi⟩ := hd
  obtain ⟨⟨c0, c1, c2, c3, c4⟩, z0, z1, z2, z3⟩ := cells5 hi.box
  have hg1 := grown_set w g 1 (.bool true)
  have hi1 : DkIn B (w.setCell ⟨g, 1, none⟩ (.bool true)) g { s with off := true } m h q c := hi.turn hg1 rfl rfl hi.small (heap_setCell_same w g 1 _ 51 (.bool true) hi.box)
  have hc1 : SlOf encI 1 (w.setCell ⟨g, 1, none⟩ (.bool true)) p k cs := by
    refine ⟨hc.1, hc.2.1, hc.2.2.1, fun h0 => ?_⟩
    obtain ⟨b, off, hq, hb, hA⟩ := hc.2.2.2 h0
    have he := hg1.block b hb (by intro e; injection e with e; exact hpg h0 b off hq e)
    exact ⟨b, off, hq, Nat.lt_of_lt_of_le hb hg1.size, fun j u hj => (World.cell?_of_block (w := w) (a := ⟨b, off + j, none⟩) he).trans (hA j u hj)⟩
  have hBw1 : Kpt B w (w.setCell ⟨g, 1, none⟩ (.bool true)) := grown_le hg1 hi.bg hB
  obtain ⟨W, hW⟩ : ∃ W, w.setCell ⟨g, 1, none⟩ (.bool true) = W := ⟨_, rfl⟩
  have hsz : W.heap.size = w.heap.size := by rw [← hW]; simp
  rw [hW] at hi1 hc1 hBw1
  have HSZ := hide hsz
  have hnew := new_any W
  have hri := fun (V : World) (hV : DkAt B V g { s with off := true }) => rising_any hV hn
  have HI := hide hi1
  have HC := hide hc1
  have HBW := hide hBw1
  have HL := hide hl
  clear hi hi1 hc hc1 hg1 hBw1 hl hsz
  go_enter Tryz.func15, Tryz.ntmps15
  go_wp2_with (first
    | (go_at_call 6; refine hnew.mono ?_; rintro e w2 ⟨rfl, d2, b2⟩; have D2 := hide d2; have B2 := hide b2; clear d2 b2)
    | (go_at_call 40; refine (hri w2 ⟨_, _, _, _, (unhide HI).below (unhide B2)⟩).mono ?_; rintro e w3 ⟨⟨qn, cn, l, rfl, on, hno, hln⟩, b3⟩; have ON := hide on; have NO := hide hno; have B3 := hide b3; have D3 := hide ((unhide D2).below b3); clear on hno b3))
  obtain ⟨mf, hf0, qf0, cf0, di⟩ := unhide D3
  have hW3 : Below W.heap.size W w3 := below_sub (unhide B2) (unhide B3)
  have HW3 := hide hW3
  have DI := hide di
  have hmf : W.heap.size ≤ mf := Nat.not_lt.1 di.bm
  have hmflt := di.map.lt
  clear di hW3
  go_loopw [17] (fun v wr => ∃ (i : Nat) (get' : ByteArray → Option Fl) (hf : ByteArray → Nat) (qf : ByteArray → Option Addr) (cf : ByteArray → Nat), i ≤ l.length ∧ v = .int .i64 (i : Int) ∧ Hid (DkIn (· < W.heap.size) wr (W.heap.size + 1) ⟨get', i, 0, false, 0, 0⟩ mf hf qf cf) ∧ Hid (FoundG s.get get' cs l i) ∧ Hid (w3.grownBy wr (some mf))) (fun v _ => l.length - (intOf v).toNat)
  case atStart => exact ⟨0, fun _ => none, hf0, qf0, cf0, Nat.zero_le _, rfl, DI, hide ⟨fun _ _ _ h => by omega, fun _ _ => rfl⟩, hide (grown_refl _ _)⟩
  case round =>
    obtain ⟨i, get', hf, qf, cf, hil, rfl, HD, HFG, HG⟩ := hrel
    by_cases hlt : i < l.length
    · obtain ⟨x, hx, _⟩ := get_at hlt
      have hdw : Below W.heap.size W wr := (unhide HW3).trans (grown_blw (unhide HG) hmf (by have := (unhide HW3).size; omega))
      have dd := (unhide HI).below hdw
      obtain ⟨fl, hfl⟩ := Option.isSome_iff_exists.1 (((unhide NO).2 x).1 (List.mem_of_getElem? hx))
      obtain ⟨hx32, hfl12⟩ := unhide HL x fl hfl
      have fx := dd.file x fl hfl
      obtain ⟨es, cl, hm3⟩ := (unhide DI).map.is_map
      have hns := sl_map (by decide) (unhide ON).ls hm3 (unhide HG)
      obtain ⟨b, off, hq, hb, cx⟩ := strAt hns hx
      have ki0 : (0 : Int) ≤ (i : Int) := by omega
      have ki1 : (i : Int) < (l.length : Int) := by omega
      have hmm : m < W.heap.size := (unhide HI).map.lt
      have hgg : g < W.heap.size := (Array.getElem?_eq_some_iff.1 (unhide HI).box).1
      have df := unhide HD
      have hSF : ∀ V v, Below wr.heap.size wr V → (v = V ∨ V.grownBy v (some mf)) → SF g (W.heap.size + 1) m mf (h x) x v := fun V v hV hv => by
        have e1 := dd.below hV
        have e2 := df.below hV
        have hlk := fun (u : World) (hu : FM u m s.n (fun nm => (s.get nm).map fun _ => h nm)) => hu.look (nm := x) (by unfold maxLen; omega)
        have nf : W.heap.size + 1 ≠ mf := fun e => by
          obtain ⟨es2, cl2, h9⟩ := e2.map.is_map
          rw [← e, e2.box] at h9
          cases h9
        rcases hv with rfl | hv
        · have h3 := hlk v e1.map
          rw [hfl] at h3
          exact ⟨⟨(cells5 e2.box).1.2.2.2.2, (cells5 e1.box).1.2.2.2.2⟩, h3⟩
        · have h3 := hlk v (e1.map.kept hv (by intro e; injection e with e; omega))
          rw [hfl] at h3
          refine ⟨⟨(cells5 ((hv.block _ (Array.getElem?_eq_some_iff.1 e2.box).1 (by intro e; injection e with e; exact nf e)).trans e2.box)).1.2.2.2.2, (cells5 ((hv.block _ (Array.getElem?_eq_some_iff.1 e1.box).1 (by intro e; injection e with e; omega)).trans e1.box)).1.2.2.2.2⟩, h3⟩
      have hput : ∀ V nh, Below wr.heap.size wr V → ∃ v, (Instr.mapUpdate 49 (.map (some mf)) (.string x) (.pointer (some ⟨nh, 0, none⟩))).run Tryz.prog V = .ok () v ∧ SF g (W.heap.size + 1) m mf (h x) x v ∧ FM v mf (i + 1) (upd (fun nm => (get' nm).map fun _ => hf nm) x (some nh)) ∧ V.grownBy v (some mf) := fun V nh hV => by
        obtain ⟨v, r1, r2, r3⟩ := (df.map.below hV).put (by show i < maxLen; unfold maxLen; omega) (nm := x) (by unfold maxLen; omega) nh
        exact ⟨v, r1, hSF V v hV (Or.inr r3), r2, r3⟩
      have hend : ∀ V v nh q0 c0 ch, Below wr.heap.size wr V → FlAt (· < wr.heap.size) V nh q0 c0 (foundF fl ch) → FM v mf (i + 1) (upd (fun nm => (get' nm).map fun _ => hf nm) x (some nh)) → V.grownBy v (some mf) → ch = chAt cs i → (∃ (get' : ByteArray → Option Fl) (hf : ByteArray → Nat) (qf : ByteArray → Option Addr) (cf : ByteArray → Nat), Hid (DkIn (· < W.heap.size) v (W.heap.size + 1) ⟨get', i + 1, 0, false, 0, 0⟩ mf hf qf cf) ∧ Hid (FoundG s.get get' cs l (i + 1))) ∧ Hid (w3.grownBy v (some mf)) := fun V v nh q0 c0 ch hV hfa hm hg hch => by
        have e2 := df.below hV
        have hwr : W.heap.size ≤ wr.heap.size := hdw.size
        refine ⟨⟨_, _, _, _, hide (e2.put hg hm (hfa.mono (fun i hi => Nat.lt_of_lt_of_le hi hwr)) ?_), hide (by subst hch; exact (unhide HFG).step (unhide NO) hx hfl)⟩, hide ?_⟩
        · intro k' fl' _ hk'
          have f2 := df.file k' fl' hk'
          refine ⟨by have := f2.lt; have : ¬ nh < wr.heap.size := hfa.1.1; omega, fun p p' hp hp' => ?_⟩
          have := f2.row_lt hp
          have : ¬ p'.block < wr.heap.size := hfa.1.2 p' hp'
          omega
        · exact grown_trans (grown_trans (unhide HG) ⟨hV.os, hV.tape, hV.output, hV.size, fun j hj _ => hV.block j hj⟩) hg
      have hfo := fun (V : World) (hV : Below wr.heap.size wr V) (ch : Int) => found_any (fx.below hV) hfl12 ch
      have S0 := hSF wr wr (Below.refl _ _) (Or.inl rfl)
      have HSF := hide hSF
      have HPU := hide hput
      have HEN := hide hend
      subst hq
      clear hSF hput hend df dd fx hns hm3
      have hcs := (unhide HC).below hdw
      by_cases hci : i < cs.length
      · obtain ⟨y, hy, _⟩ := get_at hci
        obtain ⟨b2, off2, hq2, hb2, cy⟩ := intAt hcs hy
        have HCH : Hid (y = chAt cs i) := hide (by unfold chAt; rw [hy]; rfl)
        have kc : (i : Int) < (cs.length : Int) := by omega
        subst hq2
        clear hcs hx hy hdw
        unfold SF at S0
        go_wp2
        go_region_held3 (fun V => (V.cell? ⟨W.heap.size + 1, 4, none⟩ = some (.map (some mf)) ∧ V.cell? ⟨g, 4, none⟩ = some (.map (some m))) ∧ (Instr.lookup 49 (.map (some m)) (.string x) false).run Tryz.prog V = .ok (.pointer (some ⟨h x, 0, none⟩)) V)
          (first | with_reducible exact unhide K1 | with_reducible exact unhide K2 | exact unhide HSF _ _ (unhide BV) (Or.inl rfl) | exact unhide HSF _ _ (unhide BV).drew (Or.inl rfl) | exact unhide HSF _ _ (Below.refl _ _).drew (Or.inl rfl) | exact unhide HSF _ _ (Below.refl _ _) (Or.inl rfl))
          ((go_at_call 41; refine (hfo wr.drew (Below.refl _ _).drew y).mono ?_; rintro e w5 ⟨⟨h5, q5, c5, rfl, f5⟩, b5⟩; have b5' := below_undrew b5; obtain ⟨v1, r1, k1, m1, g1⟩ := unhide HPU w5 h5 b5'; obtain ⟨v2, r2, k2, m2, g2⟩ := unhide HPU w5.drew h5 b5'.drew; have BV := hide b5'; have E1 := hide (unhide HEN w5 v1 h5 q5 c5 y b5' f5 m1 g1 (unhide HCH)); have E2 := hide (unhide HEN w5.drew v2 h5 q5 c5 y b5'.drew (f5.below (Below.refl _ _).drew) m2 g2 (unhide HCH)); have K1 := hide k1; have K2 := hide k2; clear b5 b5' k1 k2 m1 m2 g1 g2 f5))
        all_goals
          go_wp2
          go_roundw
          case rel =>
            first
              | exact (let ⟨⟨gt, hf', qf', cf', hd', hfg'⟩, hg'⟩ := unhide E1; ⟨i + 1, gt, hf', qf', cf', by omega, by go_num, hd', hfg', hg'⟩)
              | exact (let ⟨⟨gt, hf', qf', cf', hd', hfg'⟩, hg'⟩ := unhide E2; ⟨i + 1, gt, hf', qf', cf', by omega, by go_num, hd', hfg', hg'⟩)
          case measure => simp [intOf]; omega
      · have HCH : Hid ((0 : Int) = chAt cs i) := hide (by unfold chAt; rw [List.getElem?_eq_none (by omega)]; rfl)
        have kc : ¬ (i : Int) < (cs.length : Int) := by omega
        clear hcs hx hdw
        unfold SF at S0
        go_wp2
        go_region_held3 (fun V => (V.cell? ⟨W.heap.size + 1, 4, none⟩ = some (.map (some mf)) ∧ V.cell? ⟨g, 4, none⟩ = some (.map (some m))) ∧ (Instr.lookup 49 (.map (some m)) (.string x) false).run Tryz.prog V = .ok (.pointer (some ⟨h x, 0, none⟩)) V)
          (first | with_reducible exact unhide K1 | with_reducible exact unhide K2 | exact unhide HSF _ _ (unhide BV) (Or.inl rfl) | exact unhide HSF _ _ (unhide BV).drew (Or.inl rfl) | exact unhide HSF _ _ (Below.refl _ _).drew (Or.inl rfl) | exact unhide HSF _ _ (Below.refl _ _) (Or.inl rfl))
          ((go_at_call 41; refine (hfo wr.drew (Below.refl _ _).drew 0).mono ?_; rintro e w5 ⟨⟨h5, q5, c5, rfl, f5⟩, b5⟩; have b5' := below_undrew b5; obtain ⟨v1, r1, k1, m1, g1⟩ := unhide HPU w5 h5 b5'; obtain ⟨v2, r2, k2, m2, g2⟩ := unhide HPU w5.drew h5 b5'.drew; have BV := hide b5'; have E1 := hide (unhide HEN w5 v1 h5 q5 c5 0 b5' f5 m1 g1 (unhide HCH)); have E2 := hide (unhide HEN w5.drew v2 h5 q5 c5 0 b5'.drew (f5.below (Below.refl _ _).drew) m2 g2 (unhide HCH)); have K1 := hide k1; have K2 := hide k2; clear b5 b5' k1 k2 m1 m2 g1 g2 f5))
        all_goals
          go_wp2
          go_roundw
          case rel =>
            first
              | exact (let ⟨⟨gt, hf', qf', cf', hd', hfg'⟩, hg'⟩ := unhide E1; ⟨i + 1, gt, hf', qf', cf', by omega, by go_num, hd', hfg', hg'⟩)
              | exact (let ⟨⟨gt, hf', qf', cf', hd', hfg'⟩, hg'⟩ := unhide E2; ⟨i + 1, gt, hf', qf', cf', by omega, by go_num, hd', hfg', hg'⟩)
          case measure => simp [intOf]; omega
    · obtain rfl : i = l.length := by omega
      have ki1 : ¬ (l.length : Int) < (l.length : Int) := by omega
      have hb4 : Below W.heap.size W wr := (unhide HW3).trans (grown_blw (unhide HG) hmf (by have := (unhide HW3).size; omega))
      have HB4 := hide hb4
      clear hb4
      go_wp2
      go_ret
      refine ⟨⟨_, l, get', rfl, unhide NO, unhide HFG, ⟨mf, hf, qf, cf, ?_⟩⟩, ⟨m, h, q, c, (unhide HI).below (unhide HB4)⟩, (unhide HBW).trans (Kpt.of (B := B) (unhide HB4))⟩
      rw [← unhide HSZ]
      exact unhide HD
end Go.Proofs.YtfigjfmldpfjkaaGreat

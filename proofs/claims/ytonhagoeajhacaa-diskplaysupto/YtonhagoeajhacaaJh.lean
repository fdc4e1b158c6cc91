/- The disk's Crash. -/
import Derived.Test.YtonhagoeajhacaaJg
namespace Go.Proofs.Ytonhagoeajhacaa.Old
open Go.RowKit Go.Sort Go.Shelf

def chAt (cs : List Int) (i : Nat) : Int := (cs[i]?).getD 0
/-- What is found: the files of l, by the choices. -/
def FoundG (get get' : ByteArray → Option Fl) (cs : List Int) (l : List ByteArray) (i : Nat) : Prop :=
  (∀ j x fl, j < i → l[j]? = some x → get x = some fl → get' x = some (foundF fl (chAt cs j))) ∧ ∀ x, x ∉ l.take i → get' x = none
theorem FlAt.mono {B B' : Nat} {w : World} {h c : Nat} {q : Option Addr} {fl : Fl} (hf : FlAt B w h q c fl) (hB : B' ≤ B) : FlAt B' w h q c fl := ⟨Nat.le_trans hB hf.1, hf.2.1, hf.2.2.1.mono hB, hf.2.2.2⟩
theorem names_ne {α : Type} {f : ByteArray → Option α} {l : List ByteArray} (h : NamesOf f l) {i j : Nat} {x y : ByteArray} (hij : i < j) (hx : l[i]? = some x) (hy : l[j]? = some y) : x ≠ y := by
  intro e
  subst e
  have hi := (List.getElem?_eq_some_iff.1 hx)
  have hj := (List.getElem?_eq_some_iff.1 hy)
  obtain ⟨h1, e1⟩ := hi
  obtain ⟨h2, e2⟩ := hj
  have := List.pairwise_iff_getElem.1 h.1 i j h1 h2 hij
  rw [e1, e2] at this
  exact List.lt_irrefl _ this
theorem FoundG.step {get get' : ByteArray → Option Fl} {cs : List Int} {l : List ByteArray} {i : Nat} (h : FoundG get get' cs l i) (hn : NamesOf get l) {x : ByteArray} (hx : l[i]? = some x) {fl : Fl} (hf : get x = some fl) : FoundG get (upd get' x (some (foundF fl (chAt cs i)))) cs l (i + 1) := by
  refine ⟨fun j y fl' hj hy hg => ?_, fun y hy => ?_⟩
  · by_cases e : j = i
    · subst e
      rw [hx] at hy
      cases hy
      rw [hf] at hg
      cases hg
      exact upd_same _ _ _
    · rw [upd_ne _ _ (names_ne hn (show j < i by omega) hy hx)]
      exact h.1 j y fl' (by omega) hy hg
  · rw [take_snoc_of hx, List.mem_append] at hy
    rw [upd_ne _ _ (fun e => hy (Or.inr (by simp [e])))]
    exact h.2 y (fun h => hy (Or.inl h))
def CrashR (B : Nat) (s : Dk) (cs : List Int) (e : Ending) (w' : World) : Prop := ∃ gf l get', e = .returned (.pointer (some ⟨gf, 0, none⟩)) ∧ NamesOf s.get l ∧ FoundG s.get get' cs l l.length ∧ DkAt B w' gf ⟨get', l.length, 0, false, 0, 0⟩
/-- What region 9 reads. -/
abbrev SF (g gf m mf hx : Nat) (x : ByteArray) (W : World) : Prop := (W.cell? ⟨gf, 4, none⟩ = some (.map (some mf)) ∧ W.cell? ⟨g, 4, none⟩ = some (.map (some m))) ∧ (Instr.lookup 44 (.map (some m)) (.string x) false).run Try.prog W = .ok (.pointer (some ⟨hx, 0, none⟩)) W
set_option maxHeartbeats 4000000 in
set_option maxRecDepth 100000 in
theorem crash_any {B : Nat} {w : World} {g : Nat} {s : Dk} (hd : DkAt B w g s) (hB : B ≤ w.heap.size) (hn : s.n ≤ 1000000000) (hl : ∀ nm fl, s.get nm = some fl → nm.size ≤ 32 ∧ fl.bytes.length ≤ 140737488355328) (p : Option Addr) (k : Nat) (cs : List Int) (hc : SlOf encI 1 w p k cs) (hcl : cs.length ≤ 140737488355328) (hpg : 0 < cs.length → ∀ b off, p = some ⟨b, off, none⟩ → b ≠ g) :
    Calls Try.prog 11 #[.pointer (some ⟨g, 0, none⟩), .slice p cs.length k] w fun e w' => CrashR w.heap.size s cs e w' ∧ DkAt B w' g { s with off := true } ∧ Below B w w' := by
  obtain ⟨m, h, q, c, hi⟩ := hd
  obtain ⟨⟨c0, c1, c2, c3, c4⟩, z0, z1, z2, z3⟩ := cells5 hi.box
  have hg1 := grown_set w g 1 (.bool true)
  have hi1 : DkIn B (w.setCell ⟨g, 1, none⟩ (.bool true)) g { s with off := true } m h q c := hi.turn hg1 rfl rfl hi.small (heap_setCell_same w g 1 _ 46 (.bool true) hi.box)
  have hc1 : SlOf encI 1 (w.setCell ⟨g, 1, none⟩ (.bool true)) p k cs := by
    refine ⟨hc.1, hc.2.1, hc.2.2.1, fun h0 => ?_⟩
    obtain ⟨b, off, hq, hb, hA⟩ := hc.2.2.2 h0
    have he := hg1.block b hb (by intro e; injection e with e; exact hpg h0 b off hq e)
    exact ⟨b, off, hq, Nat.lt_of_lt_of_le hb hg1.size, fun j u hj => (World.cell?_of_block (w := w) (a := ⟨b, off + j, none⟩) he).trans (hA j u hj)⟩
  have hBw1 : Below B w (w.setCell ⟨g, 1, none⟩ (.bool true)) := grown_le hg1 hi.bg hB
  obtain ⟨W, hW⟩ : ∃ W, w.setCell ⟨g, 1, none⟩ (.bool true) = W := ⟨_, rfl⟩
  have hsz : W.heap.size = w.heap.size := by rw [← hW]; simp
  rw [hW] at hi1 hc1 hBw1
  have HSZ := hide hsz
  have hnew := new_any W
  have hri := fun (V : World) (hV : DkAt B V g { s with off := true }) => rising_any hV hn
  have HI := hide hi1
  have HC := hide hc1
  have HBW := hide hBw1
  have HL := hide hl
  clear hi hi1 hc hc1 hg1 hBw1 hl hsz
  go_enter Try.func11, Try.ntmps11
  go_wp2_with (first
    | (go_at_call 5; refine hnew.mono ?_; rintro e w2 ⟨rfl, d2, b2⟩; have D2 := hide d2; have B2 := hide b2; clear d2 b2)
    | (go_at_call 33; refine (hri w2 ⟨_, _, _, _, (unhide HI).below (unhide B2)⟩).mono ?_; rintro e w3 ⟨⟨qn, cn, l, rfl, on, hno, hln⟩, b3⟩; have ON := hide on; have NO := hide hno; have B3 := hide b3; have D3 := hide ((unhide D2).below b3); clear on hno b3))
  obtain ⟨mf, hf0, qf0, cf0, di⟩ := unhide D3
  have hW3 : Below W.heap.size W w3 := below_sub (unhide B2) (unhide B3)
  have HW3 := hide hW3
  have DI := hide di
  have hmf := di.bm
  have hmflt := di.map.lt
  clear di hW3
  go_loopw [17] (fun v wr => ∃ (i : Nat) (get' : ByteArray → Option Fl) (hf : ByteArray → Nat) (qf : ByteArray → Option Addr) (cf : ByteArray → Nat), i ≤ l.length ∧ v = .int .i64 (i : Int) ∧ Hid (DkIn W.heap.size wr (W.heap.size + 1) ⟨get', i, 0, false, 0, 0⟩ mf hf qf cf) ∧ Hid (FoundG s.get get' cs l i) ∧ Hid (w3.grownBy wr (some mf))) (fun v _ => l.length - (intOf v).toNat)
  case atStart => exact ⟨0, fun _ => none, hf0, qf0, cf0, Nat.zero_le _, rfl, DI, hide ⟨fun _ _ _ h => by omega, fun _ _ => rfl⟩, hide (grown_refl _ _)⟩
  case round =>
    obtain ⟨i, get', hf, qf, cf, hil, rfl, HD, HFG, HG⟩ := hrel
    by_cases hlt : i < l.length
    · obtain ⟨x, hx, _⟩ := get_at hlt
      have hdw : Below W.heap.size W wr := (unhide HW3).trans (grown_le (unhide HG) hmf (by have := (unhide HW3).size; omega))
      have dd := (unhide HI).below hdw
      obtain ⟨fl, hfl⟩ := Option.isSome_iff_exists.1 (((unhide NO).2 x).1 (List.mem_of_getElem? hx))
      obtain ⟨hx32, hfl12⟩ := unhide HL x fl hfl
      have fx := dd.file x fl hfl
      obtain ⟨es, cl, hm3⟩ := (unhide DI).map.is_map
      have hns := sl_map (by decide) (unhide ON).ls hm3 (unhide HG)
      obtain ⟨b, off, hq, hb, cx⟩ := strAt hns hx
      have ki0 : (0 : Int) ≤ (i : Int) := by omega
      have ki1 : (i : Int) < (l.length : Int) := by omega
      have hmm : m < W.heap.size := (unhide HI).map.lt
      have hgg : g < W.heap.size := (Array.getElem?_eq_some_iff.1 (unhide HI).box).1
      have df := unhide HD
      have hSF : ∀ V v, Below wr.heap.size wr V → (v = V ∨ V.grownBy v (some mf)) → SF g (W.heap.size + 1) m mf (h x) x v := fun V v hV hv => by
        have e1 := dd.below hV
        have e2 := df.below hV
        have hlk := fun (u : World) (hu : FM u m s.n (fun nm => (s.get nm).map fun _ => h nm)) => hu.look (nm := x) (by unfold maxLen; omega)
        have nf : W.heap.size + 1 ≠ mf := fun e => by
          obtain ⟨es2, cl2, h9⟩ := e2.map.is_map
          rw [← e, e2.box] at h9
          cases h9
        rcases hv with rfl | hv
        · have h3 := hlk v e1.map
          rw [hfl] at h3
          exact ⟨⟨(cells5 e2.box).1.2.2.2.2, (cells5 e1.box).1.2.2.2.2⟩, h3⟩
        · have h3 := hlk v (e1.map.kept hv (by intro e; injection e with e; omega))
          rw [hfl] at h3
          refine ⟨⟨(cells5 ((hv.block _ (Array.getElem?_eq_some_iff.1 e2.box).1 (by intro e; injection e with e; exact nf e)).trans e2.box)).1.2.2.2.2, (cells5 ((hv.block _ (Array.getElem?_eq_some_iff.1 e1.box).1 (by intro e; injection e with e; omega)).trans e1.box)).1.2.2.2.2⟩, h3⟩
      have hput : ∀ V nh, Below wr.heap.size wr V → ∃ v, (Instr.mapUpdate 44 (.map (some mf)) (.string x) (.pointer (some ⟨nh, 0, none⟩))).run Try.prog V = .ok () v ∧ SF g (W.heap.size + 1) m mf (h x) x v ∧ FM v mf (i + 1) (upd (fun nm => (get' nm).map fun _ => hf nm) x (some nh)) ∧ V.grownBy v (some mf) := fun V nh hV => by
        obtain ⟨v, r1, r2, r3⟩ := (df.map.below hV).put (by show i < maxLen; unfold maxLen; omega) (nm := x) (by unfold maxLen; omega) nh
        exact ⟨v, r1, hSF V v hV (Or.inr r3), r2, r3⟩
      have hend : ∀ V v nh q0 c0 ch, Below wr.heap.size wr V → FlAt wr.heap.size V nh q0 c0 (foundF fl ch) → FM v mf (i + 1) (upd (fun nm => (get' nm).map fun _ => hf nm) x (some nh)) → V.grownBy v (some mf) → ch = chAt cs i → (∃ (get' : ByteArray → Option Fl) (hf : ByteArray → Nat) (qf : ByteArray → Option Addr) (cf : ByteArray → Nat), Hid (DkIn W.heap.size v (W.heap.size + 1) ⟨get', i + 1, 0, false, 0, 0⟩ mf hf qf cf) ∧ Hid (FoundG s.get get' cs l (i + 1))) ∧ Hid (w3.grownBy v (some mf)) := fun V v nh q0 c0 ch hV hfa hm hg hch => by
        have e2 := df.below hV
        have hwr : W.heap.size ≤ wr.heap.size := hdw.size
        refine ⟨⟨_, _, _, _, hide (e2.put hg hm (hfa.mono hwr) ?_), hide (by subst hch; exact (unhide HFG).step (unhide NO) hx hfl)⟩, hide ?_⟩
        · intro k' fl' _ hk'
          have f2 := df.file k' fl' hk'
          refine ⟨by have := f2.lt; have := hfa.1; omega, fun p p' hp hp' => ?_⟩
          have := f2.row_lt hp
          have := own_from hfa.2.2.1 hp'
          omega
        · exact grown_trans (grown_trans (unhide HG) ⟨hV.os, hV.tape, hV.output, hV.size, fun j hj _ => hV.block j hj⟩) hg
      have hfo := fun (V : World) (hV : Below wr.heap.size wr V) (ch : Int) => found_any (fx.below hV) hfl12 ch
      have S0 := hSF wr wr (Below.refl _ _) (Or.inl rfl)
      have HSF := hide hSF
      have HPU := hide hput
      have HEN := hide hend
      subst hq
      clear hSF hput hend df dd fx hns hm3
      have hcs := (unhide HC).below hdw
      by_cases hci : i < cs.length
      · obtain ⟨y, hy, _⟩ := get_at hci
        obtain ⟨b2, off2, hq2, hb2, cy⟩ := intAt hcs hy
        have HCH : Hid (y = chAt cs i) := hide (by unfold chAt; rw [hy]; rfl)
        have kc : (i : Int) < (cs.length : Int) := by omega
        subst hq2
        clear hcs hx hy hdw
        unfold SF at S0
        go_wp2
        go_region_held3 (fun V => (V.cell? ⟨W.heap.size + 1, 4, none⟩ = some (.map (some mf)) ∧ V.cell? ⟨g, 4, none⟩ = some (.map (some m))) ∧ (Instr.lookup 44 (.map (some m)) (.string x) false).run Try.prog V = .ok (.pointer (some ⟨h x, 0, none⟩)) V)
          (first | with_reducible exact unhide K1 | with_reducible exact unhide K2 | exact unhide HSF _ _ (unhide BV) (Or.inl rfl) | exact unhide HSF _ _ (unhide BV).drew (Or.inl rfl) | exact unhide HSF _ _ (Below.refl _ _).drew (Or.inl rfl) | exact unhide HSF _ _ (Below.refl _ _) (Or.inl rfl))
          ((go_at_call 34; refine (hfo wr.drew (Below.refl _ _).drew y).mono ?_; rintro e w5 ⟨⟨h5, q5, c5, rfl, f5⟩, b5⟩; have b5' := below_undrew b5; obtain ⟨v1, r1, k1, m1, g1⟩ := unhide HPU w5 h5 b5'; obtain ⟨v2, r2, k2, m2, g2⟩ := unhide HPU w5.drew h5 b5'.drew; have BV := hide b5'; have E1 := hide (unhide HEN w5 v1 h5 q5 c5 y b5' f5 m1 g1 (unhide HCH)); have E2 := hide (unhide HEN w5.drew v2 h5 q5 c5 y b5'.drew (f5.below (Below.refl _ _).drew) m2 g2 (unhide HCH)); have K1 := hide k1; have K2 := hide k2; clear b5 b5' k1 k2 m1 m2 g1 g2 f5))
        all_goals
          go_wp2
          go_roundw
          case rel =>
            first
              | exact (let ⟨⟨gt, hf', qf', cf', hd', hfg'⟩, hg'⟩ := unhide E1; ⟨i + 1, gt, hf', qf', cf', by omega, by go_num, hd', hfg', hg'⟩)
              | exact (let ⟨⟨gt, hf', qf', cf', hd', hfg'⟩, hg'⟩ := unhide E2; ⟨i + 1, gt, hf', qf', cf', by omega, by go_num, hd', hfg', hg'⟩)
          case measure => simp [intOf]; omega
      · have HCH : Hid ((0 : Int) = chAt cs i) := hide (by unfold chAt; rw [List.getElem?_eq_none (by omega)]; rfl)
        have kc : ¬ (i : Int) < (cs.length : Int) := by omega
        clear hcs hx hdw
        unfold SF at S0
        go_wp2
        go_region_held3 (fun V => (V.cell? ⟨W.heap.size + 1, 4, none⟩ = some (.map (some mf)) ∧ V.cell? ⟨g, 4, none⟩ = some (.map (some m))) ∧ (Instr.lookup 44 (.map (some m)) (.string x) false).run Try.prog V = .ok (.pointer (some ⟨h x, 0, none⟩)) V)
          (first | with_reducible exact unhide K1 | with_reducible exact unhide K2 | exact unhide HSF _ _ (unhide BV) (Or.inl rfl) | exact unhide HSF _ _ (unhide BV).drew (Or.inl rfl) | exact unhide HSF _ _ (Below.refl _ _).drew (Or.inl rfl) | exact unhide HSF _ _ (Below.refl _ _) (Or.inl rfl))
          ((go_at_call 34; refine (hfo wr.drew (Below.refl _ _).drew 0).mono ?_; rintro e w5 ⟨⟨h5, q5, c5, rfl, f5⟩, b5⟩; have b5' := below_undrew b5; obtain ⟨v1, r1, k1, m1, g1⟩ := unhide HPU w5 h5 b5'; obtain ⟨v2, r2, k2, m2, g2⟩ := unhide HPU w5.drew h5 b5'.drew; have BV := hide b5'; have E1 := hide (unhide HEN w5 v1 h5 q5 c5 0 b5' f5 m1 g1 (unhide HCH)); have E2 := hide (unhide HEN w5.drew v2 h5 q5 c5 0 b5'.drew (f5.below (Below.refl _ _).drew) m2 g2 (unhide HCH)); have K1 := hide k1; have K2 := hide k2; clear b5 b5' k1 k2 m1 m2 g1 g2 f5))
        all_goals
          go_wp2
          go_roundw
          case rel =>
            first
              | exact (let ⟨⟨gt, hf', qf', cf', hd', hfg'⟩, hg'⟩ := unhide E1; ⟨i + 1, gt, hf', qf', cf', by omega, by go_num, hd', hfg', hg'⟩)
              | exact (let ⟨⟨gt, hf', qf', cf', hd', hfg'⟩, hg'⟩ := unhide E2; ⟨i + 1, gt, hf', qf', cf', by omega, by go_num, hd', hfg', hg'⟩)
          case measure => simp [intOf]; omega
    · obtain rfl : i = l.length := by omega
      have ki1 : ¬ (l.length : Int) < (l.length : Int) := by omega
      have hb4 : Below W.heap.size W wr := (unhide HW3).trans (grown_le (unhide HG) hmf (by have := (unhide HW3).size; omega))
      have HB4 := hide hb4
      clear hb4
      go_wp2
      go_ret
      refine ⟨⟨_, l, get', rfl, unhide NO, unhide HFG, ⟨mf, hf, qf, cf, ?_⟩⟩, ⟨m, h, q, c, (unhide HI).below (unhide HB4)⟩, (unhide HBW).trans ((unhide HB4).mono (by have := unhide HSZ; omega))⟩
      rw [← unhide HSZ]
      exact unhide HD
end Go.Proofs.Ytonhagoeajhacaa.Old
namespace Go.Proofs.Ytonhagoeajhacaa.Old
open Go.RowKit Go.Sort Go.Shelf

theorem names_any {B : Nat} {w : World} {g : Nat} {s : Dk} (hd : DkAt B w g s) (hn : s.n ≤ 1000000000) (ho : s.off = false) :
    Calls Try.prog 15 #[.pointer (some ⟨g, 0, none⟩)] w fun e w' => (∃ q cap l, e = .returned (.slice q l.length cap) ∧ OwnK encS 9 1 w.heap.size w' q cap l ∧ NamesOf s.get l ∧ l.length ≤ s.n) ∧ Below w.heap.size w w' := by
  have hri := rising_any hd hn
  obtain ⟨m, h, q, c, hi⟩ := hd
  obtain ⟨⟨c0, c1, c2, c3, c4⟩, _⟩ := cells5 hi.box
  rw [ho] at c1
  clear hi
  go_enter Try.func15, Try.ntmps15
  go_wp2_with (go_at_call 33; refine hri.mono ?_; rintro e w1 ⟨⟨q1, c1', l, rfl, o1, n1, l1⟩, b1⟩; have O1 := hide o1; have N1 := hide n1; have L1 := hide l1; have B1 := hide b1; clear o1 n1 l1 b1)
  go_ret
  exact ⟨⟨q1, c1', l, rfl, unhide O1, unhide N1, unhide L1⟩, unhide B1⟩
theorem remove_no {B : Nat} {w : World} {g : Nat} {s : Dk} (hd : DkAt B w g s) {nm : ByteArray} (he : errE s nm ≠ 0) :
    Calls Try.prog 17 #[.pointer (some ⟨g, 0, none⟩), .string nm] w fun e w' => e = .returned (.int .i64 (errE s nm)) ∧ Below w.heap.size w w' := by
  obtain ⟨m, h, q, c, hi⟩ := hd
  have hfi := find_no hi he
  generalize errE s nm = E at he hfi ⊢
  have hE : (E == 0) = false := by simp [he]
  clear hi he
  go_enter Try.func17, Try.ntmps17
  go_wp2_with (go_at_call 31; refine hfi.mono ?_; rintro e w1 ⟨rfl, b1⟩; have B1 := hide b1; clear b1)
  go_ret
  exact ⟨rfl, unhide B1⟩
theorem wpList_delF {ops : Array Oper} {rest : List Oper} {o : Oper} {a : Act} {w : World} {Q : Exit → Act → World → Prop} (hg : o.guard = none) (mm x : Operand) (hop : o.op = Op.call { callee := Callee.builtin Builtin.delete, args := #[mm, x], argTypes := #[44, 9] })
    (m n : Nat) (f : ByteArray → Option Nat) (nm : ByteArray) (hm : a.eval mm = .map (some m)) (hx : a.eval x = .string nm) (hf : FM w m n f) (hs : nm.size ≤ maxLen)
    (hK : ∀ w', FM w' m n (upd f nm none) → w.grownBy w' (some m) → wpList Try.prog ops Q rest (a.put o.dst (.tuple #[])) w') : wpList Try.prog ops Q (o :: rest) a w := by
  refine wpList_plain hg fun K' hK' => ?_
  obtain ⟨w', hrun, r1, r2⟩ := hf.del hs o.type
  unfold Oper.wp
  simp [execOp, hop, resolve, invoke, builtin, hm, hx, hrun, Result.andThen]
  exact hK' _ _ (hK w' r1 r2)
theorem ck_two (off : Bool) (a b : ByteArray) : ckE off [a, b] = if off then 40 else if nameOk a && nameOk b then 0 else 1 := by
  unfold ckE; simp
set_option maxHeartbeats 1000000 in
set_option maxRecDepth 100000 in
theorem rename_yes {B : Nat} {w : World} {g : Nat} {s : Dk} (hd : DkAt B w g s) (hB : B ≤ w.heap.size) {nm to : ByteArray} {fl : Fl} (ho : s.off = false) (hk : nameOk nm = true) (hk2 : nameOk to = true) (hf : s.get nm = some fl) (h1 : s.named ≠ 1) (ha : s.acts ≤ 4611686018427387904) (hn : s.n < maxLen) :
    Calls Try.prog 16 #[.pointer (some ⟨g, 0, none⟩), .string nm, .string to] w fun e w' => e = .returned (.int .i64 0) ∧ DkAt B w' g { s with get := upd (upd s.get nm none) to (some fl), n := s.n + 1, named := s.named - 1, acts := s.acts + 1 } ∧ Below B w w' := by
  obtain ⟨m, h, q, c, hi⟩ := hd
  have hs1 := name_size hk
  have hs2 := name_size hk2
  have hb : Below w.heap.size w (w.alloc (.cells #[.string nm, .string to] 9)) := (Below.refl _ _).alloc (Nat.le_refl _) _
  have hi2 := hi.below hb
  have hck := check_any ⟨m, h, q, c, hi2⟩ (some ⟨w.heap.size, 0, none⟩) 2 [nm, to] (slA w [nm, to] (by simp)) (by simp)
  rw [ck_two, ho, hk, hk2] at hck
  simp only [List.length_cons, List.length_nil, Nat.zero_add, Nat.reduceAdd, Bool.false_eq_true, if_false, if_true, Bool.and_self] at hck
  have hfi := find_yes hi2 ho hk hf
  have hsp := fun (W : World) (hW : DkIn B W g s m h q c) => spend_yes hW h1 ha
  have hend : ∀ W w2 w3 w4 : World, DkIn B W g { s with named := s.named - 1, acts := s.acts + 1 } m h q c → B ≤ W.heap.size → FM w2 m s.n (upd (fun k => (s.get k).map fun _ => h k) nm none) → W.grownBy w2 (some m) → Below w2.heap.size w2 w3 → FM w4 m (s.n + 1) (upd (upd (fun k => (s.get k).map fun _ => h k) nm none) to (some (h nm))) → w3.grownBy w4 (some m) → DkAt B w4 g { s with get := upd (upd s.get nm none) to (some fl), n := s.n + 1, named := s.named - 1, acts := s.acts + 1 } ∧ Below B W w4 := fun W w2 w3 w4 hW hBW hm2 hg2 hb3 hm4 hg4 => by
    have d2 := hW.del hg2 hm2
    have d3 := d2.below hb3
    have f2 : FlAt B w2 (h nm) (q nm) (c nm) fl := by
      have f0 := hW.file nm fl hf
      obtain ⟨es, cl, h9⟩ := hW.map.is_map
      refine f0.same (hg2.block _ f0.lt ?_) (fun p hp => hg2.block _ (f0.row_lt hp) ?_)
      · intro e; injection e with e
        have h8 := f0.2.1
        rw [e, h9] at h8; cases h8
      · intro e; injection e with e
        obtain ⟨cur, h8⟩ := own_cells f0.2.2.1 hp
        rw [e, h9] at h8; cases h8
    refine ⟨⟨m, _, _, _, d3.put hg4 ?_ (f2.below hb3) ?_⟩, ?_⟩
    · refine hm4.ext fun k => ?_
      by_cases e : k = to
      · subst e; rw [upd_same, upd_same]
      · rw [upd_ne _ _ e, upd_ne _ _ e]
        by_cases e2 : k = nm
        · subst e2; simp only [upd_same]; rfl
        · simp only [upd_ne _ _ e2]
    · intro k fl' hne hk'
      have hkn : k ≠ nm := fun e => by subst e; rw [show (({ s with named := s.named - 1, acts := s.acts + 1, get := upd s.get k none } : Dk)).get k = none from upd_same _ _ _] at hk'; cases hk'
      have hk3 : s.get k = some fl' := by rw [← upd_ne s.get none hkn]; exact hk'
      exact hW.apart k nm fl' fl hk3 hf hkn
    · exact (grown_le hg2 hW.bm hBW).trans ((hb3.mono (by have := hg2.size; omega)).trans (grown_le hg4 hW.bm (by have := hg2.size; have := hb3.size; omega)))
  have HE := hide hend
  have HI2 := hide hi2
  have HBB := hide (hb.mono hB)
  clear hi hi2 hb hend
  go_enter Try.func16, Try.ntmps16
  go_wp2_with (first
    | (go_at_call 27; refine hck.mono ?_; rintro e w1 ⟨rfl, hw1⟩; obtain rfl := hw1.symm)
    | (go_at_call 31; refine hfi.mono ?_; rintro e w2 ⟨rfl, b2⟩; have D2 := hide ((unhide HI2).below b2); have B2 := hide ((unhide HBB).trans (b2.mono (Nat.le_trans hB (unhide HBB).size))); clear b2)
    | (go_at_call 28; refine (hsp w2 (unhide D2)).mono ?_; rintro e w3 ⟨rfl, d3, g3⟩; obtain ⟨⟨x0, x1, x2, x3, x4⟩, _⟩ := cells5 d3.box; have B3 := hide ((unhide B2).trans (grown_le g3 d3.bg (Nat.le_trans hB (unhide B2).size))); have D3 := hide d3; clear d3 g3)
    | (at_delete; refine wpList_delF rfl _ _ rfl m s.n (fun k => (s.get k).map fun _ => h k) nm rfl rfl (unhide D3).map (by unfold maxLen; omega) ?_; intro w4 f4 g4; have D4 := (unhide D3).del g4 f4; have hpu := put_any D4.box f4 hn to hs2 (h nm); have F4 := hide f4; have G4 := hide g4; clear D4 f4 g4)
    | (go_at_call 36; refine hpu.mono ?_; rintro e w6 ⟨⟨v, rfl⟩, w5, b5, f6, g6⟩; have E6 := hide (unhide HE w3 w4 w5 w6 (unhide D3) (Nat.le_trans hB (unhide B3).size) (unhide F4) (unhide G4) b5 f6 g6); clear b5 f6 g6))
  go_ret
  exact ⟨rfl, (unhide E6).1, (unhide B3).trans (unhide E6).2⟩
end Go.Proofs.Ytonhagoeajhacaa.Old

/- The disk's Names, Remove, Rename. -/
import Derived.Test.YtonhagoeajhacaaCrash
namespace Go.Proofs.Ytonhagoeajhacaa
open Go.RowKit Go.Sort Go.Shelf

theorem names_any {B : Nat → Prop} {w : World} {g : Nat} {s : Dk} (hd : DkAt B w g s) (hn : s.n ≤ 1000000000) (ho : s.off = false) :
    Calls Try.prog 15 #[.pointer (some ⟨g, 0, none⟩)] w fun e w' => (∃ q cap l, e = .returned (.slice q l.length cap) ∧ OwnK encS 9 1 w.heap.size w' q cap l ∧ NamesOf s.get l ∧ l.length ≤ s.n) ∧ Below w.heap.size w w' := by
  have hri := rising_any hd hn
  obtain ⟨m, h, q, c, hi⟩ := hd
  obtain ⟨⟨c0, c1, c2, c3, c4⟩, _⟩ := cells5 hi.box
  rw [ho] at c1
  clear hi
  go_enter Try.func15, Try.ntmps15
  go_wp2_with (go_at_call 33; refine hri.mono ?_; rintro e w1 ⟨⟨q1, c1', l, rfl, o1, n1, l1⟩, b1⟩; have O1 := hide o1; have N1 := hide n1; have L1 := hide l1; have B1 := hide b1; clear o1 n1 l1 b1)
  go_ret
  exact ⟨⟨q1, c1', l, rfl, unhide O1, unhide N1, unhide L1⟩, unhide B1⟩
theorem remove_no {B : Nat → Prop} {w : World} {g : Nat} {s : Dk} (hd : DkAt B w g s) {nm : ByteArray} (he : errE s nm ≠ 0) :
    Calls Try.prog 17 #[.pointer (some ⟨g, 0, none⟩), .string nm] w fun e w' => e = .returned (.int .i64 (errE s nm)) ∧ Below w.heap.size w w' := by
  obtain ⟨m, h, q, c, hi⟩ := hd
  have hfi := find_no hi he
  generalize errE s nm = E at he hfi ⊢
  have hE : (E == 0) = false := by simp [he]
  clear hi he
  go_enter Try.func17, Try.ntmps17
  go_wp2_with (go_at_call 31; refine hfi.mono ?_; rintro e w1 ⟨rfl, b1⟩; have B1 := hide b1; clear b1)
  go_ret
  exact ⟨rfl, unhide B1⟩
theorem wpList_delF {ops : Array Oper} {rest : List Oper} {o : Oper} {a : Act} {w : World} {Q : Exit → Act → World → Prop} (hg : o.guard = none) (mm x : Operand) (hop : o.op = Op.call { callee := Callee.builtin Builtin.delete, args := #[mm, x], argTypes := #[44, 9] })
    (m n : Nat) (f : ByteArray → Option Nat) (nm : ByteArray) (hm : a.eval mm = .map (some m)) (hx : a.eval x = .string nm) (hf : FM w m n f) (hs : nm.size ≤ maxLen)
    (hK : ∀ w', FM w' m n (upd f nm none) → w.grownBy w' (some m) → wpList Try.prog ops Q rest (a.put o.dst (.tuple #[])) w') : wpList Try.prog ops Q (o :: rest) a w := by
  refine wpList_plain hg fun K' hK' => ?_
  obtain ⟨w', hrun, r1, r2⟩ := hf.del hs o.type
  unfold Oper.wp
  simp [execOp, hop, resolve, invoke, builtin, hm, hx, hrun, Result.andThen]
  exact hK' _ _ (hK w' r1 r2)
theorem ck_two (off : Bool) (a b : ByteArray) : ckE off [a, b] = if off then 40 else if nameOk a && nameOk b then 0 else 1 := by
  unfold ckE; simp
set_option maxHeartbeats 1000000 in
set_option maxRecDepth 100000 in
theorem rename_yes {B : Nat → Prop} {w : World} {g : Nat} {s : Dk} (hd : DkAt B w g s) (hB : Sub B w) {nm to : ByteArray} {fl : Fl} (ho : s.off = false) (hk : nameOk nm = true) (hk2 : nameOk to = true) (hf : s.get nm = some fl) (h1 : s.named ≠ 1) (ha : s.acts ≤ 4611686018427387904) (hn : s.n < maxLen) :
    Calls Try.prog 16 #[.pointer (some ⟨g, 0, none⟩), .string nm, .string to] w fun e w' => e = .returned (.int .i64 0) ∧ DkAt B w' g { s with get := upd (upd s.get nm none) to (some fl), n := s.n + 1, named := s.named - 1, acts := s.acts + 1 } ∧ Kpt B w w' := by
  obtain ⟨m, h, q, c, hi⟩ := hd
  have hs1 := name_size hk
  have hs2 := name_size hk2
  have hb : Below w.heap.size w (w.alloc (.cells #[.string nm, .string to] 9)) := (Below.refl _ _).alloc (Nat.le_refl _) _
  have hi2 := hi.below hb
  have hck := check_any ⟨m, h, q, c, hi2⟩ (some ⟨w.heap.size, 0, none⟩) 2 [nm, to] (slA w [nm, to] (by simp)) (by simp)
  rw [ck_two, ho, hk, hk2] at hck
  simp only [List.length_cons, List.length_nil, Nat.zero_add, Nat.reduceAdd, Bool.false_eq_true, if_false, if_true, Bool.and_self] at hck
  have hfi := find_yes hi2 ho hk hf
  have hsp := fun (W : World) (hW : DkIn B W g s m h q c) => spend_yes hW h1 ha
  have hend : ∀ W w2 w3 w4 : World, DkIn B W g { s with named := s.named - 1, acts := s.acts + 1 } m h q c → Sub B W → FM w2 m s.n (upd (fun k => (s.get k).map fun _ => h k) nm none) → W.grownBy w2 (some m) → Below w2.heap.size w2 w3 → FM w4 m (s.n + 1) (upd (upd (fun k => (s.get k).map fun _ => h k) nm none) to (some (h nm))) → w3.grownBy w4 (some m) → DkAt B w4 g { s with get := upd (upd s.get nm none) to (some fl), n := s.n + 1, named := s.named - 1, acts := s.acts + 1 } ∧ Kpt B W w4 := fun W w2 w3 w4 hW hBW hm2 hg2 hb3 hm4 hg4 => by
    have d2 := hW.del hg2 hm2
    have d3 := d2.below hb3
    have f2 : FlAt B w2 (h nm) (q nm) (c nm) fl := by
      have f0 := hW.file nm fl hf
      obtain ⟨es, cl, h9⟩ := hW.map.is_map
      refine f0.same (hg2.block _ f0.lt ?_) (fun p hp => hg2.block _ (f0.row_lt hp) ?_)
      · intro e; injection e with e
        have h8 := f0.2.1
        rw [e, h9] at h8; cases h8
      · intro e; injection e with e
        obtain ⟨cur, h8⟩ := own_cells f0.2.2.1 hp
        rw [e, h9] at h8; cases h8
    refine ⟨⟨m, _, _, _, d3.put hg4 ?_ (f2.below hb3) ?_⟩, ?_⟩
    · refine hm4.ext fun k => ?_
      by_cases e : k = to
      · subst e; rw [upd_same, upd_same]
      · rw [upd_ne _ _ e, upd_ne _ _ e]
        by_cases e2 : k = nm
        · subst e2; simp only [upd_same]; rfl
        · simp only [upd_ne _ _ e2]
    · intro k fl' hne hk'
      have hkn : k ≠ nm := fun e => by subst e; rw [show (({ s with named := s.named - 1, acts := s.acts + 1, get := upd s.get k none } : Dk)).get k = none from upd_same _ _ _] at hk'; cases hk'
      have hk3 : s.get k = some fl' := by rw [← upd_ne s.get none hkn]; exact hk'
      exact hW.apart k nm fl' fl hk3 hf hkn
    · exact (grown_le hg2 hW.bm hBW).trans ((Kpt.of (B := B) hb3).trans (grown_le hg4 hW.bm (Sub.trans hBW (Nat.le_trans hg2.size hb3.size))))
  have HE := hide hend
  have HI2 := hide hi2
  have HBB := hide (Kpt.of (B := B) hb)
  clear hi hi2 hb hend
  go_enter Try.func16, Try.ntmps16
  go_wp2_with (first
    | (go_at_call 27; refine hck.mono ?_; rintro e w1 ⟨rfl, hw1⟩; obtain rfl := hw1.symm)
    | (go_at_call 31; refine hfi.mono ?_; rintro e w2 ⟨rfl, b2⟩; have D2 := hide ((unhide HI2).below b2); have B2 := hide ((unhide HBB).trans (Kpt.of (B := B) b2)); clear b2)
    | (go_at_call 28; refine (hsp w2 (unhide D2)).mono ?_; rintro e w3 ⟨rfl, d3, g3⟩; obtain ⟨⟨x0, x1, x2, x3, x4⟩, _⟩ := cells5 d3.box; have B3 := hide ((unhide B2).trans (grown_le g3 d3.bg (Sub.trans hB (unhide B2).size))); have D3 := hide d3; clear d3 g3)
    | (at_delete; refine wpList_delF rfl _ _ rfl m s.n (fun k => (s.get k).map fun _ => h k) nm rfl rfl (unhide D3).map (by unfold maxLen; omega) ?_; intro w4 f4 g4; have D4 := (unhide D3).del g4 f4; have hpu := put_any D4.box f4 hn to hs2 (h nm); have F4 := hide f4; have G4 := hide g4; clear D4 f4 g4)
    | (go_at_call 36; refine hpu.mono ?_; rintro e w6 ⟨⟨v, rfl⟩, w5, b5, f6, g6⟩; have E6 := hide (unhide HE w3 w4 w5 w6 (unhide D3) (Sub.trans hB (unhide B3).size) (unhide F4) (unhide G4) b5 f6 g6); clear b5 f6 g6))
  go_ret
  exact ⟨rfl, (unhide E6).1, (unhide B3).trans (unhide E6).2⟩
end Go.Proofs.Ytonhagoeajhacaa

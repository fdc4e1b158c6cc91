/- The reference's disk: mod; what a crash leaves of a list of files, plain. -/
import Derived.Test.YtfigjfmldpfjkaaGreatR8
import Derived.Test.YtfigjfmldpfjkaaGreatCrash
import Derived.Deep.RegionLaw
import Derived.Test.YtfigjfmldpfjkaaGreatBase
import Derived.Laws.BitsAll
namespace Go.Proofs.YtfigjfmldpfjkaaGreat
open Go.RowKit Go.Sort Go.Shelf

theorem rmod_any (n : Int) (m : Nat) (hm : 0 < m) (hm2 : m ≤ 200000000000000) (w : World) :
    Calls Tryz.prog 92 #[.int .i64 n, .int .i64 (m : Int)] w fun e w' => e = .returned (.int .i64 ((modZ n m : Nat) : Int)) ∧ w' = w := by
  have m0 : ¬ (m : Int) = 0 := by omega
  have m0' : ((m : Int) == 0) = false := by simp; omega
  have hlo := Int.lt_tmod_of_pos n (show (0 : Int) < (m : Int) by omega)
  have hhi : Int.tmod n (m : Int) < (m : Int) := Int.tmod_lt_of_pos n (by omega)
  have e2 : IntKind.i64.wrap (Int.tmod n (m : Int)) = Int.tmod n (m : Int) := wrap_int _ (by omega) (by omega)
  have e3 : IntKind.i64.wrap (Int.tmod n (m : Int) + (m : Int)) = Int.tmod n (m : Int) + (m : Int) := wrap_int _ (by omega) (by omega)
  have hz : n % (m : Int) = ((modZ n m : Nat) : Int) := by
    unfold modZ
    rw [Int.toNat_of_nonneg (Int.emod_nonneg _ m0)]
  have hmod : n % (m : Int) = (n.tmod (m : Int)) % (m : Int) := by
    have h3 := Int.tmod_add_mul_tdiv n (m : Int)
    conv => lhs; rw [← h3]
    rw [Int.add_mul_emod_self_left]
  by_cases hneg : n.tmod (m : Int) < 0
  · have he : n.tmod (m : Int) + (m : Int) = ((modZ n m : Nat) : Int) := by
      rw [← hz, hmod, ← Int.add_emod_right, Int.emod_eq_of_lt (by omega) (by omega)]
    have HE := hide he
    clear he hz hmod
    go_enter Tryz.func92, Tryz.ntmps92
    go_wp2
    go_ret
    exact ⟨ret_int (unhide HE), rfl⟩
  · have he : n.tmod (m : Int) = ((modZ n m : Nat) : Int) := by
      rw [← hz, hmod, Int.emod_eq_of_lt (by omega) (by omega)]
    have HE := hide he
    clear he hz hmod
    go_enter Tryz.func92, Tryz.ntmps92
    go_wp2
    go_ret
    exact ⟨ret_int (unhide HE), rfl⟩
end Go.Proofs.YtfigjfmldpfjkaaGreat
namespace Go.Proofs.YtfigjfmldpfjkaaGreat
open Go.RowKit Go.Sort Go.Shelf

def flOf (x : Rf) : Fl := ⟨x.bs, x.la⟩
def CrF (fs : List Rf) (cs : List Int) (L : List Rf) (k : Nat) : Prop := L.length = k ∧ ∀ (j : Nat) (x y : Rf), fs[j]? = some x → L[j]? = some y → y.nm = x.nm ∧ flOf y = foundF (flOf x) (chAt cs j)
theorem CrF.snoc {fs : List Rf} {cs : List Int} {L : List Rf} {k : Nat} (h : CrF fs cs L k) {x y : Rf} (hx : fs[k]? = some x) (hn : y.nm = x.nm) (hf : flOf y = foundF (flOf x) (chAt cs k)) : CrF fs cs (L ++ [y]) (k + 1) := by
  obtain ⟨h1, h2⟩ := h
  refine ⟨by simp [h1], fun j x' y' hx' hy' => ?_⟩
  by_cases hj : j < L.length
  · rw [List.getElem?_append_left hj] at hy'; exact h2 j x' y' hx' hy'
  · rw [List.getElem?_append_right (by omega)] at hy'
    have hlt := (List.getElem?_eq_some_iff.1 hy').1
    simp at hlt
    obtain rfl : j = k := by omega
    rw [hx] at hx'; cases hx'
    rw [show j - L.length = 0 by omega] at hy'
    simp at hy'
    rw [← hy']; exact ⟨hn, hf⟩
/-- A row's block and its type. -/
theorem own_type {α : Type} [Inhabited α] {enc : α → List Value} {e : TypeId} {k B : Nat} {w : World} {q : Option Addr} {cap : Nat} {l : List α} (h : OwnK enc e k B w q cap l) {p : Addr} (hp : q = some p) : B ≤ p.block ∧ ∃ cur, w.heap[p.block]? = some (.cells cur e (0, 0)) := by
  subst hp
  rcases h.2 with ⟨h0, _⟩ | ⟨g, cp, cur, hv, hB, hblk, hr⟩
  · injection h0 with h0; cases h0
  · injection hv with h1
    injection h1 with h1
    subst h1
    exact ⟨hB, cur, hblk⟩
theorem own_keep {α : Type} [Inhabited α] {enc : α → List Value} {e : TypeId} {k B : Nat} {w w' : World} {q : Option Addr} {cap : Nat} {l : List α} {r : Option Nat} (h : OwnK enc e k B w q cap l) (hg : w.grownBy w' r) (hne : ∀ p, q = some p → some p.block ≠ r) : OwnK enc e k B w' q cap l := by
  refine ⟨h.1, ?_⟩
  rcases h.2 with h0 | ⟨g, cp, cur, hv, hB, hblk, hr⟩
  · exact Or.inl h0
  · refine Or.inr ⟨g, cp, cur, hv, hB, (hg.block g (Array.getElem?_eq_some_iff.1 hblk).1 ?_).trans hblk, hr⟩
    injection hv with h1
    exact hne _ h1
/-- The state of the loop. -/
structure CrI (w2 : World) (o : Nat) (fs : List Rf) (cs : List Int) (k : Nat) (wr : World) (q2 : Option Addr) (cap : Nat) (L : List Rf) : Prop where
  cr : CrF fs cs L k
  box : wr.heap[o]? = some (.cells #[.slice q2 k cap, .int .i64 0, .bool false, .int .i64 0, .int .i64 0] 30 (0, 0))
  row : OwnK encF 105 3 (o + 1) wr q2 cap L
  file : ∀ y ∈ L, OwnK encB 5 1 (o + 1) wr y.p y.c y.bs
  grown : w2.grownBy wr (some o)
theorem ownBlock_of (q : Option Addr) (n c : Nat) : ∀ r, (Value.slice q n c).ownBlock = some r → ∃ p, q = some p ∧ p.block = r := by
  intro r h
  cases q with
  | none => cases h
  | some p => exact ⟨p, rfl, by simpa [Value.ownBlock] using h⟩
theorem CrI.step {w2 wr w4 w5 : World} {o k : Nat} {fs : List Rf} {cs : List Int} {q2 q5 : Option Addr} {cap c5 : Nat} {L : List Rf} {x y : Rf} (h : CrI w2 o fs cs k wr q2 cap L) (b4 : Below wr.heap.size wr w4) (o4 : OwnK encB 5 1 wr.heap.size w4 y.p y.c y.bs) (hx : fs[k]? = some x) (hn : y.nm = x.nm) (hf : flOf y = foundF (flOf x) (chAt cs k)) (ho : o < wr.heap.size) (hw2 : w2.heap.size ≤ o + 1)
    (o5 : OwnK encF 105 3 (o + 1) w5 q5 c5 (L ++ [y])) (g5 : w4.grownBy w5 (Value.slice q2 k cap).ownBlock) : CrI w2 o fs cs (k + 1) (w5.setCell ⟨o, 0, none⟩ (.slice q5 (k + 1) c5)) q5 c5 (L ++ [y]) := by
  have row4 := h.row.below b4
  have gs := grown_set w5 o 0 (.slice q5 (k + 1) c5)
  have hoff : some o ≠ (Value.slice q2 k cap).ownBlock := fun e => by
    obtain ⟨p, hp, hb⟩ := ownBlock_of q2 k cap o e.symm
    have := (own_type h.row hp).1
    omega
  have box4 := (b4.block o ho).trans h.box
  have box5 := (g5.block o (Nat.lt_of_lt_of_le ho b4.size) hoff).trans box4
  have keepB : ∀ z : Rf, OwnK encB 5 1 (o + 1) w4 z.p z.c z.bs → OwnK encB 5 1 (o + 1) (w5.setCell ⟨o, 0, none⟩ (.slice q5 (k + 1) c5)) z.p z.c z.bs := fun z hz => by
    have z5 := own_keep hz g5 (fun p hp e => by
      obtain ⟨p2, hp2, hb2⟩ := ownBlock_of q2 k cap _ e.symm
      obtain ⟨cu, hcu⟩ := (own_type hz hp).2
      obtain ⟨cu2, hcu2⟩ := (own_type row4 hp2).2
      rw [hb2, hcu] at hcu2
      injection hcu2 with hcu2
      injection hcu2 with _ hcu2
      cases hcu2)
    exact own_keep z5 gs (fun p hp e => by injection e with e; have := (own_type z5 hp).1; omega)
  refine ⟨h.cr.snoc hx hn hf, ?_, own_keep o5 gs (fun p hp e => by injection e with e; have := (own_type o5 hp).1; omega), fun z hz => ?_, ?_⟩
  · exact heap_setCell_same w5 o 0 _ 30 (.slice q5 (k + 1) c5) box5
  · rw [List.mem_append, List.mem_singleton] at hz
    rcases hz with hz | rfl
    · exact keepB z ((h.file z hz).below b4)
    · exact keepB z (o4.mono (by omega))
  · have gr := h.grown
    refine ⟨gs.os.trans (g5.os.trans (b4.os.trans gr.os)), gs.tape.trans (g5.tape.trans (b4.tape.trans gr.tape)), gs.output.trans (g5.output.trans (b4.output.trans gr.output)), Nat.le_trans gr.size (Nat.le_trans b4.size (Nat.le_trans g5.size gs.size)), fun i hi hne => ?_⟩
    have h1 : i < wr.heap.size := Nat.lt_of_lt_of_le hi gr.size
    have h2 : i < w4.heap.size := Nat.lt_of_lt_of_le h1 b4.size
    by_cases hq : some i = (Value.slice q2 k cap).ownBlock
    · exfalso
      obtain ⟨p, hp, hb⟩ := ownBlock_of q2 k cap i hq.symm
      have := (own_type h.row hp).1
      omega
    · exact (gs.block i (Nat.lt_of_lt_of_le h2 g5.size) hne).trans ((g5.block i h2 hq).trans ((b4.block i h1).trans (gr.block i hi hne)))
end Go.Proofs.YtfigjfmldpfjkaaGreat
namespace Go.Proofs.YtfigjfmldpfjkaaGreat
open Go.RowKit Go.Sort Go.Shelf

theorem names_any {B : Nat → Prop} {w : World} {g : Nat} {s : Dk} (hd : DkAt B w g s) (hn : s.n ≤ 1000000000) (ho : s.off = false) :
    Calls Tryz.prog 82 #[.pointer (some ⟨g, 0, none⟩)] w fun e w' => (∃ q cap l, e = .returned (.slice q l.length cap) ∧ OwnK encS 9 1 w.heap.size w' q cap l ∧ NamesOf s.get l ∧ l.length ≤ s.n) ∧ Below w.heap.size w w' := by
  have hri := rising_any hd hn
  obtain ⟨m, h, q, c, hi⟩ := hd
  obtain ⟨⟨c0, c1, c2, c3, c4⟩, _⟩ := cells5 hi.box
  rw [ho] at c1
  clear hi
  go_enter Tryz.func82, Tryz.ntmps82
  go_wp2_with (go_at_call 40; refine hri.mono ?_; rintro e w1 ⟨⟨q1, c1', l, rfl, o1, n1, l1⟩, b1⟩; have O1 := hide o1; have N1 := hide n1; have L1 := hide l1; have B1 := hide b1; clear o1 n1 l1 b1)
  go_ret
  exact ⟨⟨q1, c1', l, rfl, unhide O1, unhide N1, unhide L1⟩, unhide B1⟩
theorem remove_no {B : Nat → Prop} {w : World} {g : Nat} {s : Dk} (hd : DkAt B w g s) {nm : ByteArray} (he : errE s nm ≠ 0) :
    Calls Tryz.prog 43 #[.pointer (some ⟨g, 0, none⟩), .string nm] w fun e w' => e = .returned (.int .i64 (errE s nm)) ∧ Below w.heap.size w w' := by
  obtain ⟨m, h, q, c, hi⟩ := hd
  have hfi := find_no hi he
  generalize errE s nm = E at he hfi ⊢
  have hE : (E == 0) = false := by simp [he]
  clear hi he
  go_enter Tryz.func43, Tryz.ntmps43
  go_wp2_with (go_at_call 70; refine hfi.mono ?_; rintro e w1 ⟨rfl, b1⟩; have B1 := hide b1; clear b1)
  go_ret
  exact ⟨rfl, unhide B1⟩
theorem wpList_delF {ops : Array Oper} {rest : List Oper} {o : Oper} {a : Act} {w : World} {Q : Exit → Act → World → Prop} (hg : o.guard = none) (mm x : Operand) (hop : o.op = Op.call { callee := Callee.builtin Builtin.delete, args := #[mm, x], argTypes := #[49, 9] })
    (m n : Nat) (f : ByteArray → Option Nat) (nm : ByteArray) (hm : a.eval mm = .map (some m)) (hx : a.eval x = .string nm) (hf : FM w m n f) (hs : nm.size ≤ maxLen)
    (hK : ∀ w', FM w' m n (upd f nm none) → w.grownBy w' (some m) → wpList Tryz.prog ops Q rest (a.put o.dst (.tuple #[])) w') : wpList Tryz.prog ops Q (o :: rest) a w := by
  refine wpList_plain hg fun K' hK' => ?_
  obtain ⟨w', hrun, r1, r2⟩ := hf.del hs o.type
  unfold Oper.wp
  simp [execOp, hop, resolve, invoke, builtin, hm, hx, hrun, Result.andThen]
  exact hK' _ _ (hK w' r1 r2)
theorem ck_two (off : Bool) (a b : ByteArray) : ckE off [a, b] = if off then 40 else if nameOk a && nameOk b then 0 else 1 := by
  unfold ckE; simp
set_option maxHeartbeats 1000000 in
set_option maxRecDepth 100000 in
theorem rename_yes {B : Nat → Prop} {w : World} {g : Nat} {s : Dk} (hd : DkAt B w g s) (hB : Sub B w) {nm to : ByteArray} {fl : Fl} (ho : s.off = false) (hk : nameOk nm = true) (hk2 : nameOk to = true) (hf : s.get nm = some fl) (h1 : s.named ≠ 1) (ha : s.acts ≤ 4611686018427387904) (hn : s.n < maxLen) :
    Calls Tryz.prog 75 #[.pointer (some ⟨g, 0, none⟩), .string nm, .string to] w fun e w' => e = .returned (.int .i64 0) ∧ DkAt B w' g { s with get := upd (upd s.get nm none) to (some fl), n := s.n + 1, named := s.named - 1, acts := s.acts + 1 } ∧ Kpt B w w' := by
  obtain ⟨m, h, q, c, hi⟩ := hd
  have hs1 := name_size hk
  have hs2 := name_size hk2
  have hb : Below w.heap.size w (w.alloc (.cells #[.string nm, .string to] 9)) := (Below.refl _ _).alloc (Nat.le_refl _) _
  have hi2 := hi.below hb
  have hck := check_any ⟨m, h, q, c, hi2⟩ (some ⟨w.heap.size, 0, none⟩) 2 [nm, to] (slA w [nm, to] (by simp)) (by simp)
  rw [ck_two, ho, hk, hk2] at hck
  simp only [List.length_cons, List.length_nil, Nat.zero_add, Nat.reduceAdd, Bool.false_eq_true, if_false, if_true, Bool.and_self] at hck
  have hfi := find_yes hi2 ho hk hf
  have hsp := fun (W : World) (hW : DkIn B W g s m h q c) => spend_yes hW h1 ha
  have hend : ∀ W w2 w3 w4 : World, DkIn B W g { s with named := s.named - 1, acts := s.acts + 1 } m h q c → Sub B W → FM w2 m s.n (upd (fun k => (s.get k).map fun _ => h k) nm none) → W.grownBy w2 (some m) → Below w2.heap.size w2 w3 → FM w4 m (s.n + 1) (upd (upd (fun k => (s.get k).map fun _ => h k) nm none) to (some (h nm))) → w3.grownBy w4 (some m) → DkAt B w4 g { s with get := upd (upd s.get nm none) to (some fl), n := s.n + 1, named := s.named - 1, acts := s.acts + 1 } ∧ Kpt B W w4 := fun W w2 w3 w4 hW hBW hm2 hg2 hb3 hm4 hg4 => by
    have d2 := hW.del hg2 hm2
    have d3 := d2.below hb3
    have f2 : FlAt B w2 (h nm) (q nm) (c nm) fl := by
      have f0 := hW.file nm fl hf
      obtain ⟨es, cl, h9⟩ := hW.map.is_map
      refine f0.same (hg2.block _ f0.lt ?_) (fun p hp => hg2.block _ (f0.row_lt hp) ?_)
      · intro e; injection e with e
        have h8 := f0.2.1
        rw [e, h9] at h8; cases h8
      · intro e; injection e with e
        obtain ⟨cur, h8⟩ := own_cells f0.2.2.1 hp
        rw [e, h9] at h8; cases h8
    refine ⟨⟨m, _, _, _, d3.put hg4 ?_ (f2.below hb3) ?_⟩, ?_⟩
    · refine hm4.ext fun k => ?_
      by_cases e : k = to
      · subst e; rw [upd_same, upd_same]
      · rw [upd_ne _ _ e, upd_ne _ _ e]
        by_cases e2 : k = nm
        · subst e2; simp only [upd_same]; rfl
        · simp only [upd_ne _ _ e2]
    · intro k fl' hne hk'
      have hkn : k ≠ nm := fun e => by subst e; rw [show (({ s with named := s.named - 1, acts := s.acts + 1, get := upd s.get k none } : Dk)).get k = none from upd_same _ _ _] at hk'; cases hk'
      have hk3 : s.get k = some fl' := by rw [← upd_ne s.get none hkn]; exact hk'
      exact hW.apart k nm fl' fl hk3 hf hkn
    · exact (grown_le hg2 hW.bm hBW).trans ((Kpt.of (B := B) hb3).trans (grown_le hg4 hW.bm (Sub.trans hBW (Nat.le_trans hg2.size hb3.size))))
  have HE := hide hend
  have HI2 := hide hi2
  have HBB := hide (Kpt.of (B := B) hb)
  clear hi hi2 hb hend
  go_enter Tryz.func75, Tryz.ntmps75
  go_wp2_with (first
    | (go_at_call 55; refine hck.mono ?_; rintro e w1 ⟨rfl, hw1⟩; obtain rfl := hw1.symm)
    | (go_at_call 70; refine hfi.mono ?_; rintro e w2 ⟨rfl, b2⟩; have D2 := hide ((unhide HI2).below b2); have B2 := hide ((unhide HBB).trans (Kpt.of (B := B) b2)); clear b2)
    | (go_at_call 56; refine (hsp w2 (unhide D2)).mono ?_; rintro e w3 ⟨rfl, d3, g3⟩; obtain ⟨⟨x0, x1, x2, x3, x4⟩, _⟩ := cells5 d3.box; have B3 := hide ((unhide B2).trans (grown_le g3 d3.bg (Sub.trans hB (unhide B2).size))); have D3 := hide d3; clear d3 g3)
    | (at_delete; refine wpList_delF rfl _ _ rfl m s.n (fun k => (s.get k).map fun _ => h k) nm rfl rfl (unhide D3).map (by unfold maxLen; omega) ?_; intro w4 f4 g4; have D4 := (unhide D3).del g4 f4; have hpu := put_any D4.box f4 hn to hs2 (h nm); have F4 := hide f4; have G4 := hide g4; clear D4 f4 g4)
    | (go_at_call 94; refine hpu.mono ?_; rintro e w6 ⟨⟨v, rfl⟩, w5, b5, f6, g6⟩; have E6 := hide (unhide HE w3 w4 w5 w6 (unhide D3) (Sub.trans hB (unhide B3).size) (unhide F4) (unhide G4) b5 f6 g6); clear b5 f6 g6))
  go_ret
  exact ⟨rfl, (unhide E6).1, (unhide B3).trans (unhide E6).2⟩
end Go.Proofs.YtfigjfmldpfjkaaGreat
namespace Go.Proofs.YtfigjfmldpfjkaaGreat
open Go.RowKit Go.Sort Go.Shelf

theorem append_no {B : Nat → Prop} {w : World} {g : Nat} {s : Dk} (hd : DkAt B w g s) {nm : ByteArray} (he : ckE s.off [nm] ≠ 0) (p : Option Addr) (k n : Nat) :
    Calls Tryz.prog 29 #[.pointer (some ⟨g, 0, none⟩), .string nm, .slice p n k] w fun e w' => e = .returned (.int .i64 (ckE s.off [nm])) ∧ Below w.heap.size w w' := by
  have hb : Below w.heap.size w (w.alloc (.cells #[.string nm] 9)) := (Below.refl _ _).alloc (Nat.le_refl _) _
  have hck : Calls Tryz.prog 55 #[.pointer (some ⟨g, 0, none⟩), .slice (some ⟨w.heap.size, 0, none⟩) 1 1] (w.alloc (.cells #[.string nm] 9)) _ := check_any (hd.below hb) (some ⟨w.heap.size, 0, none⟩) 1 [nm] (slA w [nm] (by simp)) (by simp)
  generalize ckE s.off [nm] = E at he hck ⊢
  have hE : (E == 0) = false := by simp [he]
  have HB := hide hb
  clear hd hb he
  go_enter Tryz.func29, Tryz.ntmps29
  go_wp2_with (go_at_call 55; refine hck.mono ?_; rintro e w1 ⟨rfl, hw1⟩; obtain rfl := hw1.symm)
  go_ret
  exact ⟨rfl, unhide HB⟩
theorem sync_down {B : Nat → Prop} {w : World} {g : Nat} {s : Dk} (hd : DkAt B w g s) (hB : Sub B w) {nm : ByteArray} {fl : Fl} (ho : s.off = false) (hk : nameOk nm = true) (hf : s.get nm = some fl) (h1 : s.named = 1) :
    Calls Tryz.prog 37 #[.pointer (some ⟨g, 0, none⟩), .string nm] w fun e w' => e = .returned (.int .i64 40) ∧ DkAt B w' g { s with off := true } ∧ Kpt B w w' := by
  obtain ⟨m, h, q, c, hi⟩ := hd
  have hfi := find_yes hi ho hk hf
  have hsp := fun (W : World) (hW : DkIn B W g s m h q c) => spend_no hW h1
  have HI := hide hi
  clear hi
  go_enter Tryz.func37, Tryz.ntmps37
  go_wp2_with (first
    | (go_at_call 70; refine hfi.mono ?_; rintro e w1 ⟨rfl, b1⟩; have D1 := hide ((unhide HI).below b1); have B1 := hide (Kpt.of (B := B) b1); clear b1)
    | (go_at_call 56; refine (hsp w1 (unhide D1)).mono ?_; rintro e w2 ⟨rfl, d2, g2⟩; have D2 := hide d2; have B2 := hide ((unhide B1).trans (grown_le g2 (unhide HI).bg (Sub.trans hB (unhide B1).size))); clear d2 g2))
  go_ret
  exact ⟨rfl, ⟨_, _, _, _, unhide D2⟩, unhide B2⟩
theorem remove_down {B : Nat → Prop} {w : World} {g : Nat} {s : Dk} (hd : DkAt B w g s) (hB : Sub B w) {nm : ByteArray} {fl : Fl} (ho : s.off = false) (hk : nameOk nm = true) (hf : s.get nm = some fl) (h1 : s.named = 1) :
    Calls Tryz.prog 43 #[.pointer (some ⟨g, 0, none⟩), .string nm] w fun e w' => e = .returned (.int .i64 40) ∧ DkAt B w' g { s with off := true } ∧ Kpt B w w' := by
  obtain ⟨m, h, q, c, hi⟩ := hd
  have hfi := find_yes hi ho hk hf
  have hsp := fun (W : World) (hW : DkIn B W g s m h q c) => spend_no hW h1
  have HI := hide hi
  clear hi
  go_enter Tryz.func43, Tryz.ntmps43
  go_wp2_with (first
    | (go_at_call 70; refine hfi.mono ?_; rintro e w1 ⟨rfl, b1⟩; have D1 := hide ((unhide HI).below b1); have B1 := hide (Kpt.of (B := B) b1); clear b1)
    | (go_at_call 56; refine (hsp w1 (unhide D1)).mono ?_; rintro e w2 ⟨rfl, d2, g2⟩; have D2 := hide d2; have B2 := hide ((unhide B1).trans (grown_le g2 (unhide HI).bg (Sub.trans hB (unhide B1).size))); clear d2 g2))
  go_ret
  exact ⟨rfl, ⟨_, _, _, _, unhide D2⟩, unhide B2⟩
set_option maxHeartbeats 1000000 in
theorem remove_yes {B : Nat → Prop} {w : World} {g : Nat} {s : Dk} (hd : DkAt B w g s) (hB : Sub B w) {nm : ByteArray} {fl : Fl} (ho : s.off = false) (hk : nameOk nm = true) (hf : s.get nm = some fl) (h1 : s.named ≠ 1) (ha : s.acts ≤ 4611686018427387904) :
    Calls Tryz.prog 43 #[.pointer (some ⟨g, 0, none⟩), .string nm] w fun e w' => e = .returned (.int .i64 0) ∧ DkAt B w' g { s with get := upd s.get nm none, named := s.named - 1, acts := s.acts + 1 } ∧ Kpt B w w' := by
  obtain ⟨m, h, q, c, hi⟩ := hd
  have hs1 := name_size hk
  have hfi := find_yes hi ho hk hf
  have hsp := fun (W : World) (hW : DkIn B W g s m h q c) => spend_yes hW h1 ha
  have HI := hide hi
  clear hi ho
  go_enter Tryz.func43, Tryz.ntmps43
  go_wp2_with (first
    | (go_at_call 70; refine hfi.mono ?_; rintro e w1 ⟨rfl, b1⟩; have D1 := hide ((unhide HI).below b1); have B1 := hide (Kpt.of (B := B) b1); clear b1)
    | (go_at_call 56; refine (hsp w1 (unhide D1)).mono ?_; rintro e w2 ⟨rfl, d2, g2⟩; obtain ⟨⟨x0, x1, x2, x3, x4⟩, _⟩ := cells5 d2.box; have B2 := hide ((unhide B1).trans (grown_le g2 (unhide HI).bg (Sub.trans hB (unhide B1).size))); have D2 := hide d2; clear d2 g2)
    | (at_delete; refine wpList_delF rfl _ _ rfl m s.n (fun k => (s.get k).map fun _ => h k) nm rfl rfl (unhide D2).map (by unfold maxLen; omega) ?_; intro w3 f3 g3; have D3 := hide ((unhide D2).del g3 f3); have B3 := hide ((unhide B2).trans (grown_le g3 (unhide D2).bm (Sub.trans hB (unhide B2).size))); clear f3 g3))
  go_ret
  exact ⟨rfl, ⟨_, _, _, _, unhide D3⟩, unhide B3⟩
theorem rename_no1 {B : Nat → Prop} {w : World} {g : Nat} {s : Dk} (hd : DkAt B w g s) {nm to : ByteArray} (he : ckE s.off [nm, to] ≠ 0) :
    Calls Tryz.prog 75 #[.pointer (some ⟨g, 0, none⟩), .string nm, .string to] w fun e w' => e = .returned (.int .i64 (ckE s.off [nm, to])) ∧ Below w.heap.size w w' := by
  have hb : Below w.heap.size w (w.alloc (.cells #[.string nm, .string to] 9)) := (Below.refl _ _).alloc (Nat.le_refl _) _
  have hck : Calls Tryz.prog 55 #[.pointer (some ⟨g, 0, none⟩), .slice (some ⟨w.heap.size, 0, none⟩) 2 2] (w.alloc (.cells #[.string nm, .string to] 9)) _ := check_any (hd.below hb) (some ⟨w.heap.size, 0, none⟩) 2 [nm, to] (slA w [nm, to] (by simp)) (by simp)
  generalize ckE s.off [nm, to] = E at he hck ⊢
  have hE : (E == 0) = false := by simp [he]
  have HB := hide hb
  clear hd hb he
  go_enter Tryz.func75, Tryz.ntmps75
  go_wp2_with (go_at_call 55; refine hck.mono ?_; rintro e w1 ⟨rfl, hw1⟩; obtain rfl := hw1.symm)
  go_ret
  exact ⟨rfl, unhide HB⟩
theorem rename_no2 {B : Nat → Prop} {w : World} {g : Nat} {s : Dk} (hd : DkAt B w g s) {nm to : ByteArray} (ho : s.off = false) (hk : nameOk nm = true) (hk2 : nameOk to = true) (hf : s.get nm = none) :
    Calls Tryz.prog 75 #[.pointer (some ⟨g, 0, none⟩), .string nm, .string to] w fun e w' => e = .returned (.int .i64 41) ∧ Below w.heap.size w w' := by
  obtain ⟨m, h, q, c, hi⟩ := hd
  have hb : Below w.heap.size w (w.alloc (.cells #[.string nm, .string to] 9)) := (Below.refl _ _).alloc (Nat.le_refl _) _
  have hi2 := hi.below hb
  have hck := check_any ⟨m, h, q, c, hi2⟩ (some ⟨w.heap.size, 0, none⟩) 2 [nm, to] (slA w [nm, to] (by simp)) (by simp)
  rw [ck_two, ho, hk, hk2] at hck
  simp only [List.length_cons, List.length_nil, Nat.zero_add, Nat.reduceAdd, Bool.false_eq_true, if_false, if_true, Bool.and_self] at hck
  have he : errE s nm = 41 := by unfold errE; rw [ho, hk, hf]; rfl
  have hfi := find_no hi2 (nm := nm) (by rw [he]; decide)
  rw [he] at hfi
  have HB := hide hb
  clear hi hi2 hb he
  go_enter Tryz.func75, Tryz.ntmps75
  go_wp2_with (first
    | (go_at_call 55; refine hck.mono ?_; rintro e w1 ⟨rfl, hw1⟩; obtain rfl := hw1.symm)
    | (go_at_call 70; refine hfi.mono ?_; rintro e w2 ⟨rfl, b2⟩; have B2 := hide (below_sub (unhide HB) b2); clear b2))
  go_ret
  exact ⟨rfl, unhide B2⟩
theorem rename_down {B : Nat → Prop} {w : World} {g : Nat} {s : Dk} (hd : DkAt B w g s) (hB : Sub B w) {nm to : ByteArray} {fl : Fl} (ho : s.off = false) (hk : nameOk nm = true) (hk2 : nameOk to = true) (hf : s.get nm = some fl) (h1 : s.named = 1) :
    Calls Tryz.prog 75 #[.pointer (some ⟨g, 0, none⟩), .string nm, .string to] w fun e w' => e = .returned (.int .i64 40) ∧ DkAt B w' g { s with off := true } ∧ Kpt B w w' := by
  obtain ⟨m, h, q, c, hi⟩ := hd
  have hb : Below w.heap.size w (w.alloc (.cells #[.string nm, .string to] 9)) := (Below.refl _ _).alloc (Nat.le_refl _) _
  have hi2 := hi.below hb
  have hck := check_any ⟨m, h, q, c, hi2⟩ (some ⟨w.heap.size, 0, none⟩) 2 [nm, to] (slA w [nm, to] (by simp)) (by simp)
  rw [ck_two, ho, hk, hk2] at hck
  simp only [List.length_cons, List.length_nil, Nat.zero_add, Nat.reduceAdd, Bool.false_eq_true, if_false, if_true, Bool.and_self] at hck
  have hfi := find_yes hi2 ho hk hf
  have hsp := fun (W : World) (hW : DkIn B W g s m h q c) => spend_no hW h1
  have HI2 := hide hi2
  have HBB := hide (Kpt.of (B := B) hb)
  clear hi hi2 hb
  go_enter Tryz.func75, Tryz.ntmps75
  go_wp2_with (first
    | (go_at_call 55; refine hck.mono ?_; rintro e w1 ⟨rfl, hw1⟩; obtain rfl := hw1.symm)
    | (go_at_call 70; refine hfi.mono ?_; rintro e w2 ⟨rfl, b2⟩; have D2 := hide ((unhide HI2).below b2); have B2 := hide ((unhide HBB).trans (Kpt.of (B := B) b2)); clear b2)
    | (go_at_call 56; refine (hsp w2 (unhide D2)).mono ?_; rintro e w3 ⟨rfl, d3, g3⟩; have B3 := hide ((unhide B2).trans (grown_le g3 d3.bg (Sub.trans hB (unhide B2).size))); have D3 := hide d3; clear d3 g3))
  go_ret
  exact ⟨rfl, ⟨_, _, _, _, unhide D3⟩, unhide B3⟩
end Go.Proofs.YtfigjfmldpfjkaaGreat
namespace Go.Proofs.YtfigjfmldpfjkaaGreat
open Go.RowKit Go.Sort Go.Shelf

abbrev nA : ByteArray := ⟨#[97]⟩
abbrev nB : ByteArray := ⟨#[98]⟩
abbrev nC : ByteArray := ⟨#[99]⟩
abbrev nF : ByteArray := ⟨#[102]⟩
theorem okA : nameOk nA = true := by decide
theorem okB' : nameOk nB = true := by decide
theorem okC : nameOk nC = true := by decide
theorem okF : nameOk nF = true := by decide
theorem neAB : nA ≠ nB := by decide
theorem neAC : nA ≠ nC := by decide
/-- Bytes in a new block. -/
theorem slAB (w : World) (l : List UInt8) (hl : l.length ≤ 100) : SlOf encB 1 (w.alloc (.cells (l.map bv).toArray 5)) (some ⟨w.heap.size, 0, none⟩) l.length l := by
  refine ⟨(fun h => by cases h), Nat.le_refl _, by unfold maxLen; omega, fun _ => ⟨w.heap.size, 0, rfl, by simp, fun j u hj => ?_⟩⟩
  rw [Nat.zero_add, cellA]
  rw [flatB] at hj
  simpa using hj
def iv (x : Int) : Value := .int .i64 x
theorem flatI (l : List Int) : (flatK encI 1 l.toArray).toList = l.map iv := by
  apply List.ext_getElem?
  intro j
  by_cases hj : j < l.length
  · obtain ⟨x, hx, _⟩ := get_at hj
    have := flat_at (enc := encI) (k := 1) hx 0 (by omega)
    rw [Nat.mul_one, Nat.add_zero] at this
    rw [this, List.getElem?_map, hx]; rfl
  · rw [List.getElem?_eq_none (by simp [flatK]; omega), List.getElem?_eq_none (by simp; omega)]
theorem slAI (w : World) (l : List Int) (hl : l.length ≤ 100) : SlOf encI 1 (w.alloc (.cells (l.map iv).toArray 3)) (some ⟨w.heap.size, 0, none⟩) l.length l := by
  refine ⟨(fun h => by cases h), Nat.le_refl _, by unfold maxLen; omega, fun _ => ⟨w.heap.size, 0, rfl, by simp, fun j u hj => ?_⟩⟩
  rw [Nat.zero_add, cellA]
  rw [flatI] at hj
  simpa using hj
theorem grow_some {s : Dk} {nm : ByteArray} {fl : Fl} (h : s.get nm = some fl) (data : List UInt8) : growS s nm data = { s with get := upd s.get nm (some ⟨fl.bytes ++ data, fl.lasts⟩) } := by unfold growS; rw [h]
theorem grow_none {s : Dk} {nm : ByteArray} (h : s.get nm = none) (data : List UInt8) : growS s nm data = { s with get := upd s.get nm (some ⟨data, 0⟩), n := s.n + 1 } := by unfold growS; rw [h]
/-- A disk of one file. -/
def one (nm : ByteArray) (bs : List UInt8) (l n acts : Nat) (off : Bool) (named : Nat) (part : Int) : Dk := ⟨upd (fun _ => none) nm (some ⟨bs, l⟩), n, acts, off, named, part⟩
theorem one_get (nm : ByteArray) (bs : List UInt8) (l n acts : Nat) (off : Bool) (named : Nat) (part : Int) : (one nm bs l n acts off named part).get nm = some ⟨bs, l⟩ := by
  simp only [one, upd_same]
theorem one_other {nm x : ByteArray} (h : x ≠ nm) (bs : List UInt8) (l n acts : Nat) (off : Bool) (named : Nat) (part : Int) : (one nm bs l n acts off named part).get x = none := by
  simp only [one, upd_ne _ _ h]
theorem names_one {α : Type} {f : ByteArray → Option α} {l : List ByteArray} {nm : ByteArray} (h : NamesOf f l) (hf : ∀ x, (f x).isSome = true ↔ x = nm) : l = [nm] := by
  have hm : ∀ x, x ∈ l ↔ x = nm := fun x => (h.2 x).trans (hf x)
  match l, h, hm with
  | [], _, hm => have := (hm nm).2 rfl; cases this
  | [a], _, hm => rw [(hm a).1 (by simp)]
  | a :: b :: r, h, hm =>
    exfalso
    have e1 := (hm a).1 (by simp)
    have e2 := (hm b).1 (by simp)
    exact names_ne h (i := 0) (j := 1) (by omega) rfl rfl (e1.trans e2.symm)
theorem one_some (nm : ByteArray) (bs : List UInt8) (l n acts : Nat) (off : Bool) (named : Nat) (part : Int) (x : ByteArray) : ((one nm bs l n acts off named part).get x).isSome = true ↔ x = nm := by
  by_cases e : x = nm
  · subst e; rw [one_get]; simp
  · rw [one_other e]; simp [e]
/-- What is found of a disk of one file. -/
theorem crash_one {B : Nat → Prop} {nm : ByteArray} {bs : List UInt8} {l n acts : Nat} {off : Bool} {named : Nat} {part : Int} {cs : List Int} {e : Ending} {w' : World} (h : CrashR B (one nm bs l n acts off named part) cs e w') :
    ∃ gf, e = .returned (.pointer (some ⟨gf, 0, none⟩)) ∧ DkAt B w' gf (one nm (foundF ⟨bs, l⟩ (chAt cs 0)).bytes (foundF ⟨bs, l⟩ (chAt cs 0)).lasts 1 0 false 0 0) := by
  obtain ⟨gf, ls, get', he, hn, hfg, hd⟩ := h
  obtain rfl := names_one hn (one_some nm bs l n acts off named part)
  refine ⟨gf, he, ?_⟩
  have h1 := hfg.1 0 nm ⟨bs, l⟩ (by simp) rfl (one_get _ _ _ _ _ _ _ _)
  have h2 : get' = upd (fun _ => none) nm (some (foundF ⟨bs, l⟩ (chAt cs 0))) := by
    funext x
    by_cases e : x = nm
    · subst e; rw [upd_same]; exact h1
    · rw [upd_ne _ _ e]
      exact hfg.2 x (by simpa using e)
  subst h2
  exact hd
/-- Append of bytes that were just laid out. -/
theorem app_lit (data : List UInt8) (hl : data.length ≤ 100) {B : Nat → Prop} {W : World} {g : Nat} {s : Dk} (hd : DkAt B W g s) (hB : Sub B W) {nm : ByteArray} (ho : s.off = false) (hk : nameOk nm = true) (h1 : s.named ≠ 1) (ha : s.acts ≤ 4611686018427387904) (hn : s.n < maxLen) (hl0 : ∀ fl, s.get nm = some fl → fl.bytes.length + data.length ≤ 140737488355328) :
    Calls Tryz.prog 29 #[.pointer (some ⟨g, 0, none⟩), .string nm, .slice (some ⟨W.heap.size, 0, none⟩) data.length data.length] (W.alloc (.cells (data.map bv).toArray 5)) fun e w' => e = .returned (.int .i64 0) ∧ DkAt B w' g (growS { s with named := s.named - 1, acts := s.acts + 1 } nm data) ∧ Kpt B W w' := by
  have hb : Below W.heap.size W (W.alloc (.cells (data.map bv).toArray 5)) := (Below.refl _ _).alloc (Nat.le_refl _) _
  refine (append_yes (hd.below hb) (Sub.trans hB hb.size) ho hk h1 ha hn _ _ data (slAB W data hl) hl0 (by omega)).mono ?_
  rintro e w' ⟨h1, h2, h3⟩
  exact ⟨h1, h2, (Kpt.of (B := B) hb).trans h3⟩
theorem app_down_lit (data : List UInt8) (hl : data.length ≤ 100) {B : Nat → Prop} {W : World} {g : Nat} {s : Dk} (hd : DkAt B W g s) (hB : Sub B W) {nm : ByteArray} (ho : s.off = false) (hk : nameOk nm = true) (h1 : s.named = 1) (hn : s.n < maxLen) (hl0 : ∀ fl, s.get nm = some fl → fl.bytes.length + data.length ≤ 140737488355328) :
    Calls Tryz.prog 29 #[.pointer (some ⟨g, 0, none⟩), .string nm, .slice (some ⟨W.heap.size, 0, none⟩) data.length data.length] (W.alloc (.cells (data.map bv).toArray 5)) fun e w' => e = .returned (.int .i64 40) ∧ DkAt B w' g (growS { s with off := true } nm (data.take (max s.part 0).toNat)) ∧ Kpt B W w' := by
  have hb : Below W.heap.size W (W.alloc (.cells (data.map bv).toArray 5)) := (Below.refl _ _).alloc (Nat.le_refl _) _
  refine (append_down (hd.below hb) (Sub.trans hB hb.size) ho hk h1 hn _ _ data (slAB W data hl) hl0 (by omega)).mono ?_
  rintro e w' ⟨h1, h2, h3⟩
  exact ⟨h1, h2, (Kpt.of (B := B) hb).trans h3⟩
/-- Crash with choices that were just laid out. -/
theorem crash_lit (cs : List Int) (hl : cs.length ≤ 100) {B : Nat → Prop} {W : World} {g : Nat} {s : Dk} (hd : DkAt B W g s) (hB : Sub B W) (hn : s.n ≤ 1000000000) (hl0 : ∀ nm fl, s.get nm = some fl → nm.size ≤ 32 ∧ fl.bytes.length ≤ 140737488355328) :
    Calls Tryz.prog 15 #[.pointer (some ⟨g, 0, none⟩), .slice (some ⟨W.heap.size, 0, none⟩) cs.length cs.length] (W.alloc (.cells (cs.map iv).toArray 3)) fun e w' => CrashR (· < W.heap.size + 1) s cs e w' ∧ DkAt B w' g { s with off := true } ∧ Kpt B W w' := by
  have hb : Below W.heap.size W (W.alloc (.cells (cs.map iv).toArray 3)) := (Below.refl _ _).alloc (Nat.le_refl _) _
  have hsz : (W.alloc (.cells (cs.map iv).toArray 3)).heap.size = W.heap.size + 1 := by simp
  have hgl : g < W.heap.size := by
    obtain ⟨m, h, q, c, hi⟩ := hd
    exact (Array.getElem?_eq_some_iff.1 hi.box).1
  have := crash_any (hd.below hb) (Sub.trans hB hb.size) hn hl0 _ _ cs (slAI W cs hl) (by omega) (by intro _ b off e; injection e with e; injection e with e; omega)
  rw [hsz] at this
  refine this.mono ?_
  rintro e w' ⟨h1, h2, h3⟩
  exact ⟨h1, h2, (Kpt.of (B := B) hb).trans h3⟩
end Go.Proofs.YtfigjfmldpfjkaaGreat
namespace Go.Proofs.YtfigjfmldpfjkaaGreat
open Go.RowKit Go.Sort

theorem u32x (a b : Nat) (ha : a < 4294967296) (hb : b < 4294967296) : bits .xor .u32 (a : Int) (b : Int) = ((a ^^^ b : Nat) : Int) := u32_xor_nat a b ha hb
theorem u32_one (a : Nat) (ha : a < 4294967296) : bits .and .u32 (a : Int) 1 = ((a % 2 : Nat) : Int) := by
  have := u32_and_nat a 1 ha (by omega)
  rw [Nat.and_one_is_mod] at this
  exact this
theorem wrap32 (a : Nat) (ha : a < 4294967296) : IntKind.u32.wrap (a : Int) = (a : Int) := by rw [IntKind.wrap_u32']; omega

set_option maxHeartbeats 1000000 in
theorem stir_any (s : Nat) (hs : s < 4294967296) (w : World) :
    Calls Tryz.prog 142 #[.int .u32 (s : Int)] w fun e w' => e = .returned (.int .u32 ((stirs 8 s : Nat) : Int)) ∧ w' = w := by
  go_enter Tryz.func142, Tryz.ntmps142
  go_wp2
  go_loopw [0, 4] (fun v i wr => ∃ k : Nat, k ≤ 8 ∧ i = .int .i64 (k : Int) ∧ v = .int .u32 ((stirs k s : Nat) : Int) ∧ wr = w) (fun _ i _ => 8 - (intOf i).toNat)
  case atStart => exact ⟨0, Nat.zero_le _, rfl, rfl, rfl⟩
  case round =>
    obtain ⟨k, hk, rfl, rfl, rfl⟩ := hrel
    have hlt0 := stirs_lt k hs
    have hsn := hide (stirs_snoc k s)
    generalize hT : stirs k s = t at hlt0 hsn ⊢
    have HT := hide hT
    clear hT
    obtain ⟨u, hu⟩ : ∃ u : Nat, t / 2 = u := ⟨_, rfl⟩
    have h1 := u32_one t hlt0
    have h2 : bits .xor .u32 (u : Int) 3988292384 = ((u ^^^ 3988292384 : Nat) : Int) := u32x u 3988292384 (by omega) (by omega)
    have h3 : (t : Int) / 2 = (u : Int) := by omega
    by_cases hk8 : k < 8
    · have hk8' : (k : Int) < 8 := by omega
      by_cases ho : t % 2 = 1
      · have hs1 := hide (show stir1 t = u ^^^ 3988292384 by unfold stir1; rw [if_pos ho, hu])
        have ho' : ((t % 2 : Nat) : Int) = 1 := by omega
        rw [ho'] at h1
        clear ho ho' hu
        go_wp2
        go_roundw
        case rel => exact ⟨k + 1, by omega, by go_num, by rw [unhide hsn, unhide hs1], trivial⟩
        case measure => simp [intOf]; omega
      · have hs1 := hide (show stir1 t = u by unfold stir1; rw [if_neg ho, hu])
        have ho' : ((t % 2 : Nat) : Int) = 0 := by omega
        rw [ho'] at h1
        clear ho ho' hu
        go_wp2
        go_roundw
        case rel => exact ⟨k + 1, by omega, by go_num, by rw [unhide hsn, unhide hs1], trivial⟩
        case measure => simp [intOf]; omega
    · obtain rfl : k = 8 := by omega
      go_wp2
      go_ret
      exact ⟨ret_int (by rw [unhide HT]), rfl⟩

/-- All bytes of several lists. -/
def allB (ps : List Sl) : List UInt8 := (ps.map (·.2.2)).flatten
theorem allB_snoc (ps : List Sl) (x : Sl) : allB (ps ++ [x]) = allB ps ++ x.2.2 := by unfold allB; simp
set_option maxHeartbeats 2000000 in
theorem sum_any (q : Option Addr) (c : Nat) (ps : List Sl) (w : World) (h : SlOf encQ 1 w q c ps) (hn : ps.length ≤ 100000000000000) (hp : ∀ x ∈ ps, SlOf encB 1 w x.1 x.2.1 x.2.2 ∧ x.2.2.length ≤ 1000000000000000) :
    Calls Tryz.prog 129 #[.slice q ps.length c] w fun e w' => e = .returned (.int .u32 ((sumB (allB ps) : Nat) : Int)) ∧ w' = w := by
  have hst := fun (s : Nat) (hs : s < 4294967296) => stir_any s hs w
  go_enter Tryz.func129, Tryz.ntmps129
  go_wp2
  go_loopw [3, 10] (fun v i wr => ∃ k : Nat, k ≤ ps.length ∧ i = .int .i64 (k : Int) ∧ v = .int .u32 ((crc 4294967295 (allB (ps.take k)) : Nat) : Int) ∧ wr = w) (fun _ i _ => ps.length - (intOf i).toNat)
  case atStart => exact ⟨0, Nat.zero_le _, rfl, rfl, rfl⟩
  case round =>
    obtain ⟨k, hk, rfl, rfl, rfl⟩ := hrel
    have hlt0 := crc_lt (allB (ps.take k)) (s := 4294967295) (by omega)
    by_cases hlt : k < ps.length
    · obtain ⟨x, hx, _⟩ := get_at hlt
      obtain ⟨b, off, hq, hb, c0⟩ := sliceAt h hx
      obtain ⟨hxs, hxl⟩ := hp x (List.mem_of_getElem? hx)
      have hsn := hide (show allB (ps.take (k + 1)) = allB (ps.take k) ++ x.2.2 by rw [take_snoc_of hx, allB_snoc])
      generalize hT : allB (ps.take k) = T at hlt0 hsn ⊢
      clear hT hx
      obtain ⟨xq, xc, xl⟩ := x
      subst hq
      simp only at hxs hxl c0 hsn
      have ki0 : (0 : Int) ≤ (k : Int) := by omega
      have ki1 : (k : Int) < (ps.length : Int) := by omega
      clear h hp
      go_wp2
      go_loopw [3, 16] (fun v i wr' => ∃ m : Nat, m ≤ xl.length ∧ i = .int .i64 (m : Int) ∧ v = .int .u32 ((crc 4294967295 (T ++ xl.take m) : Nat) : Int) ∧ wr' = wr) (fun _ i _ => xl.length - (intOf i).toNat)
      case atStart => exact ⟨0, Nat.zero_le _, rfl, by simp, rfl⟩
      case round =>
        obtain ⟨m, hm, rfl, rfl, rfl⟩ := hrel
        by_cases hml : m < xl.length
        · obtain ⟨y, hy, _⟩ := get_at hml
          obtain ⟨b2, off2, hq2, hb2, d0⟩ := byteAt hxs hy
          have hs2 := hide (show crc 4294967295 (T ++ xl.take (m + 1)) = stirs 8 (crc 4294967295 (T ++ xl.take m) ^^^ y.toNat) by rw [take_snoc_of hy, ← List.append_assoc, crc_snoc])
          have hl1 := crc_lt (T ++ xl.take m) (s := 4294967295) (by omega)
          generalize crc 4294967295 (T ++ xl.take m) = A at hs2 hl1 ⊢
          have e1 := wrap32 y.toNat (byte_lt y)
          have e2 := u32x A y.toNat hl1 (byte_lt y)
          have hst1 := hst (A ^^^ y.toNat) (xor_lt hl1 (byte_lt y))
          have mi0 : (0 : Int) ≤ (m : Int) := by omega
          have mi1 : (m : Int) < (xl.length : Int) := by omega
          subst hq2
          clear hst hxs hy
          go_wp2_with (go_at_call 142; refine hst1.mono ?_; rintro e w1 ⟨rfl, rfl⟩)
          go_roundw
          case rel => exact ⟨m + 1, by omega, by go_num, by rw [unhide hs2], trivial⟩
          case measure => simp [intOf]; omega
        · obtain rfl : m = xl.length := by omega
          have mi1 : ¬ (xl.length : Int) < (xl.length : Int) := by omega
          go_wp2
          go_roundw
          case rel => exact ⟨k + 1, by omega, by go_num, by rw [unhide hsn, List.take_length], trivial⟩
          case measure => simp [intOf]; omega
    · obtain rfl : k = ps.length := by omega
      rw [List.take_length] at hlt0 ⊢
      have e2 := u32x 4294967295 (crc 4294967295 (allB ps)) (by omega) hlt0
      have HS := hide (show sumB (allB ps) = 4294967295 ^^^ crc 4294967295 (allB ps) by unfold sumB; rw [Nat.xor_comm])
      have ki1 : ¬ (ps.length : Int) < (ps.length : Int) := by omega
      generalize crc 4294967295 (allB ps) = A at e2 HS ⊢
      clear h hp
      go_wp2
      go_ret
      exact ⟨ret_int (by rw [unhide HS]; exact e2), rfl⟩
end Go.Proofs.YtfigjfmldpfjkaaGreat

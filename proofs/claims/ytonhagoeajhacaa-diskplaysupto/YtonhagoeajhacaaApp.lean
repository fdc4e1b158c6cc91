/- The disk's Append, Sync, Loose. -/
import Derived.Test.YtonhagoeajhacaaGrow
namespace Go.Proofs.Ytonhagoeajhacaa
open Go.RowKit Go.Sort Go.Shelf

def growS (s : Dk) (nm : ByteArray) (data : List UInt8) : Dk := match s.get nm with
  | some fl => { s with get := upd s.get nm (some ⟨fl.bytes ++ data, fl.lasts⟩) }
  | none => { s with get := upd s.get nm (some ⟨data, 0⟩), n := s.n + 1 }
theorem grow_any {B : Nat → Prop} {w : World} {g : Nat} {s : Dk} (hd : DkAt B w g s) (hB : Sub B w) {nm : ByteArray} (hs : nm.size ≤ 32) (hn : s.n < maxLen) (p : Option Addr) (k : Nat) (data : List UInt8) (hdt : SlOf encB 1 w p k data) (hl0 : ∀ fl, s.get nm = some fl → fl.bytes.length + data.length ≤ 140737488355328) (hl : data.length ≤ 140737488355328) :
    Calls Try.prog 30 #[.pointer (some ⟨g, 0, none⟩), .string nm, .slice p data.length k] w fun e w' => (∃ v, e = .returned v) ∧ DkAt B w' g (growS s nm data) ∧ Kpt B w w' := by
  obtain ⟨m, h, q, c, hi⟩ := hd
  unfold growS
  cases hf : s.get nm with
  | some fl => exact grow_old hi hB hs hf p k data hdt (hl0 fl hf)
  | none => exact grow_new hi hB hs hf hn p k data hdt (by omega)
theorem sl_box {w w' : World} {g : Nat} {a c d : Int} {b : Bool} {e : Option Nat} {q : Option Addr} {k : Nat} {l : List UInt8} (h : SlOf encB 1 w q k l) (hb : w.heap[g]? = some (.cells #[.int .i64 a, .bool b, .int .i64 c, .int .i64 d, .map e] 46 (0, 0))) (hg : w.grownBy w' (some g)) : SlOf encB 1 w' q k l := by
  refine ⟨h.1, h.2.1, h.2.2.1, fun h0 => ?_⟩
  obtain ⟨bb, off, hq, hlt, hA⟩ := h.2.2.2 h0
  have hne : bb ≠ g := fun e9 => by
    subst e9
    obtain ⟨x, hx, _⟩ := get_at h0
    have h1 := hA _ _ (flat_at (enc := encB) (k := 1) hx 0 (by omega))
    unfold World.cell? at h1
    rw [hb] at h1
    have h2 : (#[.int .i64 a, .bool b, .int .i64 c, .int .i64 d, .map e] : Array Value)[off]? = some (.int .u8 (x.toNat : Int)) := h1
    rcases off with _ | _ | _ | _ | _ | off
    · simp at h2
    · simp at h2
    · simp at h2
    · simp at h2
    · simp at h2
    · simp at h2
  have he := hg.block bb hlt (by intro e9; injection e9 with e9; exact hne e9)
  exact ⟨bb, off, hq, Nat.lt_of_lt_of_le hlt hg.size, fun j u hj => (World.cell?_of_block (w := w) (a := ⟨bb, off + j, none⟩) he).trans (hA j u hj)⟩
set_option maxHeartbeats 1000000 in
set_option maxRecDepth 100000 in
theorem append_yes {B : Nat → Prop} {w : World} {g : Nat} {s : Dk} (hd : DkAt B w g s) (hB : Sub B w) {nm : ByteArray} (ho : s.off = false) (hk : nameOk nm = true) (h1 : s.named ≠ 1) (ha : s.acts ≤ 4611686018427387904) (hn : s.n < maxLen) (p : Option Addr) (k : Nat) (data : List UInt8) (hdt : SlOf encB 1 w p k data) (hl0 : ∀ fl, s.get nm = some fl → fl.bytes.length + data.length ≤ 140737488355328) (hl : data.length ≤ 140737488355328) :
    Calls Try.prog 7 #[.pointer (some ⟨g, 0, none⟩), .string nm, .slice p data.length k] w fun e w' => e = .returned (.int .i64 0) ∧ DkAt B w' g (growS { s with named := s.named - 1, acts := s.acts + 1 } nm data) ∧ Kpt B w w' := by
  obtain ⟨m, h, q, c, hi⟩ := hd
  have hs := name_size hk
  have hb : Below w.heap.size w (w.alloc (.cells #[.string nm] 9)) := (Below.refl _ _).alloc (Nat.le_refl _) _
  have hi2 := hi.below hb
  have hck := check_any ⟨m, h, q, c, hi2⟩ (some ⟨w.heap.size, 0, none⟩) 1 [nm] (slA w [nm] (by simp)) (by simp)
  rw [ck_one, ho, hk] at hck
  simp only [List.length_cons, List.length_nil, Nat.zero_add, Bool.false_eq_true, if_false, if_true] at hck
  have hsp := spend_yes hi2 h1 ha
  have hsl := fun (w' : World) (hg : (w.alloc (.cells #[.string nm] 9)).grownBy w' (some g)) => sl_box (hdt.below hb) hi2.box hg
  have hgr := fun (W : World) (hW : DkAt B W g { s with named := s.named - 1, acts := s.acts + 1 }) (hBW : Sub B W) (hdt : SlOf encB 1 W p k data) => grow_any hW hBW hs hn p k data hdt hl0 hl
  have HSL := hide hsl
  have HBG := hide hi.bg
  have HBB := hide (Kpt.of (B := B) hb)
  clear hi hi2 hb hdt hl0 hsl
  go_enter Try.func7, Try.ntmps7
  go_wp2_with (first
    | (go_at_call 27; refine hck.mono ?_; rintro e w1 ⟨rfl, hw1⟩; obtain rfl := hw1.symm)
    | (go_at_call 28; refine hsp.mono ?_; rintro e w2 ⟨rfl, d2, g2⟩; have D2 := hide d2; have S2 := hide (unhide HSL w2 g2); have B2 := hide ((unhide HBB).trans (grown_le g2 (unhide HBG) (Sub.trans hB (unhide HBB).size))); clear d2 g2)
    | (go_at_call 30; refine (hgr w2 ⟨_, _, _, _, unhide D2⟩ (Sub.trans hB (unhide B2).size) (unhide S2)).mono ?_; rintro e w3 ⟨⟨v, rfl⟩, d3, b3⟩; have D3 := hide d3; have B3 := hide ((unhide B2).trans b3); clear d3 b3))
  go_ret
  exact ⟨rfl, unhide D3, unhide B3⟩
theorem min_nat (a : Int) (n : Nat) : min (max a 0) (n : Int) = ((min (max a 0).toNat n : Nat) : Int) := by omega
set_option maxHeartbeats 1000000 in
set_option maxRecDepth 100000 in
theorem append_down {B : Nat → Prop} {w : World} {g : Nat} {s : Dk} (hd : DkAt B w g s) (hB : Sub B w) {nm : ByteArray} (ho : s.off = false) (hk : nameOk nm = true) (h1 : s.named = 1) (hn : s.n < maxLen) (p : Option Addr) (k : Nat) (data : List UInt8) (hdt : SlOf encB 1 w p k data) (hl0 : ∀ fl, s.get nm = some fl → fl.bytes.length + data.length ≤ 140737488355328) (hl : data.length ≤ 140737488355328) :
    Calls Try.prog 7 #[.pointer (some ⟨g, 0, none⟩), .string nm, .slice p data.length k] w fun e w' => e = .returned (.int .i64 40) ∧ DkAt B w' g (growS { s with off := true } nm (data.take (max s.part 0).toNat)) ∧ Kpt B w w' := by
  obtain ⟨m, h, q, c, hi⟩ := hd
  have hs := name_size hk
  have hb : Below w.heap.size w (w.alloc (.cells #[.string nm] 9)) := (Below.refl _ _).alloc (Nat.le_refl _) _
  have hi2 := hi.below hb
  have hck := check_any ⟨m, h, q, c, hi2⟩ (some ⟨w.heap.size, 0, none⟩) 1 [nm] (slA w [nm] (by simp)) (by simp)
  rw [ck_one, ho, hk] at hck
  simp only [List.length_cons, List.length_nil, Nat.zero_add, Bool.false_eq_true, if_false, if_true] at hck
  have hsp := spend_no hi2 h1
  have hsl := fun (w' : World) (hg : (w.alloc (.cells #[.string nm] 9)).grownBy w' (some g)) => sl_box (hdt.below hb) hi2.box hg
  obtain ⟨T, hT⟩ : ∃ T, (data.take (max s.part 0).toNat).length = T := ⟨_, rfl⟩
  have hT2 : min (max s.part 0) (data.length : Int) = (T : Int) := by rw [min_nat, ← hT, List.length_take]
  have hdn := fun (W : World) (hW : DkAt B W g { s with off := true }) => done_any hW data.length
  simp only [hT2] at hdn
  have hgr := fun (W : World) (hW : DkAt B W g { s with off := true }) (hBW : Sub B W) (hdt : SlOf encB 1 W p k data) => grow_any hW hBW hs hn p k (data.take (max s.part 0).toNat) (sl_take hdt _) (fun fl hf => by have := hl0 fl hf; rw [List.length_take]; omega) (by rw [List.length_take]; omega)
  simp only [hT] at hgr
  have hTk : (T : Int) ≤ (k : Int) := by have := hdt.2.1; rw [List.length_take] at hT; omega
  have hTk2 : T ≤ k := by omega
  have hT0 : (0 : Int) ≤ (T : Int) := by omega
  have HSL := hide hsl
  have HBG := hide hi.bg
  have HBB := hide (Kpt.of (B := B) hb)
  clear hi hi2 hb hdt hl0 hsl hT hT2
  go_enter Try.func7, Try.ntmps7
  go_wp2_with (first
    | (go_at_call 27; refine hck.mono ?_; rintro e w1 ⟨rfl, hw1⟩; obtain rfl := hw1.symm)
    | (go_at_call 28; refine hsp.mono ?_; rintro e w2 ⟨rfl, d2, g2⟩; have D2 := hide d2; have S2 := hide (unhide HSL w2 g2); have B2 := hide ((unhide HBB).trans (grown_le g2 (unhide HBG) (Sub.trans hB (unhide HBB).size))); clear d2 g2)
    | (go_at_call 29; refine (hdn w2 ⟨_, _, _, _, unhide D2⟩).mono ?_; rintro e w4 ⟨rfl, hw4⟩; obtain rfl := hw4.symm)
    | (go_at_call 30; refine (hgr w2 ⟨_, _, _, _, unhide D2⟩ (Sub.trans hB (unhide B2).size) (unhide S2)).mono ?_; rintro e w3 ⟨⟨v, rfl⟩, d3, b3⟩; have D3 := hide d3; have B3 := hide ((unhide B2).trans b3); clear d3 b3))
  go_ret
  exact ⟨rfl, unhide D3, unhide B3⟩
theorem loose_yes {B : Nat → Prop} {w : World} {g : Nat} {s : Dk} (hd : DkAt B w g s) {nm : ByteArray} {fl : Fl} (ho : s.off = false) (hk : nameOk nm = true) (hf : s.get nm = some fl) (hl : fl.bytes.length ≤ 140737488355328) :
    Calls Try.prog 9 #[.pointer (some ⟨g, 0, none⟩), .string nm] w fun e w' => e = .returned (.int .i64 ((fl.bytes.length - fl.lasts : Nat) : Int)) ∧ Below w.heap.size w w' := by
  obtain ⟨m, h, q, c, hi⟩ := hd
  have hfi := find_yes hi ho hk hf
  have hfl := hi.file nm fl hf
  have hlo := fun (W : World) (hW : FlAt B W (h nm) (q nm) (c nm) fl) => floose_b hW hl
  have HF := hide hfl
  clear hi hfl
  go_enter Try.func9, Try.ntmps9
  go_wp2_with (first
    | (go_at_call 31; refine hfi.mono ?_; rintro e w1 ⟨rfl, b1⟩; have F1 := hide ((unhide HF).below b1); have B1 := hide b1; clear b1)
    | (go_at_call 32; refine (hlo w1 (unhide F1)).mono ?_; rintro e w2 ⟨rfl, b2⟩; have B2 := hide (below_sub (unhide B1) b2); clear b2))
  go_ret
  exact ⟨rfl, unhide B2⟩
theorem loose_no {B : Nat → Prop} {w : World} {g : Nat} {s : Dk} (hd : DkAt B w g s) {nm : ByteArray} (he : errE s nm ≠ 0) :
    Calls Try.prog 9 #[.pointer (some ⟨g, 0, none⟩), .string nm] w fun e w' => e = .returned (.int .i64 0) ∧ Below w.heap.size w w' := by
  obtain ⟨m, h, q, c, hi⟩ := hd
  have hfi := find_no hi he
  generalize errE s nm = E at he hfi
  have hE : (E == 0) = false := by simp [he]
  clear hi he
  go_enter Try.func9, Try.ntmps9
  go_wp2_with (go_at_call 31; refine hfi.mono ?_; rintro e w1 ⟨rfl, b1⟩; have B1 := hide b1; clear b1)
  go_ret
  exact ⟨rfl, unhide B1⟩
theorem sync_no {B : Nat → Prop} {w : World} {g : Nat} {s : Dk} (hd : DkAt B w g s) {nm : ByteArray} (he : errE s nm ≠ 0) :
    Calls Try.prog 8 #[.pointer (some ⟨g, 0, none⟩), .string nm] w fun e w' => e = .returned (.int .i64 (errE s nm)) ∧ Below w.heap.size w w' := by
  obtain ⟨m, h, q, c, hi⟩ := hd
  have hfi := find_no hi he
  generalize errE s nm = E at he hfi ⊢
  have hE : (E == 0) = false := by simp [he]
  clear hi he
  go_enter Try.func8, Try.ntmps8
  go_wp2_with (go_at_call 31; refine hfi.mono ?_; rintro e w1 ⟨rfl, b1⟩; have B1 := hide b1; clear b1)
  go_ret
  exact ⟨rfl, unhide B1⟩
def lastF (fl : Fl) : Fl := ⟨fl.bytes, fl.bytes.length⟩
set_option maxHeartbeats 1000000 in
set_option maxRecDepth 100000 in
theorem sync_yes {B : Nat → Prop} {w : World} {g : Nat} {s : Dk} (hd : DkAt B w g s) (hB : Sub B w) {nm : ByteArray} {fl : Fl} (ho : s.off = false) (hk : nameOk nm = true) (hf : s.get nm = some fl) (h1 : s.named ≠ 1) (ha : s.acts ≤ 4611686018427387904) :
    Calls Try.prog 8 #[.pointer (some ⟨g, 0, none⟩), .string nm] w fun e w' => e = .returned (.int .i64 0) ∧ DkAt B w' g { s with get := upd s.get nm (some (lastF fl)), named := s.named - 1, acts := s.acts + 1 } ∧ Kpt B w w' := by
  obtain ⟨m, h, q, c, hi⟩ := hd
  have hfi := find_yes hi ho hk hf
  have hsp := fun (W : World) (hW : DkIn B W g s m h q c) => spend_yes hW h1 ha
  have hend : ∀ W : World, DkIn B W g { s with named := s.named - 1, acts := s.acts + 1 } m h q c → Sub B W → (W.cell? ⟨h nm, 0, none⟩ = some (.slice (q nm) fl.bytes.length (c nm)) ∧ W.cell? ⟨h nm, 1, none⟩ = some (.int .i64 (fl.lasts : Int)) ∧ W.frozen? ⟨h nm, 1, none⟩ = false) ∧ DkAt B (W.setCell ⟨h nm, 1, none⟩ (.int .i64 (fl.bytes.length : Int))) g { s with get := upd s.get nm (some (lastF fl)), named := s.named - 1, acts := s.acts + 1 } ∧ Kpt B W (W.setCell ⟨h nm, 1, none⟩ (.int .i64 (fl.bytes.length : Int))) := fun W hW hBW => by
    have f0 := hW.file nm fl hf
    obtain ⟨⟨c0, c1⟩, z0, z1⟩ := cells2 f0.2.1
    have hg := grown_set W (h nm) 1 (.int .i64 (fl.bytes.length : Int))
    have hb := heap_setCell_same W (h nm) 1 _ 67 (.int .i64 (fl.bytes.length : Int)) f0.2.1
    refine ⟨⟨c0, c1, z1⟩, ⟨m, h, _, _, hW.refile (fl' := lastF fl) hf (q' := q nm) (c' := c nm) ?_ ⟨f0.1, hb, own_other f0.2.2.1 hg ?_, Nat.le_refl _⟩ (fun p' hp' => Or.inl ⟨p', hp', rfl⟩)⟩, grown_le hg f0.1.1 hBW⟩
    · intro i hi1 hi2 _
      exact hg.block i hi1 (by intro e; injection e with e; exact hi2 e)
    · intro p hp e
      obtain ⟨cur, hc⟩ := own_cells f0.2.2.1 hp
      rw [e, f0.2.1] at hc
      injection hc with hc; injection hc with _ hc; cases hc
  have HI := hide hi
  have HE := hide hend
  clear hi hend
  go_enter Try.func8, Try.ntmps8
  go_wp2_with (first
    | (go_at_call 31; refine hfi.mono ?_; rintro e w1 ⟨rfl, b1⟩; have D1 := hide ((unhide HI).below b1); have B1 := hide (Kpt.of (B := B) b1); clear b1)
    | (go_at_call 28; refine (hsp w1 (unhide D1)).mono ?_; rintro e w2 ⟨rfl, d2, g2⟩; have b2 := (unhide B1).trans (grown_le g2 (unhide HI).bg (Sub.trans hB (unhide B1).size)); obtain ⟨⟨x0, x1, x2⟩, e2, e3⟩ := unhide HE w2 d2 (Sub.trans hB b2.size); have E2 := hide e2; have E3 := hide (b2.trans e3); clear d2 g2 b2 e2 e3))
  go_ret
  exact ⟨rfl, unhide E2, unhide E3⟩
end Go.Proofs.Ytonhagoeajhacaa

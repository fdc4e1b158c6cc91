/- The disk's calls that are refused, and those at which the power goes; Remove. -/
import Derived.Test.YtonhagoeajhacaaRen
namespace Go.Proofs.Ytonhagoeajhacaa
open Go.RowKit Go.Sort Go.Shelf

theorem append_no {B : Nat → Prop} {w : World} {g : Nat} {s : Dk} (hd : DkAt B w g s) {nm : ByteArray} (he : ckE s.off [nm] ≠ 0) (p : Option Addr) (k n : Nat) :
    Calls Try.prog 7 #[.pointer (some ⟨g, 0, none⟩), .string nm, .slice p n k] w fun e w' => e = .returned (.int .i64 (ckE s.off [nm])) ∧ Below w.heap.size w w' := by
  have hb : Below w.heap.size w (w.alloc (.cells #[.string nm] 9)) := (Below.refl _ _).alloc (Nat.le_refl _) _
  have hck : Calls Try.prog 27 #[.pointer (some ⟨g, 0, none⟩), .slice (some ⟨w.heap.size, 0, none⟩) 1 1] (w.alloc (.cells #[.string nm] 9)) _ := check_any (hd.below hb) (some ⟨w.heap.size, 0, none⟩) 1 [nm] (slA w [nm] (by simp)) (by simp)
  generalize ckE s.off [nm] = E at he hck ⊢
  have hE : (E == 0) = false := by simp [he]
  have HB := hide hb
  clear hd hb he
  go_enter Try.func7, Try.ntmps7
  go_wp2_with (go_at_call 27; refine hck.mono ?_; rintro e w1 ⟨rfl, hw1⟩; obtain rfl := hw1.symm)
  go_ret
  exact ⟨rfl, unhide HB⟩
theorem sync_down {B : Nat → Prop} {w : World} {g : Nat} {s : Dk} (hd : DkAt B w g s) (hB : Sub B w) {nm : ByteArray} {fl : Fl} (ho : s.off = false) (hk : nameOk nm = true) (hf : s.get nm = some fl) (h1 : s.named = 1) :
    Calls Try.prog 8 #[.pointer (some ⟨g, 0, none⟩), .string nm] w fun e w' => e = .returned (.int .i64 40) ∧ DkAt B w' g { s with off := true } ∧ Kpt B w w' := by
  obtain ⟨m, h, q, c, hi⟩ := hd
  have hfi := find_yes hi ho hk hf
  have hsp := fun (W : World) (hW : DkIn B W g s m h q c) => spend_no hW h1
  have HI := hide hi
  clear hi
  go_enter Try.func8, Try.ntmps8
  go_wp2_with (first
    | (go_at_call 31; refine hfi.mono ?_; rintro e w1 ⟨rfl, b1⟩; have D1 := hide ((unhide HI).below b1); have B1 := hide (Kpt.of (B := B) b1); clear b1)
    | (go_at_call 28; refine (hsp w1 (unhide D1)).mono ?_; rintro e w2 ⟨rfl, d2, g2⟩; have D2 := hide d2; have B2 := hide ((unhide B1).trans (grown_le g2 (unhide HI).bg (Sub.trans hB (unhide B1).size))); clear d2 g2))
  go_ret
  exact ⟨rfl, ⟨_, _, _, _, unhide D2⟩, unhide B2⟩
theorem remove_down {B : Nat → Prop} {w : World} {g : Nat} {s : Dk} (hd : DkAt B w g s) (hB : Sub B w) {nm : ByteArray} {fl : Fl} (ho : s.off = false) (hk : nameOk nm = true) (hf : s.get nm = some fl) (h1 : s.named = 1) :
    Calls Try.prog 17 #[.pointer (some ⟨g, 0, none⟩), .string nm] w fun e w' => e = .returned (.int .i64 40) ∧ DkAt B w' g { s with off := true } ∧ Kpt B w w' := by
  obtain ⟨m, h, q, c, hi⟩ := hd
  have hfi := find_yes hi ho hk hf
  have hsp := fun (W : World) (hW : DkIn B W g s m h q c) => spend_no hW h1
  have HI := hide hi
  clear hi
  go_enter Try.func17, Try.ntmps17
  go_wp2_with (first
    | (go_at_call 31; refine hfi.mono ?_; rintro e w1 ⟨rfl, b1⟩; have D1 := hide ((unhide HI).below b1); have B1 := hide (Kpt.of (B := B) b1); clear b1)
    | (go_at_call 28; refine (hsp w1 (unhide D1)).mono ?_; rintro e w2 ⟨rfl, d2, g2⟩; have D2 := hide d2; have B2 := hide ((unhide B1).trans (grown_le g2 (unhide HI).bg (Sub.trans hB (unhide B1).size))); clear d2 g2))
  go_ret
  exact ⟨rfl, ⟨_, _, _, _, unhide D2⟩, unhide B2⟩
set_option maxHeartbeats 1000000 in
theorem remove_yes {B : Nat → Prop} {w : World} {g : Nat} {s : Dk} (hd : DkAt B w g s) (hB : Sub B w) {nm : ByteArray} {fl : Fl} (ho : s.off = false) (hk : nameOk nm = true) (hf : s.get nm = some fl) (h1 : s.named ≠ 1) (ha : s.acts ≤ 4611686018427387904) :
    Calls Try.prog 17 #[.pointer (some ⟨g, 0, none⟩), .string nm] w fun e w' => e = .returned (.int .i64 0) ∧ DkAt B w' g { s with get := upd s.get nm none, named := s.named - 1, acts := s.acts + 1 } ∧ Kpt B w w' := by
  obtain ⟨m, h, q, c, hi⟩ := hd
  have hs1 := name_size hk
  have hfi := find_yes hi ho hk hf
  have hsp := fun (W : World) (hW : DkIn B W g s m h q c) => spend_yes hW h1 ha
  have HI := hide hi
  clear hi ho
  go_enter Try.func17, Try.ntmps17
  go_wp2_with (first
    | (go_at_call 31; refine hfi.mono ?_; rintro e w1 ⟨rfl, b1⟩; have D1 := hide ((unhide HI).below b1); have B1 := hide (Kpt.of (B := B) b1); clear b1)
    | (go_at_call 28; refine (hsp w1 (unhide D1)).mono ?_; rintro e w2 ⟨rfl, d2, g2⟩; obtain ⟨⟨x0, x1, x2, x3, x4⟩, _⟩ := cells5 d2.box; have B2 := hide ((unhide B1).trans (grown_le g2 (unhide HI).bg (Sub.trans hB (unhide B1).size))); have D2 := hide d2; clear d2 g2)
    | (at_delete; refine wpList_delF rfl _ _ rfl m s.n (fun k => (s.get k).map fun _ => h k) nm rfl rfl (unhide D2).map (by unfold maxLen; omega) ?_; intro w3 f3 g3; have D3 := hide ((unhide D2).del g3 f3); have B3 := hide ((unhide B2).trans (grown_le g3 (unhide D2).bm (Sub.trans hB (unhide B2).size))); clear f3 g3))
  go_ret
  exact ⟨rfl, ⟨_, _, _, _, unhide D3⟩, unhide B3⟩
theorem rename_no1 {B : Nat → Prop} {w : World} {g : Nat} {s : Dk} (hd : DkAt B w g s) {nm to : ByteArray} (he : ckE s.off [nm, to] ≠ 0) :
    Calls Try.prog 16 #[.pointer (some ⟨g, 0, none⟩), .string nm, .string to] w fun e w' => e = .returned (.int .i64 (ckE s.off [nm, to])) ∧ Below w.heap.size w w' := by
  have hb : Below w.heap.size w (w.alloc (.cells #[.string nm, .string to] 9)) := (Below.refl _ _).alloc (Nat.le_refl _) _
  have hck : Calls Try.prog 27 #[.pointer (some ⟨g, 0, none⟩), .slice (some ⟨w.heap.size, 0, none⟩) 2 2] (w.alloc (.cells #[.string nm, .string to] 9)) _ := check_any (hd.below hb) (some ⟨w.heap.size, 0, none⟩) 2 [nm, to] (slA w [nm, to] (by simp)) (by simp)
  generalize ckE s.off [nm, to] = E at he hck ⊢
  have hE : (E == 0) = false := by simp [he]
  have HB := hide hb
  clear hd hb he
  go_enter Try.func16, Try.ntmps16
  go_wp2_with (go_at_call 27; refine hck.mono ?_; rintro e w1 ⟨rfl, hw1⟩; obtain rfl := hw1.symm)
  go_ret
  exact ⟨rfl, unhide HB⟩
theorem rename_no2 {B : Nat → Prop} {w : World} {g : Nat} {s : Dk} (hd : DkAt B w g s) {nm to : ByteArray} (ho : s.off = false) (hk : nameOk nm = true) (hk2 : nameOk to = true) (hf : s.get nm = none) :
    Calls Try.prog 16 #[.pointer (some ⟨g, 0, none⟩), .string nm, .string to] w fun e w' => e = .returned (.int .i64 41) ∧ Below w.heap.size w w' := by
  obtain ⟨m, h, q, c, hi⟩ := hd
  have hb : Below w.heap.size w (w.alloc (.cells #[.string nm, .string to] 9)) := (Below.refl _ _).alloc (Nat.le_refl _) _
  have hi2 := hi.below hb
  have hck := check_any ⟨m, h, q, c, hi2⟩ (some ⟨w.heap.size, 0, none⟩) 2 [nm, to] (slA w [nm, to] (by simp)) (by simp)
  rw [ck_two, ho, hk, hk2] at hck
  simp only [List.length_cons, List.length_nil, Nat.zero_add, Nat.reduceAdd, Bool.false_eq_true, if_false, if_true, Bool.and_self] at hck
  have he : errE s nm = 41 := by unfold errE; rw [ho, hk, hf]; rfl
  have hfi := find_no hi2 (nm := nm) (by rw [he]; decide)
  rw [he] at hfi
  have HB := hide hb
  clear hi hi2 hb he
  go_enter Try.func16, Try.ntmps16
  go_wp2_with (first
    | (go_at_call 27; refine hck.mono ?_; rintro e w1 ⟨rfl, hw1⟩; obtain rfl := hw1.symm)
    | (go_at_call 31; refine hfi.mono ?_; rintro e w2 ⟨rfl, b2⟩; have B2 := hide (below_sub (unhide HB) b2); clear b2))
  go_ret
  exact ⟨rfl, unhide B2⟩
theorem rename_down {B : Nat → Prop} {w : World} {g : Nat} {s : Dk} (hd : DkAt B w g s) (hB : Sub B w) {nm to : ByteArray} {fl : Fl} (ho : s.off = false) (hk : nameOk nm = true) (hk2 : nameOk to = true) (hf : s.get nm = some fl) (h1 : s.named = 1) :
    Calls Try.prog 16 #[.pointer (some ⟨g, 0, none⟩), .string nm, .string to] w fun e w' => e = .returned (.int .i64 40) ∧ DkAt B w' g { s with off := true } ∧ Kpt B w w' := by
  obtain ⟨m, h, q, c, hi⟩ := hd
  have hb : Below w.heap.size w (w.alloc (.cells #[.string nm, .string to] 9)) := (Below.refl _ _).alloc (Nat.le_refl _) _
  have hi2 := hi.below hb
  have hck := check_any ⟨m, h, q, c, hi2⟩ (some ⟨w.heap.size, 0, none⟩) 2 [nm, to] (slA w [nm, to] (by simp)) (by simp)
  rw [ck_two, ho, hk, hk2] at hck
  simp only [List.length_cons, List.length_nil, Nat.zero_add, Nat.reduceAdd, Bool.false_eq_true, if_false, if_true, Bool.and_self] at hck
  have hfi := find_yes hi2 ho hk hf
  have hsp := fun (W : World) (hW : DkIn B W g s m h q c) => spend_no hW h1
  have HI2 := hide hi2
  have HBB := hide (Kpt.of (B := B) hb)
  clear hi hi2 hb
  go_enter Try.func16, Try.ntmps16
  go_wp2_with (first
    | (go_at_call 27; refine hck.mono ?_; rintro e w1 ⟨rfl, hw1⟩; obtain rfl := hw1.symm)
    | (go_at_call 31; refine hfi.mono ?_; rintro e w2 ⟨rfl, b2⟩; have D2 := hide ((unhide HI2).below b2); have B2 := hide ((unhide HBB).trans (Kpt.of (B := B) b2)); clear b2)
    | (go_at_call 28; refine (hsp w2 (unhide D2)).mono ?_; rintro e w3 ⟨rfl, d3, g3⟩; have B3 := hide ((unhide B2).trans (grown_le g3 d3.bg (Sub.trans hB (unhide B2).size))); have D3 := hide d3; clear d3 g3))
  go_ret
  exact ⟨rfl, ⟨_, _, _, _, unhide D3⟩, unhide B3⟩
end Go.Proofs.Ytonhagoeajhacaa

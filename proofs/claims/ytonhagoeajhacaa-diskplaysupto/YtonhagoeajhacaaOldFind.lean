/- The disk's check and find; a file's bytes copied; Read, Loose. -/
import Derived.Test.YtonhagoeajhacaaOldPow
import Derived.Lib.SliceRun
namespace Go.Proofs.Ytonhagoeajhacaa.Old
open Go.RowKit Go.Sort

def ckE (off : Bool) (l : List ByteArray) : Int := if off then 40 else if l.all nameOk then 0 else 1
set_option maxHeartbeats 1000000 in
theorem check_any {B : Nat} {w : World} {g : Nat} {s : Dk} (hd : DkAt B w g s) (p : Option Addr) (k : Nat) (l : List ByteArray) (hl : SlOf encS 1 w p k l) (hn : l.length ≤ 100) :
    Calls Try.prog 27 #[.pointer (some ⟨g, 0, none⟩), .slice p l.length k] w fun e w' => e = .returned (.int .i64 (ckE s.off l)) ∧ w' = w := by
  obtain ⟨m, h, q, c, hi⟩ := hd
  obtain ⟨⟨c0, c1, c2, c3, c4⟩, _⟩ := cells5 hi.box
  clear hi
  obtain ⟨R, hR⟩ : ∃ R, ckE s.off l = R := ⟨_, rfl⟩
  rw [hR]
  unfold ckE at hR
  have HR := hide hR
  clear hR
  cases ho : s.off with
  | true =>
    rw [ho] at c1 HR
    clear hl
    go_enter Try.func27, Try.ntmps27
    go_wp2
    go_ret
    exact ⟨ret_int (by rw [← unhide HR]; rfl), rfl⟩
  | false =>
    rw [ho] at c1 HR
    go_enter Try.func27, Try.ntmps27
    go_wp2
    go_loopw [14] (fun i wr => ∃ k : Nat, k ≤ l.length ∧ i = .int .i64 (k : Int) ∧ Hid (∀ x ∈ l.take k, nameOk x = true) ∧ wr = w) (fun i _ => l.length - (intOf i).toNat)
    case atStart => exact ⟨0, Nat.zero_le _, rfl, hide (by simp), rfl⟩
    case round =>
      obtain ⟨j, hj, rfl, HA, hw⟩ := hrel
      obtain rfl := hw.symm
      by_cases hlt : j < l.length
      · obtain ⟨x, hx, _⟩ := get_at hlt
        obtain ⟨b, off, hq, hb, cx⟩ := strAt hl hx
        subst hq
        have ki0 : (0 : Int) ≤ (j : Int) := by omega
        have ki1 : (j : Int) < (l.length : Int) := by omega
        have hnm := name_any x w
        have HT := hide (take_snoc_of hx)
        have HX := hide (List.mem_of_getElem? hx)
        cases hok : nameOk x with
        | true =>
          rw [hok] at hnm
          have HO := hide hok
          clear hl hx hok
          go_wp2_with (go_at_call 50; refine hnm.mono ?_; rintro e w1 ⟨rfl, hw1⟩; obtain rfl := hw1.symm)
          go_roundw
          case rel => exact ⟨j + 1, by omega, by go_num, hide (by rw [unhide HT]; intro y hy; rcases List.mem_append.1 hy with h | h; exact unhide HA y h; obtain rfl : y = x := (by simpa using h); exact unhide HO), trivial⟩
          case measure => simp [intOf]; omega
        | false =>
          rw [hok] at hnm
          have HO := hide hok
          clear hl hx hok
          go_wp2_with (go_at_call 50; refine hnm.mono ?_; rintro e w1 ⟨rfl, hw1⟩; obtain rfl := hw1.symm)
          go_ret
          refine ⟨ret_int ?_, rfl⟩
          rw [← unhide HR, if_neg (by simp), if_neg]
          intro hall
          have := List.all_eq_true.1 hall x (unhide HX)
          rw [unhide HO] at this
          cases this
      · obtain rfl : j = l.length := by omega
        have ki1 : ¬ (l.length : Int) < (l.length : Int) := by omega
        clear hl
        go_wp2
        go_ret
        refine ⟨ret_int ?_, rfl⟩
        rw [← unhide HR, if_neg (by simp), if_pos]
        have := unhide HA
        rw [List.take_length] at this
        exact List.all_eq_true.2 this
theorem flatS (l : List ByteArray) : (flatK encS 1 l.toArray).toList = l.map Value.string := by
  apply List.ext_getElem?
  intro j
  by_cases hj : j < l.length
  · obtain ⟨x, hx, _⟩ := get_at hj
    have := flat_at (enc := encS) (k := 1) hx 0 (by omega)
    rw [Nat.mul_one, Nat.add_zero] at this
    rw [this, List.getElem?_map, hx]; rfl
  · rw [List.getElem?_eq_none (by simp [flatK]; omega), List.getElem?_eq_none (by simp; omega)]
theorem cellA (w : World) (cs : Array Value) (t : TypeId) (j : Nat) : (w.alloc (.cells cs t)).cell? ⟨w.heap.size, j, none⟩ = cs[j]? := by
  have h := heap_alloc_new w (.cells cs t)
  unfold World.cell?; rw [h]; rfl
/-- Names in a new block. -/
theorem slA (w : World) (l : List ByteArray) (hl : l.length ≤ 100) : SlOf encS 1 (w.alloc (.cells (l.map Value.string).toArray 9)) (some ⟨w.heap.size, 0, none⟩) l.length l := by
  refine ⟨(fun h => by cases h), Nat.le_refl _, by unfold maxLen; omega, fun _ => ⟨w.heap.size, 0, rfl, by simp, fun j u hj => ?_⟩⟩
  rw [Nat.zero_add, cellA]
  rw [flatS] at hj
  simpa using hj
def errE (s : Dk) (nm : ByteArray) : Int := if s.off then 40 else if nameOk nm then (if (s.get nm).isSome then 0 else 41) else 1
theorem name_size {nm : ByteArray} (h : nameOk nm = true) : nm.size ≤ 32 := by
  unfold nameOk at h
  simp only [Bool.and_eq_true, decide_eq_true_eq] at h
  exact h.1.1.2
theorem ck_one (off : Bool) (nm : ByteArray) : ckE off [nm] = if off then 40 else if nameOk nm then 0 else 1 := by
  unfold ckE; simp
theorem find_yes {B : Nat} {w : World} {g m : Nat} {s : Dk} {h : ByteArray → Nat} {q : ByteArray → Option Addr} {c : ByteArray → Nat} (hi : DkIn B w g s m h q c) {nm : ByteArray} {fl : Fl} (ho : s.off = false) (hk : nameOk nm = true) (hf : s.get nm = some fl) :
    Calls Try.prog 31 #[.pointer (some ⟨g, 0, none⟩), .string nm] w fun e w' => e = .returned (.tuple #[.pointer (some ⟨h nm, 0, none⟩), .int .i64 0]) ∧ Below w.heap.size w w' := by
  have hb : Below w.heap.size w (w.alloc (.cells #[.string nm] 9)) := (Below.refl _ _).alloc (Nat.le_refl _) _
  have hi2 := hi.below hb
  have hck := check_any ⟨m, h, q, c, hi2⟩ (some ⟨w.heap.size, 0, none⟩) 1 [nm] (slA w [nm] (by simp)) (by simp)
  rw [ck_one, ho, hk] at hck
  simp only [List.length_cons, List.length_nil, Nat.zero_add, Bool.false_eq_true, if_false, if_true] at hck
  have hlk := hi2.map.look (nm := nm) (by have := name_size hk; unfold maxLen; omega)
  rw [hf] at hlk
  simp only [Option.map_some, ptr] at hlk
  obtain ⟨⟨c0, c1, c2, c3, c4⟩, _⟩ := cells5 hi2.box
  have HB := hide hb
  clear hi hi2 hb
  go_enter Try.func31, Try.ntmps31
  go_wp2_with (go_at_call 27; refine hck.mono ?_; rintro e w1 ⟨rfl, hw1⟩; obtain rfl := hw1.symm)
  refine bodyPost_ret (v := .tuple #[.pointer (some ⟨h nm, 0, none⟩), .int .i64 0]) (by simp [results, Try.f31, go_sem]) rfl ?_
  exact ⟨rfl, unhide HB⟩
theorem find_no {B : Nat} {w : World} {g m : Nat} {s : Dk} {h : ByteArray → Nat} {q : ByteArray → Option Addr} {c : ByteArray → Nat} (hi : DkIn B w g s m h q c) {nm : ByteArray} (he : errE s nm ≠ 0) :
    Calls Try.prog 31 #[.pointer (some ⟨g, 0, none⟩), .string nm] w fun e w' => e = .returned (.tuple #[.pointer none, .int .i64 (errE s nm)]) ∧ Below w.heap.size w w' := by
  have hb : Below w.heap.size w (w.alloc (.cells #[.string nm] 9)) := (Below.refl _ _).alloc (Nat.le_refl _) _
  have hi2 := hi.below hb
  have hck := check_any ⟨m, h, q, c, hi2⟩ (some ⟨w.heap.size, 0, none⟩) 1 [nm] (slA w [nm] (by simp)) (by simp)
  rw [ck_one] at hck
  unfold errE at he ⊢
  have HB := hide hb
  cases ho : s.off with
  | true =>
    rw [ho] at hck
    simp only [List.length_cons, List.length_nil, Nat.zero_add, if_true] at hck ⊢
    clear hi hi2 hb he
    go_enter Try.func31, Try.ntmps31
    go_wp2_with (go_at_call 27; refine hck.mono ?_; rintro e w1 ⟨rfl, hw1⟩; obtain rfl := hw1.symm)
    refine bodyPost_ret (v := .tuple #[.pointer none, .int .i64 40]) (by simp [results, Try.f31, go_sem]) rfl ?_
    exact ⟨rfl, unhide HB⟩
  | false =>
    rw [ho] at hck he
    cases hk : nameOk nm with
    | false =>
      rw [hk] at hck
      simp only [List.length_cons, List.length_nil, Nat.zero_add, Bool.false_eq_true, if_false] at hck ⊢
      clear hi hi2 hb he
      go_enter Try.func31, Try.ntmps31
      go_wp2_with (go_at_call 27; refine hck.mono ?_; rintro e w1 ⟨rfl, hw1⟩; obtain rfl := hw1.symm)
      refine bodyPost_ret (v := .tuple #[.pointer none, .int .i64 1]) (by simp [results, Try.f31, go_sem]) rfl ?_
      exact ⟨rfl, unhide HB⟩
    | true =>
      rw [hk] at hck he
      cases hf : s.get nm with
      | some fl => rw [hf] at he; simp at he
      | none =>
        have hlk := hi2.map.look (nm := nm) (by have := name_size hk; unfold maxLen; omega)
        rw [hf] at hlk
        simp only [Option.map_none, ptr] at hlk
        obtain ⟨⟨c0, c1, c2, c3, c4⟩, _⟩ := cells5 hi2.box
        simp only [List.length_cons, List.length_nil, Nat.zero_add, Bool.false_eq_true, if_false, if_true, Option.isSome_none] at hck ⊢
        clear hi hi2 hb he
        go_enter Try.func31, Try.ntmps31
        go_wp2_with (go_at_call 27; refine hck.mono ?_; rintro e w1 ⟨rfl, hw1⟩; obtain rfl := hw1.symm)
        refine bodyPost_ret (v := .tuple #[.pointer none, .int .i64 41]) (by simp [results, Try.f31, go_sem]) rfl ?_
        exact ⟨rfl, unhide HB⟩
set_option maxRecDepth 100000 in
set_option maxHeartbeats 1000000 in
theorem cloneB (q : Option Addr) (c : Nat) (l : List UInt8) (w : World) (h : SlOf encB 1 w q c l) (hl : l.length ≤ 140737488355328) :
    Calls Try.prog 35 #[.slice q l.length c] w fun e w' => (∃ q' c', e = .returned (.slice q' l.length c') ∧ OwnK encB 5 1 w.heap.size w' q' c' l) ∧ Below w.heap.size w w' := by
  cases q with
  | none =>
    obtain ⟨h0, rfl⟩ := h.1 rfl
    obtain rfl : l = [] := List.length_eq_zero_iff.1 h0
    have heq := fun (w : World) => Lib.run_eql_slice_nil (P := Try.prog) w 30 5 none 0 0 0 0 Try.underlying30
    clear h h0
    go_enter Try.func35, Try.ntmps35
    go_wp2
    go_ret
    exact ⟨⟨none, 0, rfl, OwnK.nil _ _⟩, Below.refl _ _⟩
  | some a =>
    have HS := hide h
    have heq := fun (w : World) => Lib.run_eql_slice_nil (P := Try.prog) w 30 5 (some a) l.length c 0 0 Try.underlying30
    clear h
    go_enter Try.func35, Try.ntmps35
    go_wp2_with (at_builtin; refine wpList_app rowB rfl _ _ rfl w.heap.size (some ⟨w.heap.size, 0, none⟩) 0 [] (some a) c l 0 l.length l.length rfl rfl (by omega) rfl rfl (OwnK.made _ _ (Nat.le_refl _)) ((unhide HS).below ((Below.refl _ _).alloc (Nat.le_refl _) _)).src (by unfold maxLen; omega) (by omega) (by simp) ?_; intro q2 c2 w2 hown2 hb2 _ hg2)
    go_ret
    exact ⟨⟨q2, c2, rfl, by simpa using hown2⟩, ((Below.refl _ _).alloc (Nat.le_refl _) _).trans hb2⟩
theorem read_yes {B : Nat} {w : World} {g : Nat} {s : Dk} (hd : DkAt B w g s) {nm : ByteArray} {fl : Fl} (ho : s.off = false) (hk : nameOk nm = true) (hf : s.get nm = some fl) (hl : fl.bytes.length ≤ 140737488355328) :
    Calls Try.prog 13 #[.pointer (some ⟨g, 0, none⟩), .string nm] w fun e w' => (∃ q' c', e = .returned (.tuple #[.slice q' fl.bytes.length c', .int .i64 0]) ∧ OwnK encB 5 1 w.heap.size w' q' c' fl.bytes) ∧ Below w.heap.size w w' := by
  obtain ⟨m, h, q, c, hi⟩ := hd
  have hfi := find_yes hi ho hk hf
  have hfl := hi.file nm fl hf
  have hcl := fun (W : World) (hW : SlOf encB 1 W (q nm) (c nm) fl.bytes) => cloneB (q nm) (c nm) fl.bytes W hW hl
  have HF := hide hfl
  clear hi hfl
  go_enter Try.func13, Try.ntmps13
  go_wp2_with (first
    | (go_at_call 31; refine hfi.mono ?_; rintro e w1 ⟨rfl, b1⟩; have f1 := (unhide HF).below b1; obtain ⟨⟨c0, c1⟩, _⟩ := cells2 f1.2.1; have S1 := hide f1.2.2.1.ls; have B1 := hide b1; clear b1 f1)
    | (go_at_call 35; refine (hcl _ (unhide S1)).mono ?_; rintro e w2 ⟨⟨q2, c2, rfl, o2⟩, b2⟩; have O2 := hide (o2.mono (unhide B1).size); have B2 := hide (below_sub (unhide B1) b2); clear o2 b2))
  refine bodyPost_ret (v := .tuple #[.slice q2 fl.bytes.length c2, .int .i64 0]) (by simp [results, Try.f13, go_sem]) rfl ?_
  exact ⟨⟨q2, c2, rfl, unhide O2⟩, unhide B2⟩
theorem read_no {B : Nat} {w : World} {g : Nat} {s : Dk} (hd : DkAt B w g s) {nm : ByteArray} (he : errE s nm ≠ 0) :
    Calls Try.prog 13 #[.pointer (some ⟨g, 0, none⟩), .string nm] w fun e w' => e = .returned (.tuple #[.slice none 0 0, .int .i64 (errE s nm)]) ∧ Below w.heap.size w w' := by
  obtain ⟨m, h, q, c, hi⟩ := hd
  have hfi := find_no hi he
  generalize errE s nm = E at he hfi ⊢
  have hE : (E == 0) = false := by simp [he]
  clear hi he
  go_enter Try.func13, Try.ntmps13
  go_wp2_with (go_at_call 31; refine hfi.mono ?_; rintro e w1 ⟨rfl, b1⟩; have B1 := hide b1; clear b1)
  refine bodyPost_ret (v := .tuple #[.slice none 0 0, .int .i64 E]) (by simp [results, Try.f13, go_sem]) rfl ?_
  exact ⟨rfl, unhide B1⟩
end Go.Proofs.Ytonhagoeajhacaa.Old

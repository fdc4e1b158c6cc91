/- A file: loose, found; the disk's Loose, Sync. -/
import Derived.Test.YtonhagoeajhacaaOldFind
import Derived.Shelf.Abstract
namespace Go.Proofs.Ytonhagoeajhacaa.Old
open Go.RowKit Go.Sort Go.Shelf

set_option maxHeartbeats 1000000 in
theorem floose_any {B : Nat} {w : World} {h : Nat} {q : Option Addr} {c : Nat} {fl : Fl} (hf : FlAt B w h q c fl) (hl : fl.bytes.length ≤ 140737488355328) :
    Calls Try.prog 32 #[.pointer (some ⟨h, 0, none⟩)] w fun e w' => e = .returned (.int .i64 ((fl.bytes.length - fl.lasts : Nat) : Int)) ∧ ∃ d, w' = w.drewN d := by
  obtain ⟨⟨c0, c1⟩, _⟩ := cells2 hf.2.1
  have h4 := hf.2.2.2
  have e1 : (fl.bytes.length : Int) - (fl.lasts : Int) = ((fl.bytes.length - fl.lasts : Nat) : Int) := by omega
  have e2 : IntKind.i64.wrap ((fl.bytes.length : Int) - (fl.lasts : Int)) = ((fl.bytes.length - fl.lasts : Nat) : Int) := by rw [e1]; exact wrap_nat _ (by omega)
  clear hf
  go_enter Try.func32, Try.ntmps32
  go_wp2
  go_quiet (fail)
  go_wp2
  go_ret
  exact ⟨rfl, _, rfl⟩
def modZ (n : Int) (m : Nat) : Nat := (n % (m : Int)).toNat
theorem mod_any (n : Int) (m : Nat) (hm : 0 < m) (hm2 : m ≤ 200000000000000) (w : World) :
    Calls Try.prog 53 #[.int .i64 n, .int .i64 (m : Int)] w fun e w' => e = .returned (.int .i64 ((modZ n m : Nat) : Int)) ∧ w' = w := by
  have m0 : ¬ (m : Int) = 0 := by omega
  have m0' : ((m : Int) == 0) = false := by simp; omega
  have hlo := Int.lt_tmod_of_pos n (show (0 : Int) < (m : Int) by omega)
  have hhi : Int.tmod n (m : Int) < (m : Int) := Int.tmod_lt_of_pos n (by omega)
  have e2 : IntKind.i64.wrap (Int.tmod n (m : Int)) = Int.tmod n (m : Int) := wrap_int _ (by omega) (by omega)
  have e3 : IntKind.i64.wrap (Int.tmod n (m : Int) + (m : Int)) = Int.tmod n (m : Int) + (m : Int) := wrap_int _ (by omega) (by omega)
  have hml : modZ n m < m := by
    unfold modZ
    have := Int.emod_lt_of_pos n (show (0 : Int) < (m : Int) by omega)
    have := Int.emod_nonneg n m0
    omega
  have e4 : IntKind.i64.wrap ((modZ n m : Nat) : Int) = ((modZ n m : Nat) : Int) := wrap_nat _ (by omega)
  have e5 : (n.tmod (m : Int) + (m : Int)) % (m : Int) = ((modZ n m : Nat) : Int) := by
    unfold modZ
    have ha : 0 ≤ n % (m : Int) := Int.emod_nonneg _ m0
    rw [Int.toNat_of_nonneg ha, Int.add_emod_right]
    have h3 := Int.tmod_add_mul_tdiv n (m : Int)
    conv => rhs; rw [← h3]
    rw [Int.add_mul_emod_self_left]
  have hb : 0 ≤ n.tmod (m : Int) + (m : Int) := by omega
  go_enter Try.func53, Try.ntmps53
  go_wp2
  go_ret
  exact ⟨ret_int e5, rfl⟩
theorem floose_b {B : Nat} {w : World} {h : Nat} {q : Option Addr} {c : Nat} {fl : Fl} (hf : FlAt B w h q c fl) (hl : fl.bytes.length ≤ 140737488355328) :
    Calls Try.prog 32 #[.pointer (some ⟨h, 0, none⟩)] w fun e w' => e = .returned (.int .i64 ((fl.bytes.length - fl.lasts : Nat) : Int)) ∧ Below w.heap.size w w' :=
  (floose_any hf hl).mono (by rintro e w' ⟨h1, d, rfl⟩; exact ⟨h1, ⟨rfl, rfl, rfl, Nat.le_refl _, fun _ _ => rfl⟩⟩)
theorem mod_b (n : Int) (m : Nat) (hm : 0 < m) (hm2 : m ≤ 200000000000000) (w : World) :
    Calls Try.prog 53 #[.int .i64 n, .int .i64 (m : Int)] w fun e w' => e = .returned (.int .i64 ((modZ n m : Nat) : Int)) ∧ Below w.heap.size w w' :=
  (mod_any n m hm hm2 w).mono (by rintro e w' ⟨h1, rfl⟩; exact ⟨h1, Below.refl _ _⟩)
def bv (x : UInt8) : Value := .int .u8 (x.toNat : Int)
theorem flatB (l : List UInt8) : (flatK encB 1 l.toArray).toList = l.map bv := by
  apply List.ext_getElem?
  intro j
  by_cases hj : j < l.length
  · obtain ⟨x, hx, _⟩ := get_at hj
    have := flat_at (enc := encB) (k := 1) hx 0 (by omega)
    rw [Nat.mul_one, Nat.add_zero] at this
    rw [this, List.getElem?_map, hx]; rfl
  · rw [List.getElem?_eq_none (by simp [flatK]; omega), List.getElem?_eq_none (by simp; omega)]
theorem sl_take {w : World} {q : Option Addr} {c : Nat} {l : List UInt8} (h : SlOf encB 1 w q c l) (n : Nat) : SlOf encB 1 w q c (l.take n) := by
  refine ⟨fun hq => by have := h.1 hq; exact ⟨by rw [List.length_take]; omega, this.2⟩, by have := h.2.1; rw [List.length_take]; omega, h.2.2.1, fun h0 => ?_⟩
  obtain ⟨b, off, hq, hb, hA⟩ := h.2.2.2 (by simp at h0; omega)
  refine ⟨b, off, hq, hb, fun j u hj => hA j u ?_⟩
  rw [flatB] at hj ⊢
  rw [List.map_take] at hj
  have hlt := (List.getElem?_eq_some_iff.1 hj).1
  rw [List.getElem?_take_of_lt (by simp at hlt; omega)] at hj
  exact hj
/-- What a crash keeps of a file. -/
def keptN (fl : Fl) (ch : Int) : Nat := fl.lasts + modZ ch (fl.bytes.length - fl.lasts + 1)
def foundF (fl : Fl) (ch : Int) : Fl := ⟨fl.bytes.take (keptN fl ch), keptN fl ch⟩
theorem modZ_lt (n : Int) {m : Nat} (hm : 0 < m) : modZ n m < m := by
  unfold modZ
  have := Int.emod_lt_of_pos n (show (0 : Int) < (m : Int) by omega)
  have := Int.emod_nonneg n (show (m : Int) ≠ 0 by omega)
  omega
theorem kept_le {fl : Fl} (h : fl.lasts ≤ fl.bytes.length) (ch : Int) : keptN fl ch ≤ fl.bytes.length := by
  unfold keptN
  have := modZ_lt ch (m := fl.bytes.length - fl.lasts + 1) (by omega)
  omega
set_option maxHeartbeats 1000000 in
set_option maxRecDepth 100000 in
theorem found_any {B : Nat} {w : World} {h : Nat} {q : Option Addr} {c : Nat} {fl : Fl} (hf : FlAt B w h q c fl) (hl : fl.bytes.length ≤ 140737488355328) (ch : Int) :
    Calls Try.prog 34 #[.pointer (some ⟨h, 0, none⟩), .int .i64 ch] w fun e w' => (∃ h' q' c', e = .returned (.pointer (some ⟨h', 0, none⟩)) ∧ FlAt w.heap.size w' h' q' c' (foundF fl ch)) ∧ Below w.heap.size w w' := by
  have mixed : Try.prog.follows .mixedOrders = true := by kernel_rfl
  have e39 : ∀ args w, (callFunc 32 args).run Try.prog w = .ok (.enter 32 args) w := enters_of Try.func32 (by kernel_rfl) rfl
  have e56 : ∀ args w, (callFunc 53 args).run Try.prog w = .ok (.enter 53 args) w := enters_of Try.func53 (by kernel_rfl) rfl
  obtain ⟨⟨c0, c1⟩, _⟩ := cells2 hf.2.1
  have q0 := cell_regrown c0
  have q1 := cell_regrown c1
  have hll := hf.2.2.2
  have hkl := kept_le hll ch
  have hlo := fun (d : Nat) (os : Array Obj) => floose_b (hf.below (below_regrown w d os)) hl
  have hmo := fun (W : World) => mod_b ch (fl.bytes.length - fl.lasts + 1) (by omega) (by omega) W
  have hcap := hf.2.2.1.ls.2.1
  have hcl := fun (W : World) (hW : SlOf encB 1 W q c (fl.bytes.take (keptN fl ch))) => cloneB q c (fl.bytes.take (keptN fl ch)) W hW (by simp; omega)
  have htl : (fl.bytes.take (keptN fl ch)).length = keptN fl ch := by simp; omega
  simp only [htl] at hcl
  have hke : (fl.lasts : Int) + ((modZ ch (fl.bytes.length - fl.lasts + 1) : Nat) : Int) = ((keptN fl ch : Nat) : Int) := by unfold keptN; omega
  have hwk : IntKind.i64.wrap ((keptN fl ch : Nat) : Int) = ((keptN fl ch : Nat) : Int) := wrap_nat _ (by omega)
  obtain ⟨L, hL⟩ : ∃ L, fl.bytes.length - fl.lasts = L := ⟨_, rfl⟩
  rw [hL] at hmo hke
  simp only [hL] at hlo
  obtain ⟨L1, hLL⟩ : ∃ L1, L + 1 = L1 := ⟨_, rfl⟩
  rw [hLL] at hmo hke
  have hL1 : (L : Int) + 1 = (L1 : Int) := by omega
  have hwL : IntKind.i64.wrap (L1 : Int) = (L1 : Int) := wrap_nat _ (by omega)
  have hwL2 : (L1 : Int) ≤ 200000000000000 := by omega
  have hk0 : (0 : Int) ≤ ((keptN fl ch : Nat) : Int) := by omega
  have hkc : ((keptN fl ch : Nat) : Int) ≤ (c : Int) := by omega
  have hkc2 : keptN fl ch ≤ c := by omega
  have HF := hide hf
  have HT := hide htl
  obtain ⟨K, hK⟩ : ∃ K, keptN fl ch = K := ⟨_, rfl⟩
  rw [hK] at hke hwk hk0 hkc hkc2
  simp only [hK] at hcl
  have HK := hide hK
  generalize modZ ch L1 = M at hmo hke
  clear hf hL hLL hll hkl hcap htl hK
  go_enter Try.func34, Try.ntmps34
  go_wp2
  refine wp_region_quiet_below (by assumption) (by kernel_rfl) ?_
  repeat (go_big_quiet_step (first | (go_at_fn 32; refine Calls.regrown_of (hlo _ _)) | (go_at_fn 53; refine Calls.regrown_of (hmo _))))
  refine wpQuiet_nil ?_
  intro _ hw'
  obtain ⟨⟨dq, osq⟩, hw''⟩ := hw'
  subst hw''
  have r0 := q0 dq osq
  have r1 := q1 dq osq
  go_wp2_with (go_at_call 35; refine (hcl _ (sl_take ((unhide HF).below (below_regrown w dq osq)).2.2.1.ls _)).mono ?_; rintro e w2 ⟨⟨q2, c2, rfl, o2⟩, b2⟩; have O2 := hide (o2.mono (below_regrown w dq osq).size); have B2 := hide (below_sub (below_regrown w dq osq) b2); clear o2 b2)
  go_ret
  have b3 := (unhide B2).alloc (unhide B2).size (.cells #[.slice q2 K c2, .int .i64 (K : Int)] 67)
  refine ⟨⟨w2.heap.size, q2, c2, rfl, (unhide B2).size, ?_, ?_, ?_⟩, b3⟩
  · have := heap_alloc_new w2 (.cells #[.slice q2 K c2, .int .i64 (K : Int)] 67)
    have h9 := unhide HT
    rw [unhide HK] at h9
    simp only [foundF, unhide HK, h9]
    exact this
  · simp only [foundF, unhide HK]
    exact (unhide O2).below ((Below.refl _ _).alloc (Nat.le_refl _) _)
  · simp only [foundF, unhide HT]; exact Nat.le_refl _
end Go.Proofs.Ytonhagoeajhacaa.Old

/- Varints, sums behind bytes, heads: what the program answers. -/
import Derived.Test.YtfigjfmldpfjkaaGreatSum
namespace Go.Proofs.YtfigjfmldpfjkaaGreat
open Go.RowKit Go.Sort

theorem OwnK.grow {α : Type} [Inhabited α] {enc : α → List Value} {e : TypeId} {k B : Nat} {w : World} {q : Option Addr} {cap : Nat} {l : List α} (h : OwnK enc e k B w q cap l) (o : Obj) : OwnK enc e k B (w.alloc o) q cap l := h.below ((Below.refl _ _).alloc (Nat.le_refl _) _)
/-- Bytes in a new block. -/
theorem srcA (w : World) (c : Nat) (m : List UInt8) : SrcK encB 1 (w.alloc (.cells (m.map bv).toArray 5)) (some ⟨w.heap.size, 0, none⟩) c m := by
  refine ⟨(fun h => by cases h), fun ad e j u hj => ?_⟩
  cases e
  rw [add_plain, Nat.zero_add, cellA]
  rw [flatB] at hj
  simpa using hj
theorem ownA (w : World) (B : Nat) (m : List UInt8) (hB : B ≤ w.heap.size) (hm : m.length ≤ maxLen) : OwnK encB 5 1 B (w.alloc (.cells (m.map bv).toArray 5)) (some ⟨w.heap.size, 0, none⟩) m.length m := by
  unfold OwnK
  rw [flatB]
  exact ⟨by simp, .inr ⟨w.heap.size, m.length, (m.map bv).toArray, rfl, hB, heap_alloc_new w _, Nat.le_refl _, hm, by simp, by simp [List.take_of_length_le]⟩⟩
set_option maxRecDepth 100000 in
theorem or128 : ∀ a < 256, a ||| 128 = a % 128 + 128 := by decide
theorem low_byte (n : Nat) : IntKind.u8.wrap (n : Int) = ((n % 256 : Nat) : Int) := by rw [IntKind.wrap_u8']; omega
theorem toNat_of (n : Nat) : (UInt8.ofNat n).toNat = n % 256 := by simp [UInt8.toNat_ofNat']
theorem vint_len_pos (n : Nat) : 0 < (vint n).length := by rw [vint]; split <;> simp
theorem vint_len (k : Nat) : ∀ n, n < 128 ^ k → (vint n).length ≤ max k 1 := by
  induction k with
  | zero => intro n h; have : n = 0 := by simpa using h
            subst this; rw [vint_lt (by omega)]; simp
  | succ k ih =>
    intro n h
    by_cases h1 : n < 128
    · rw [vint_lt h1]; simp
    · rw [vint_ge h1]
      have hk : 0 < k := by
        cases k with
        | zero => simp at h; omega
        | succ k => omega
      have := ih (n / 128) (by rw [Nat.pow_succ] at h; omega)
      simp; omega
theorem vint_len9 (n : Nat) (h : n ≤ 4611686018427387904) : (vint n).length ≤ 9 := by
  have := vint_len 9 n (by omega)
  omega

set_option maxHeartbeats 1000000 in
theorem vint_any (B : Nat) (q : Option Addr) (cap : Nat) (l : List UInt8) (n : Nat) (w : World) (ho : OwnK encB 5 1 B w q cap l) (hB : B ≤ w.heap.size) (hl : l.length ≤ 100000000000000) (hn : n ≤ 4611686018427387904) :
    Calls Tryz.prog 99 #[.slice q l.length cap, .int .i64 (n : Int)] w fun e w' => (∃ q' cap', e = .returned (.slice q' (l ++ vint n).length cap') ∧ OwnK encB 5 1 B w' q' cap' (l ++ vint n)) ∧ Below B w w' := by
  have hv := vint_len9 n hn
  obtain ⟨R, hR⟩ : ∃ R, l ++ vint n = R := ⟨_, rfl⟩
  have hRl : R.length ≤ 100000000000009 := by rw [← hR]; simp; omega
  rw [hR]
  have HR := hide hR
  have HO := hide ho
  clear ho hR hv
  go_enter Tryz.func99, Tryz.ntmps99
  go_wp2
  go_loopw [0, 1] (fun v i wr => ∃ (m : List UInt8) (k : Nat) (q' : Option Addr) (cap' : Nat), k ≤ 4611686018427387904 ∧ v = .slice q' m.length cap' ∧ i = .int .i64 (k : Int) ∧ Hid (OwnK encB 5 1 B wr q' cap' m) ∧ Hid (m ++ vint k = R) ∧ Hid (Below B w wr)) (fun _ i _ => (intOf i).toNat)
  case atStart => exact ⟨l, n, q, cap, hn, rfl, rfl, HO, HR, hide (Below.refl _ _)⟩
  case round =>
    obtain ⟨m, k, q', cap', hk, rfl, rfl, HOm, HE, HB⟩ := hrel
    have hs := (unhide HB).size
    have hvp := vint_len_pos k
    have hml : m.length + 1 ≤ 100000000000009 := by have := congrArg List.length (unhide HE); simp at this; omega
    have e1 := low_byte k
    by_cases h1 : k < 128
    · have hE := unhide HE
      rw [vint_lt h1] at hE
      obtain ⟨y, hy⟩ : ∃ y, UInt8.ofNat k = y := ⟨_, rfl⟩
      rw [hy] at hE
      have HE' := hide hE
      have e2 : ((k % 256 : Nat) : Int) = (y.toNat : Int) := by rw [← hy, toNat_of]
      rw [e2] at e1
      have hle : (k : Int) ≤ 127 := by omega
      clear hE hy e2 HE hvp
      go_wp2_with (at_builtin; refine wpList_app rowB rfl _ _ rfl B q' cap' m (some ⟨wr.heap.size, 0, none⟩) 1 [y] m.length 1 (m.length + 1) rfl rfl rfl rfl rfl ((unhide HOm).grow _) (srcA _ _ [y]) (by unfold maxLen; omega) (by omega) (by simp; omega) ?_; intro q2 c2 w2 ho2 hb2 _ _; have O2 := hide ho2; have B2 := hide ((unhide HB).trans (((Below.refl B wr).alloc (by omega) _).trans hb2)); clear ho2 hb2)
      go_ret
      rw [← unhide HE']
      exact ⟨⟨q2, c2, by simp, unhide O2⟩, unhide B2⟩
    · have hE := unhide HE
      rw [vint_ge h1] at hE
      obtain ⟨y, hy⟩ : ∃ y, UInt8.ofNat (k % 128 + 128) = y := ⟨_, rfl⟩
      rw [hy, List.append_cons] at hE
      have HE' := hide hE
      obtain ⟨u, hu⟩ : ∃ u, k / 128 = u := ⟨_, rfl⟩
      rw [hu] at HE'
      obtain ⟨v, hv⟩ : ∃ v, k % 256 = v := ⟨_, rfl⟩
      rw [hv] at e1
      have e2 : bits .or .u8 (v : Int) 128 = (y.toNat : Int) := by
        have := u8_or_nat v 128 (by omega) (by omega)
        rw [or128 v (by omega)] at this
        rw [← hy, toNat_of, show (k % 128 + 128) % 256 = v % 128 + 128 by omega]
        exact this
      have e3 : (k : Int) / 128 = (u : Int) := by omega
      have hgt : (127 : Int) < (k : Int) := by omega
      have hun : u < k := by omega
      have hk2 : u ≤ 4611686018427387904 := by omega
      clear hE hy HE hu hv hvp
      go_wp2_with (at_builtin; refine wpList_app rowB rfl _ _ rfl B q' cap' m (some ⟨wr.heap.size, 0, none⟩) 1 [y] m.length 1 (m.length + 1) rfl rfl rfl rfl rfl ((unhide HOm).grow _) (srcA _ _ [y]) (by unfold maxLen; omega) (by omega) (by simp; omega) ?_; intro q2 c2 w2 ho2 hb2 _ _; have O2 := hide ho2; have B2 := hide ((unhide HB).trans (((Below.refl B wr).alloc (by omega) _).trans hb2)); clear ho2 hb2)
      go_roundw
      case rel => exact ⟨m ++ [y], u, q2, c2, hk2, by simp, rfl, O2, HE', B2⟩
      case measure => simp [intOf]; omega
end Go.Proofs.YtfigjfmldpfjkaaGreat

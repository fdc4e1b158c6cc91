/- name: a text for a number. -/
import Derived.Test.YtfenkiplofnolaaFx
import Derived.Laws.IdiomStrings
namespace Go.Proofs.Ytfenkiplofnolaa
open Go.RowKit Go.Sort

def encB (x : UInt8) : List Value := [.int .u8 (x.toNat : Int)]
theorem Try.info5 : (Try.prog.info? 5).map (fun i => (i.zero, i.size, i.bytes)) = some (some (.int .u8 0), 1, 1) := by kernel_rfl
theorem rowB : RowOf encB 82 5 1 1 where
  und := Try.underlying82
  info := by
    obtain ⟨i0, hi, hz0, hz1, hz2⟩ := info_parts Try.info5
    exact ⟨i0, _, hi, hz0, hz1, hz2, rfl⟩
  pos := by decide
  one := one_flat (fun x c hc => by obtain rfl : c = 0 := by omega
                                    rfl) (by decide)
theorem conv_sl {w : World} {q : Option Addr} {c : Nat} {l : List UInt8} (h : SlOf encB 1 w q c l) : (convert 82 9 (.slice q l.length c)).run Try.prog w = .ok (.string ⟨l.toArray⟩) w := by
  have hfl : (flatK encB 1 l.toArray).toList = l.map fun x => Value.int .u8 (x.toNat : Int) := flat_one (fun x : UInt8 => Value.int .u8 (x.toNat : Int)) l
  by_cases hl : 0 < l.length
  · obtain ⟨b, off, rfl, _, hA⟩ := h.2.2.2 hl
    refine run_convert_bytes_back w 82 9 5 _ c l Try.underlying82 Try.underlying5 Try.underlying9 fun j hj => ?_
    rw [add_plain]
    exact hA j _ (by rw [hfl, List.getElem?_map, List.getElem?_eq_getElem hj]; rfl)
  · obtain rfl : l = [] := List.length_eq_zero_iff.1 (by omega)
    cases q with
    | none =>
      have := (h.1 rfl).2
      subst this
      exact run_convert_bytes_nil w 82 5 Try.underlying82 Try.underlying5 0 0 9 Try.underlying9
    | some a => exact run_convert_bytes_back w 82 9 5 a c [] Try.underlying82 Try.underlying5 Try.underlying9 fun j hj => by simp at hj
/-- The k-th byte of a number. -/
def nb (n : Int) (k : Nat) : UInt8 := UInt8.ofNat (IntKind.u64.wrap n / 2 ^ (8 * k) % 256).toNat
theorem nb_eq (n : Int) (k : Nat) : IntKind.u64.wrap n / 2 ^ (8 * k) % 256 = ((nb n k).toNat : Int) := by
  unfold nb
  have h1 := Int.emod_nonneg (IntKind.u64.wrap n / 2 ^ (8 * k)) (show (256 : Int) ≠ 0 by decide)
  have h2 := Int.emod_lt_of_pos (IntKind.u64.wrap n / 2 ^ (8 * k)) (show (0 : Int) < 256 by decide)
  generalize IntKind.u64.wrap n / 2 ^ (8 * k) % 256 = v at h1 h2
  rw [UInt8.toNat_ofNat']
  omega
/-- The text for a number. -/
def nm (n : Int) : ByteArray := ⟨((List.range 8).map (nb n)).toArray⟩
set_option maxHeartbeats 1000000 in
set_option maxRecDepth 100000 in
theorem name_any (n : Int) (w : World) : Calls Try.prog 25 #[.int .i64 n] w fun e w' => e = .returned (.string (nm n)) ∧ Below w.heap.size w w' := by
  go_enter Try.func25, Try.ntmps25
  go_wp2
  go_loopw [3, 4] (fun s i wr => ∃ (k : Nat) (q : Option Addr) (cap : Nat), k ≤ 8 ∧ i = .int .i64 k ∧ s = .slice q k cap ∧ Hid (OwnK encB 5 1 w.heap.size wr q cap ((List.range k).map (nb n))) ∧ Hid (Below w.heap.size w wr)) (fun _ i _ => 8 - (intOf i).toNat)
  case atStart => exact ⟨0, none, 0, by omega, rfl, rfl, hide (OwnK.nil _ _), hide (Below.refl _ _)⟩
  case round =>
    obtain ⟨k, q, cap, hk, rfl, rfl, HO, HB⟩ := hrel
    by_cases hlt : k < 8
    · have k1 : (k : Int) < 8 := by omega
      have hsrc : SrcK encB 1 (wr.alloc (.cells #[.int .u8 (IntKind.u64.wrap n / 2 ^ (8 * k) % 256)] 5)) (some ⟨wr.heap.size, 0, none⟩) 1 [nb n k] := by
        rw [nb_eq]
        exact (sl_lit (fun x : UInt8 => Value.int .u8 (x.toNat : Int)) (l := [nb n k]) (by simp [maxLen]) (box_nw wr _)).src
      have HS := hide hsrc
      clear hsrc
      go_wp2_with (at_builtin; refine wpList_app rowB rfl _ _ rfl w.heap.size q cap ((List.range k).map (nb n)) (some ⟨wr.heap.size, 0, none⟩) 1 [nb n k] k 1 (k + 1) (by simp) rfl rfl rfl rfl ((unhide HO).below (alloc_b wr _)) (unhide HS) (by unfold maxLen; omega) (by omega) (by have := (unhide HB).size; simp; omega) ?_; intro q2 cap2 w2 ho2 hb2 _ _; have HO2 := hide ho2; have HB2 := hide hb2; clear ho2 hb2)
      go_roundw
      case rel => exact ⟨k + 1, q2, cap2, by omega, by go_num, rfl, hide (by rw [List.range_succ, List.map_append]; exact unhide HO2), hide (((unhide HB).alloc (unhide HB).size _).trans (unhide HB2))⟩
      case measure => simp [intOf]; omega
    · obtain rfl : k = 8 := by omega
      have k1 : ¬ ((8 : Nat) : Int) < 8 := by omega
      have hcv := conv_sl (unhide HO).ls
      rw [show ((List.range 8).map (nb n)).length = 8 by simp] at hcv
      have hcv2 : (convert 82 9 (.slice q 8 cap)).run Try.prog wr = .ok (.string (nm n)) wr := hcv
      clear hcv
      go_wp2
      go_ret
      exact ⟨rfl, unhide HB⟩
end Go.Proofs.Ytfenkiplofnolaa

/- key.appendWord, for every list, name and word. -/
import Derived.Test.YtedakipjfpdajaaGreatDoorOfB
import Derived.Test.YtedakipjfpdajaaGreatDoorAppK
namespace Go.Proofs.YtedakipjfpdajaaGreatDoor
open Go.RowKit Go.Sort Go.Shelf

/-- A word's keys. -/
def wordKeys (attr s : ByteArray) : List Ky := kWord attr s :: (List.range (s.size + 1)).map fun k => kPre attr (s.extract 0 k)
set_option maxRecDepth 100000 in
set_option maxHeartbeats 2000000 in
theorem appWord (B : Nat) (q : Option Addr) (c : Nat) (K : List Ky) (attr s : ByteArray) (hs : s.size ≤ 64) (w : World) (ho : OwnK encK 46 5 B w q c K) (hB : B ≤ w.heap.size) (hl : (K.length + 66) * 56 ≤ 140737488355328) :
    Calls Tryz.prog 33 #[.slice q K.length c, .string attr, .string s] w fun e w' => (∃ q' c', e = .returned (.slice q' (K.length + 1 + (s.size + 1)) c') ∧ OwnK encK 46 5 B w' q' c' (K ++ wordKeys attr s)) ∧ Below B w w' := by
  have HO := hide ho
  have k9 : (K.length : Int) ≤ 2513169434917 := by omega
  have s9 : (s.size : Int) ≤ 64 := by omega
  clear ho
  go_enter Tryz.func33, Tryz.ntmps33
  go_wp2_with (first
    | (go_at_call 25; refine (ofW attr s _).mono ?_; rintro e w1 ⟨rfl, b1⟩; have B1 := hide b1; have s1 := b1.size; clear b1)
    | (at_builtin; refine wpList_appK rfl _ _ rfl B q c K (some ⟨w1.heap.size, 0, none⟩) 1 [kWord attr s] K.length 1 (K.length + 1) rfl rfl rfl rfl rfl (((unhide HO).below (unhide B1)).below ((Below.refl _ _).alloc (Nat.le_refl _) _)) (srcKyA _ _) (by unfold maxLen; omega) (by omega) (by simp; omega) ?_; intro q2 c2 w2 ho2 hb2 _; have O2 := hide ho2; have B2 := hide (((unhide B1).mono hB).trans (((Below.refl B w1).alloc (by omega) _).trans hb2)); have s2 := (unhide B2).size; clear ho2 hb2))
  go_loopw [0, 17] (fun kv iv wr => ∃ (k n : Nat) (q' : Option Addr) (c' : Nat), k ≤ s.size + 1 ∧ Hid (n = K.length + 1 + k) ∧ kv = .slice q' n c' ∧ iv = .int .i64 k ∧ Hid (OwnK encK 46 5 B wr q' c' (K ++ [kWord attr s] ++ (List.range k).map fun k => kPre attr (s.extract 0 k))) ∧ Hid (Below B w wr)) (fun _ iv _ => s.size + 1 - (intOf iv).toNat)
  case atStart => exact ⟨0, K.length + 1, q2, c2, by omega, hide rfl, rfl, rfl, hide (by simpa using unhide O2), B2⟩
  case round =>
    obtain ⟨k, n, q', c', hk, HN, rfl, rfl, HOr, HB⟩ := hrel
    have sB := (unhide HB).size
    by_cases hlt : k < s.size + 1
    · have HT := hide (show K ++ [kWord attr s] ++ (List.range (k + 1)).map (fun k => kPre attr (s.extract 0 k)) = K ++ [kWord attr s] ++ (List.range k).map (fun k => kPre attr (s.extract 0 k)) ++ [kPre attr (s.extract 0 k)] by rw [List.range_succ, List.map_append, ← List.append_assoc]; rfl)
      have hlk : (K ++ [kWord attr s] ++ (List.range k).map fun k => kPre attr (s.extract 0 k)).length = n := by rw [unhide HN]; simp; omega
      have HLK := hide hlk
      have k0 : (0 : Int) ≤ (k : Int) := by omega
      have k1 : (k : Int) < (s.size : Int) + 1 := by omega
      have k2 : (k : Int) ≤ (s.size : Int) := by omega
      clear hlk
      go_wp2_with (first
        | (go_at_call 29; refine (ofP attr (s.extract 0 k) _).mono ?_; rintro e w4 ⟨rfl, b4⟩; have B4 := hide b4; have s4 := b4.size; clear b4)
        | (at_builtin; refine wpList_appK rfl _ _ rfl B q' c' (K ++ [kWord attr s] ++ (List.range k).map fun k => kPre attr (s.extract 0 k)) (some ⟨w4.heap.size, 0, none⟩) 1 [kPre attr (s.extract 0 k)] n 1 (n + 1) (unhide HLK) rfl rfl rfl rfl (((unhide HOr).below (unhide B4)).below ((Below.refl _ _).alloc (Nat.le_refl _) _)) (srcKyA _ _) (by have := unhide HN; unfold maxLen; omega) (by have := unhide HN; omega) (by simp; omega) ?_; intro q5 c5 w5 ho5 hb5 hst; have HO5 := hide ho5; have HB5 := hide ((unhide HB).trans (((unhide B4).mono (Nat.le_trans hB sB)).trans (((Below.refl B w4).alloc (by omega) _).trans hb5))); clear ho5 hb5 hst))
      go_roundw
      case rel => exact ⟨k + 1, n + 1, q5, c5, by omega, hide (by have := unhide HN; omega), rfl, by go_num, hide (by rw [unhide HT]; exact unhide HO5), HB5⟩
      case measure => simp [intOf]; omega
    · obtain rfl : k = s.size + 1 := by omega
      have k1 : ¬ ((s.size + 1 : Nat) : Int) < (s.size : Int) + 1 := by omega
      go_wp2
      go_ret
      obtain rfl := unhide HN
      exact ⟨⟨q', c', rfl, by have := unhide HOr; rw [List.append_assoc] at this; exact this⟩, unhide HB⟩
end Go.Proofs.YtedakipjfpdajaaGreatDoor

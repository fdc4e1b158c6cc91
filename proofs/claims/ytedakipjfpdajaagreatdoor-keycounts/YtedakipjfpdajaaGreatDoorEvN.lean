/- key.appendNumber, for every list, name and value. -/
import Derived.Test.YtedakipjfpdajaaGreatDoorOfB
import Derived.Test.YtedakipjfpdajaaGreatDoorAppK
namespace Go.Proofs.YtedakipjfpdajaaGreatDoor
open Go.RowKit Go.Sort Go.Shelf

theorem PthAt.keep {w w' : World} {b p k : Nat} (h : PthAt w b p k) (hb : w'.heap[b]? = w.heap[b]?) (hs : w.heap.size ≤ w'.heap.size) : PthAt w' b p k := by
  have hc : ∀ o, w'.cell? ⟨b, o, none⟩ = w.cell? ⟨b, o, none⟩ := fun o => by unfold World.cell?; simp only [hb]
  have hf : ∀ o, w'.frozen? ⟨b, o, none⟩ = w.frozen? ⟨b, o, none⟩ := fun o => by unfold World.frozen?; simp only [hb]
  exact ⟨fun j hj => ⟨(hc _).trans (h.1 j hj).1, (hc _).trans (h.1 j hj).2⟩, fun o => (hf o).trans (h.2.1 o), Nat.lt_of_lt_of_le h.2.2 hs⟩
/-- A number's keys. -/
def numKeys (attr : ByteArray) (x : Int) (p : Nat) : List Ky := kInt attr x :: (pathL p 33).map (kSpan attr)
set_option maxRecDepth 100000 in
set_option maxHeartbeats 2000000 in
theorem appNum (B : Nat) (q : Option Addr) (c : Nat) (K : List Ky) (attr : ByteArray) (x : Int) (p : Nat) (hx : x + 2147483648 = p) (hp : p < 4294967296) (w : World) (ho : OwnK encK 46 5 B w q c K) (hB : B ≤ w.heap.size) (hl : (K.length + 34) * 56 ≤ 140737488355328) :
    Calls Tryz.prog 32 #[.slice q K.length c, .string attr, .int .i64 x] w fun e w' => (∃ q' c', e = .returned (.slice q' (K.length + 34) c') ∧ OwnK encK 46 5 B w' q' c' (K ++ numKeys attr x p)) ∧ Below B w w' := by
  have HO := hide ho
  have k9 : (K.length : Int) ≤ 2513169434917 := by omega
  clear ho
  go_enter Tryz.func32, Tryz.ntmps32
  go_wp2_with (first
    | (go_at_call 24; refine (ofI attr x _).mono ?_; rintro e w1 ⟨rfl, b1⟩; have B1 := hide b1; have s1 := b1.size; clear b1)
    | (at_builtin; refine wpList_appK rfl _ _ rfl B q c K (some ⟨w1.heap.size, 0, none⟩) 1 [kInt attr x] K.length 1 (K.length + 1) rfl rfl rfl rfl rfl (((unhide HO).below (unhide B1)).below ((Below.refl _ _).alloc (Nat.le_refl _) _)) (srcKyA _ _) (by unfold maxLen; omega) (by omega) (by simp; omega) ?_; intro q2 c2 w2 ho2 hb2 _; have O2 := hide ho2; have B2 := hide (((unhide B1).mono hB).trans (((Below.refl B w1).alloc (by omega) _).trans hb2)); have s2 := (unhide B2).size; clear ho2 hb2)
    | (go_at_call 71; refine (path_any x p hx hp _).mono ?_; rintro e w3 ⟨rfl, p3, b3⟩; have P3 := hide p3; have O3 := hide ((unhide O2).below b3); have B3 := hide ((unhide B2).trans (b3.mono (Nat.le_trans hB s2))); have Q3 : Hid (∀ a, q2 = some a → a.block ≠ w2.heap.size) := hide (fun a e => Nat.ne_of_lt (sl_lt (unhide O2) e)); clear p3 b3))
  go_loopw [0, 18] (fun kv iv wr => ∃ (k n : Nat) (q' : Option Addr) (c' : Nat), k ≤ 33 ∧ Hid (n = K.length + 1 + k) ∧ kv = .slice q' n c' ∧ iv = .int .i64 k ∧ Hid (OwnK encK 46 5 B wr q' c' (K ++ [kInt attr x] ++ (pathL p k).map (kSpan attr))) ∧ Hid (PthAt wr w2.heap.size p 33) ∧ Hid (∀ a, q' = some a → a.block ≠ w2.heap.size) ∧ Hid (Below B w wr)) (fun _ iv _ => 33 - (intOf iv).toNat)
  case atStart => exact ⟨0, K.length + 1, q2, c2, by omega, hide rfl, rfl, rfl, hide (by simpa [pathL] using unhide O3), P3, Q3, B3⟩
  case round =>
    obtain ⟨k, n, q', c', hk, HN, rfl, rfl, HOr, HP, HQ, HB⟩ := hrel
    have sB := (unhide HB).size
    by_cases hlt : k < 33
    · obtain ⟨g0, g1⟩ := (unhide HP).get hlt
      have HT := hide (show K ++ [kInt attr x] ++ (pathL p (k + 1)).map (kSpan attr) = K ++ [kInt attr x] ++ (pathL p k).map (kSpan attr) ++ [kSpan attr (k, p / 2 ^ k)] by rw [← pathL_step, List.map_append, ← List.append_assoc]; rfl)
      have hlk : (K ++ [kInt attr x] ++ (pathL p k).map (kSpan attr)).length = n := by rw [unhide HN]; simp [pathL_len]; omega
      have HLK := hide hlk
      obtain ⟨J, hJ⟩ : ∃ J, p / 2 ^ k = J := ⟨_, rfl⟩
      rw [hJ] at g1 HT
      have k0 : (0 : Int) ≤ (k : Int) := by omega
      have k1 : (k : Int) < 33 := by omega
      have lP := (unhide HP).2.2
      clear hlk hJ
      go_wp2_with (first
        | (go_at_call 27; refine (ofSp attr _ _ _).mono ?_; rintro e w4 ⟨rfl, b4⟩; have B4 := hide (below_sub ((Below.refl _ _).alloc (Nat.le_refl _) _) b4); have s4 := (unhide B4).size; clear b4)
        | (at_builtin; refine wpList_appK rfl _ _ rfl B q' c' (K ++ [kInt attr x] ++ (pathL p k).map (kSpan attr)) (some ⟨w4.heap.size, 0, none⟩) 1 [kSpan attr (k, J)] n 1 (n + 1) (unhide HLK) rfl rfl rfl rfl (((unhide HOr).below (unhide B4)).below ((Below.refl _ _).alloc (Nat.le_refl _) _)) (srcKyA _ _) (by have := unhide HN; unfold maxLen; omega) (by have := unhide HN; omega) (by simp; omega) ?_; intro q5 c5 w5 ho5 hb5 hst; have HO5 := hide ho5; have HB5 := hide ((unhide HB).trans (((unhide B4).mono (Nat.le_trans hB sB)).trans (((Below.refl B w4).alloc (by omega) _).trans hb5))); have HST := hide hst; clear ho5 hb5 hst))
      have hp4 := ((unhide HP).below (unhide B4)).below ((Below.refl w4.heap.size w4).alloc (Nat.le_refl _) (.cells #[.string attr, .int .i64 3, .int .i64 (k : Int), .int .i64 (J : Int), .string ⟨#[]⟩] 46))
      obtain ⟨hgr, hwh⟩ := unhide HST
      have hp5 : PthAt w5 w2.heap.size p 33 := hp4.keep (hgr.block _ hp4.2.2 (fun e => by
        cases hq : q' with
        | none => rw [hq] at e; cases e
        | some a => rw [hq] at e; simp at e; exact unhide HQ a hq e.symm)) hgr.size
      have hq5 : ∀ a, q5 = some a → a.block ≠ w2.heap.size := fun a e => by
        rcases hwh with h | ⟨_, h | ⟨g', h, hg'⟩⟩
        · exact unhide HQ a (by rw [← h]; exact e)
        · rw [h] at e; cases e
        · rw [h] at e; cases e
          have := hp4.2.2
          show g' ≠ _
          omega
      go_roundw
      case rel => exact ⟨k + 1, n + 1, q5, c5, by omega, hide (by have := unhide HN; omega), rfl, by go_num, hide (by rw [unhide HT]; exact unhide HO5), hide hp5, hide hq5, HB5⟩
      case measure => simp [intOf]; omega
    · obtain rfl : k = 33 := by omega
      go_wp2
      go_ret
      obtain rfl := unhide HN
      exact ⟨⟨q', c', rfl, by have := unhide HOr; rw [List.append_assoc] at this; exact this⟩, unhide HB⟩
end Go.Proofs.YtedakipjfpdajaaGreatDoor

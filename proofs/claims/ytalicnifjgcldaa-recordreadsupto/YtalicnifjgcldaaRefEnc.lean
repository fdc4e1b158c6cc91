/- The reference's Varint, sealed and Head. -/
import Derived.Test.YtalicnifjgcldaaBackLaw
namespace Go.Proofs.Ytalicnifjgcldaa
open Go.RowKit Go.Sort Go.Shelf

set_option maxHeartbeats 1000000 in
theorem refVint (n : Nat) (w : World) (hn : n ≤ 4611686018427387904) :
    Calls Try.prog 33 #[.int .i64 (n : Int)] w fun e w' => (∃ q' cap', e = .returned (.slice q' (vint n).length cap') ∧ OwnK encB 5 1 w.heap.size w' q' cap' (vint n)) ∧ Below w.heap.size w w' := by
  have hv := vint_len9 n hn
  obtain ⟨R, hR⟩ : ∃ R, vint n = R := ⟨_, rfl⟩
  have hRl : R.length ≤ 9 := by rw [← hR]; exact hv
  rw [hR]
  have HR := hide hR
  clear hR hv
  go_enter Try.func33, Try.ntmps33
  go_wp2
  go_loopw [0, 3] (fun i v wr => ∃ (m : List UInt8) (k : Nat) (q' : Option Addr) (cap' : Nat), k ≤ 4611686018427387904 ∧ v = .slice q' m.length cap' ∧ i = .int .i64 (k : Int) ∧ Hid (OwnK encB 5 1 w.heap.size wr q' cap' m) ∧ Hid (m ++ vint k = R) ∧ Hid (Below w.heap.size w wr)) (fun i _ _ => (intOf i).toNat)
  case atStart => exact ⟨[], n, none, 0, hn, rfl, rfl, hide (OwnK.nil _ _), HR, hide (Below.refl _ _)⟩
  case round =>
    obtain ⟨m, k, q', cap', hk, rfl, rfl, HOm, HE, HB⟩ := hrel
    have hs := (unhide HB).size
    have hvp := vint_len_pos k
    have hml : m.length + 1 ≤ 9 := by have := congrArg List.length (unhide HE); simp at this; omega
    by_cases h1 : k < 128
    · have hE := unhide HE
      rw [vint_lt h1] at hE
      obtain ⟨y, hy⟩ : ∃ y, UInt8.ofNat k = y := ⟨_, rfl⟩
      rw [hy] at hE
      have HE' := hide hE
      have e1 : IntKind.u8.wrap (k : Int) = (y.toNat : Int) := by rw [low_byte, ← hy, toNat_of]
      have hle : ¬ (128 : Int) ≤ (k : Int) := by omega
      clear hE hy HE hvp
      go_wp2_with (at_builtin; refine wpList_app rowB rfl _ _ rfl w.heap.size q' cap' m (some ⟨wr.heap.size, 0, none⟩) 1 [y] m.length 1 (m.length + 1) rfl rfl rfl rfl rfl ((unhide HOm).grow _) (srcA _ _ [y]) (by unfold maxLen; omega) (by omega) (by simp; omega) ?_; intro q2 c2 w2 ho2 hb2 _ _; have O2 := hide ho2; have B2 := hide ((unhide HB).trans (((Below.refl w.heap.size wr).alloc (by omega) _).trans hb2)); clear ho2 hb2)
      go_ret
      rw [← unhide HE']
      exact ⟨⟨q2, c2, by simp, unhide O2⟩, unhide B2⟩
    · have hE := unhide HE
      rw [vint_ge h1] at hE
      obtain ⟨y, hy⟩ : ∃ y, UInt8.ofNat (k % 128 + 128) = y := ⟨_, rfl⟩
      rw [hy, List.append_cons] at hE
      have HE' := hide hE
      obtain ⟨u, hu⟩ : ∃ u, k / 128 = u := ⟨_, rfl⟩
      rw [hu] at HE'
      obtain ⟨v, hv⟩ : ∃ v, k % 128 = v := ⟨_, rfl⟩
      have e0 : (k : Int).tmod 128 = (v : Int) := by rw [Int.tmod_eq_emod_of_nonneg (by omega)]; omega
      have e0' : (k : Int) % 128 = (v : Int) := by omega
      have e2 : IntKind.u8.wrap ((v : Int) + 128) = (y.toNat : Int) := by
        rw [← hy, toNat_of, hv, IntKind.wrap_u8']; omega
      have e3 : (k : Int) / 128 = (u : Int) := by omega
      have e4 : (k : Int).tdiv 128 = (u : Int) := by rw [Int.tdiv_eq_ediv_of_nonneg (by omega)]; omega
      have hgt : (128 : Int) ≤ (k : Int) := by omega
      have hvb : (v : Int) ≤ 127 := by omega
      have hun : u < k := by omega
      have hk2 : u ≤ 4611686018427387904 := by omega
      clear hE hy HE hu hv hvp
      go_wp2_with (at_builtin; refine wpList_app rowB rfl _ _ rfl w.heap.size q' cap' m (some ⟨wr.heap.size, 0, none⟩) 1 [y] m.length 1 (m.length + 1) rfl rfl rfl rfl rfl ((unhide HOm).grow _) (srcA _ _ [y]) (by unfold maxLen; omega) (by omega) (by simp; omega) ?_; intro q2 c2 w2 ho2 hb2 _ _; have O2 := hide ho2; have B2 := hide ((unhide HB).trans (((Below.refl w.heap.size wr).alloc (by omega) _).trans hb2)); clear ho2 hb2)
      go_roundw
      case rel => exact ⟨m ++ [y], u, q2, c2, hk2, by simp, rfl, O2, HE', B2⟩
      case measure => simp [intOf]; omega
set_option maxHeartbeats 1000000 in
theorem refSealed (q : Option Addr) (c : Nat) (l : List UInt8) (w : World) (h : SlOf encB 1 w q c l) (hl : l.length ≤ 100000000000000) :
    Calls Try.prog 32 #[.slice q l.length c] w fun e w' => (∃ q' cap', e = .returned (.slice q' (sealB l).length cap') ∧ OwnK encB 5 1 w.heap.size w' q' cap' (sealB l)) ∧ Below w.heap.size w w' := by
  have hs := refSum_any q c l w h (by omega)
  have hlt := sumB_lt l
  have HSB := hide (show sealB l = [] ++ l ++ four (sumB l) from by unfold sealB; simp)
  generalize hS : sumB l = S at hs hlt HSB
  have e0 := wrap8 S
  have d1 : (S : Int) / 256 = ((S / 256 : Nat) : Int) := by omega
  have d2 : (S : Int) / 65536 = ((S / 65536 : Nat) : Int) := by omega
  have d3 : (S : Int) / 16777216 = ((S / 16777216 : Nat) : Int) := by omega
  have e1 := wrap8 (S / 256)
  have e2 := wrap8 (S / 65536)
  have e3 := wrap8 (S / 16777216)
  unfold four at HSB
  generalize S / 256 = S1 at *
  generalize S / 65536 = S2 at *
  generalize S / 16777216 = S3 at *
  generalize UInt8.ofNat S = y0 at *
  generalize UInt8.ofNat S1 = y1 at *
  generalize UInt8.ofNat S2 = y2 at *
  generalize UInt8.ofNat S3 = y3 at *
  have HS := hide h
  clear h hS
  go_enter Try.func32, Try.ntmps32
  go_wp2_with (first
    | (go_at_call 19; refine hs.mono ?_; rintro e w1 ⟨rfl, hw1⟩; obtain rfl := hw1.symm)
    | (at_builtin; refine wpList_app rowB rfl (.tmp 6) (.tmp 7) rfl w.heap.size (some ⟨w.heap.size, 0, none⟩) 0 [] q c l 0 l.length l.length rfl rfl (by simp) rfl rfl (OwnK.made _ _ (Nat.le_refl _)) ((unhide HS).below ((Below.refl _ _).alloc (Nat.le_refl _) _)).src (by unfold maxLen; omega) (by omega) (by simp) ?_; intro q4 c4 w4 o4 b4 _ _; have O4 := hide o4; have B4 := hide (((Below.refl w.heap.size w).alloc (Nat.le_refl _) (.cells #[] 5)).trans b4); clear o4 b4)
    | (at_builtin; refine wpList_app rowB rfl (.tmp 8) (.tmp 20) rfl w.heap.size q4 c4 ([] ++ l) (some ⟨w4.heap.size, 0, none⟩) 4 [y0, y1, y2, y3] l.length 4 (l.length + 4) (by simp) rfl rfl rfl rfl ((unhide O4).grow _) (srcA _ _ [y0, y1, y2, y3]) (by unfold maxLen; omega) (by omega) (by have := (unhide B4).size; simp; omega) ?_; intro q5 c5 w5 o5 b5 _ _; have O5 := hide o5; have B5 := hide ((unhide B4).trans (((Below.refl w.heap.size w4).alloc (unhide B4).size _).trans b5)); clear o5 b5))
  go_ret
  rw [unhide HSB]
  exact ⟨⟨q5, c5, by simp, unhide O5⟩, unhide B5⟩
set_option maxHeartbeats 1000000 in
theorem refHead_no (n : Int) (hn : ¬ (1 ≤ n ∧ n ≤ 1099511627777)) (w : World) :
    Calls Try.prog 13 #[.int .i64 n] w fun e w' => e = .returned (.tuple #[.slice none 0 0, .int .i64 2]) ∧ w' = w := by
  by_cases h1 : n < 1
  · clear hn
    go_enter Try.func13, Try.ntmps13
    go_wp2
    refine bodyPost_ret (v := .tuple #[.slice none 0 0, .int .i64 2]) (by simp [results, Try.f13, go_sem]) rfl ?_
    exact ⟨rfl, rfl⟩
  · have h2 : 1099511627777 < n := by omega
    clear hn
    go_enter Try.func13, Try.ntmps13
    go_wp2
    refine bodyPost_ret (v := .tuple #[.slice none 0 0, .int .i64 2]) (by simp [results, Try.f13, go_sem]) rfl ?_
    exact ⟨rfl, rfl⟩
set_option maxHeartbeats 1000000 in
theorem refHead_yes (n : Nat) (h1 : 1 ≤ n) (h2 : n ≤ 1099511627777) (w : World) :
    Calls Try.prog 13 #[.int .i64 (n : Int)] w fun e w' => (∃ q c, e = .returned (.tuple #[.slice q (headB n).length c, .int .i64 0]) ∧ OwnK encB 5 1 w.heap.size w' q c (headB n)) ∧ Below w.heap.size w w' := by
  have g1 : ¬ (n : Int) < 1 := by omega
  have g2 : ¬ (1099511627777 : Int) < (n : Int) := by omega
  have hb0 : Below w.heap.size w (w.alloc (.cells #[.int .u8 72] 5)) := (Below.refl _ _).alloc (Nat.le_refl _) _
  have hv := refVint n (w.alloc (.cells #[.int .u8 72] 5)) (by omega)
  have hl := vint_len9 n (by omega)
  have hoa := hide (ownA w w.heap.size [72] (Nat.le_refl _) (by unfold maxLen; simp))
  have HB0 := hide hb0
  obtain ⟨V, hV⟩ : ∃ V, (vint n).length = V := ⟨_, rfl⟩
  simp only [hV] at hv
  obtain ⟨V1, hV1⟩ : ∃ V1, 1 + V = V1 := ⟨_, rfl⟩
  have HV := hide hV
  have HV1 := hide hV1
  have hV9 : V1 ≤ 10 := by omega
  have hse := fun (q : Option Addr) (c : Nat) (W : World) (hW : SlOf encB 1 W q c ([72] ++ vint n)) => refSealed q c ([72] ++ vint n) W hW (by simp; omega)
  rw [show (([72] : List UInt8) ++ vint n).length = V1 by rw [← hV1, ← hV]; simp; omega, show sealB ([72] ++ vint n) = headB n from rfl] at hse
  clear hb0 hl hV hV1
  go_enter Try.func13, Try.ntmps13
  go_wp2_with (first
    | (go_at_call 33; refine hv.mono ?_; rintro e w2 ⟨⟨q2, c2, rfl, o2⟩, b2⟩; have O2 := hide o2.ls; have A2 := hide ((unhide hoa).below b2); have B2 := hide (below_sub (unhide HB0) b2); clear o2 b2)
    | (at_builtin; refine wpList_app rowB rfl _ _ rfl w.heap.size (some ⟨w.heap.size, 0, none⟩) 1 [72] q2 c2 (vint n) 1 V V1 rfl (unhide HV) (unhide HV1) rfl rfl (unhide A2) (unhide O2).src (by unfold maxLen; omega) (by omega) (unhide B2).size ?_; intro q3 c3 w3 o3 b3 _ _; have O3 := hide o3.ls; have B3 := hide ((unhide B2).trans b3); clear o3 b3)
    | (go_at_call 32; refine (hse _ _ _ (unhide O3)).mono ?_; rintro e w4 ⟨⟨q4, c4, rfl, o4⟩, b4⟩; have O4 := hide (o4.mono (unhide B3).size); have B4 := hide ((unhide B3).trans (b4.mono (unhide B3).size)); clear o4 b4))
  refine bodyPost_ret (v := .tuple #[.slice q4 (headB n).length c4, .int .i64 0]) (by simp [results, Try.f13, go_sem]) rfl ?_
  exact ⟨⟨q4, c4, rfl, unhide O4⟩, unhide B4⟩
end Go.Proofs.Ytalicnifjgcldaa

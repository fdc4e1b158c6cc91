/- The document's records: its sum; slices cut. -/
import Derived.Test.YtfigjfmldpfjkaaGreatZah
import Derived.Test.YtfigjfmldpfjkaaGreatZaj
import Derived.Deep.Cut
namespace Go.Proofs.YtfigjfmldpfjkaaGreat
open Go.RowKit Go.Sort Go.Shelf

/-- What stands in a record. -/
theorem rec_parts (b : List UInt8) : recB b = (67 :: (vint b.length ++ b)) ++ four (sumB (67 :: (vint b.length ++ b))) := rfl
set_option maxHeartbeats 1000000 in
theorem refMay_any (c : Ch) (w : World) :
    Calls Tryz.prog 97 #[.agg #[.int .i64 c.kind, .int .i64 c.id, .string c.text]] w fun e w' => e = .returned (.bool (decide (MayB c))) ∧ Below w.heap.size w w' := by
  obtain ⟨R, hR⟩ : ∃ R, decide (MayB c) = R := ⟨_, rfl⟩
  rw [hR]
  have hP : R = true ↔ MayB c := by rw [← hR, decide_eq_true_eq]
  clear hR
  obtain ⟨kind, id, text⟩ := c
  have hM : MayB ⟨kind, id, text⟩ ↔ (1 ≤ id ∧ id ≤ 1099511627776) ∧ (((kind = 1 ∨ kind = 2) ∧ text.size ≤ 4096) ∨ (kind = 3 ∧ text.size = 0)) := Iff.rfl
  rw [hM] at hP
  clear hM
  have hno : ¬ ((1 ≤ id ∧ id ≤ 1099511627776) ∧ (((kind = 1 ∨ kind = 2) ∧ text.size ≤ 4096) ∨ (kind = 3 ∧ text.size = 0))) → R = false := fun h => by
    cases R
    · rfl
    · exact absurd (hP.1 rfl) h
  by_cases h1 : 1 ≤ id
  · by_cases h2 : id ≤ 1099511627776
    · by_cases k1 : kind = 1
      · have HE : Hid (R = decide ((text.size : Int) ≤ 4096)) := hide (by rw [Bool.eq_iff_iff, hP, decide_eq_true_eq]; omega)
        subst k1
        clear hP hno
        go_enter Tryz.func97, Tryz.ntmps97
        go_wp2
        all_goals (go_ret; exact ⟨ret_bool (by first | exact (unhide HE).symm | (rw [unhide HE]; symm; assumption) | (rw [unhide HE]; simp_all)), (Below.refl _ _).alloc (Nat.le_refl _) _⟩)
      · by_cases k2 : kind = 2
        · have HE : Hid (R = decide ((text.size : Int) ≤ 4096)) := hide (by rw [Bool.eq_iff_iff, hP, decide_eq_true_eq]; omega)
          subst k2
          clear hP hno k1
          go_enter Tryz.func97, Tryz.ntmps97
          go_wp2
          all_goals (go_ret; exact ⟨ret_bool (by first | exact (unhide HE).symm | (rw [unhide HE]; symm; assumption) | (rw [unhide HE]; simp_all)), (Below.refl _ _).alloc (Nat.le_refl _) _⟩)
        · by_cases k3 : kind = 3
          · have HE : Hid (R = text.toList.isEmpty) := hide (by rw [Bool.eq_iff_iff, hP, emp_iff]; omega)
            have HF : Hid (text.toList.isEmpty = decide (text.size = 0)) := hide (by rw [Bool.eq_iff_iff, emp_iff, decide_eq_true_eq])
            subst k3
            clear hP hno k1 k2
            go_enter Tryz.func97, Tryz.ntmps97
            go_wp2
            all_goals (go_ret; exact ⟨ret_bool (by first | exact (unhide HE).symm | (rw [unhide HE, unhide HF]; symm; first | exact decide_eq_true (by omega) | exact decide_eq_false (by omega)) | (rw [unhide HE]; simp_all)), (Below.refl _ _).alloc (Nat.le_refl _) _⟩)
          · have HE := hide (hno (by omega))
            clear hP hno
            go_enter Tryz.func97, Tryz.ntmps97
            go_wp2
            all_goals (go_ret; first | exact ⟨ret_bool (unhide HE).symm, (Below.refl _ _).alloc (Nat.le_refl _) _⟩ | (exfalso; first | omega | simp_all))
    · have HE := hide (hno (by omega))
      clear hP hno
      go_enter Tryz.func97, Tryz.ntmps97
      go_wp2
      all_goals (go_ret; first | exact ⟨ret_bool (unhide HE).symm, (Below.refl _ _).alloc (Nat.le_refl _) _⟩ | (exfalso; first | omega | simp_all))
  · have HE := hide (hno (by omega))
    clear hP hno
    go_enter Tryz.func97, Tryz.ntmps97
    go_wp2
    all_goals (go_ret; first | exact ⟨ret_bool (unhide HE).symm, (Below.refl _ _).alloc (Nat.le_refl _) _⟩ | (exfalso; first | omega | simp_all))
set_option maxHeartbeats 2000000 in
theorem refSum_any (q : Option Addr) (c : Nat) (l : List UInt8) (w : World) (h : SlOf encB 1 w q c l) (hl : l.length ≤ 1000000000000000) :
    Calls Tryz.prog 127 #[.slice q l.length c] w fun e w' => e = .returned (.int .u32 ((sumB l : Nat) : Int)) ∧ w' = w := by
  go_enter Tryz.func127, Tryz.ntmps127
  go_wp2
  go_loopw [3, 4] (fun v i wr => ∃ k : Nat, k ≤ l.length ∧ i = .int .i64 (k : Int) ∧ v = .int .u32 ((crc 4294967295 (l.take k) : Nat) : Int) ∧ wr = w) (fun _ i _ => l.length - (intOf i).toNat)
  case atStart => exact ⟨0, Nat.zero_le _, rfl, rfl, rfl⟩
  case round =>
    obtain ⟨k, hk, rfl, rfl, rfl⟩ := hrel
    have hlt0 := crc_lt (l.take k) (s := 4294967295) (by omega)
    by_cases hlt : k < l.length
    · obtain ⟨y, hy, _⟩ := get_at hlt
      obtain ⟨b, off, hq, hb, c0⟩ := byteAt h hy
      have hs2 := hide (show crc 4294967295 (l.take (k + 1)) = stirs 8 (crc 4294967295 (l.take k) ^^^ y.toNat) by rw [take_snoc_of hy, crc_snoc])
      generalize crc 4294967295 (l.take k) = A at hs2 hlt0 ⊢
      have e1 := wrap32 y.toNat (byte_lt y)
      have e2 := u32x A y.toNat hlt0 (byte_lt y)
      have hT := xor_lt hlt0 (byte_lt y)
      generalize A ^^^ y.toNat = T at hs2 e2 hT
      have ki0 : (0 : Int) ≤ (k : Int) := by omega
      have ki1 : (k : Int) < (l.length : Int) := by omega
      subst hq
      clear h hy
      go_wp2
      go_loopw [3, 5] (fun v i wr' => ∃ m : Nat, m ≤ 8 ∧ i = .int .i64 (m : Int) ∧ v = .int .u32 ((stirs m T : Nat) : Int) ∧ wr' = wr) (fun _ i _ => 8 - (intOf i).toNat)
      case atStart => exact ⟨0, Nat.zero_le _, rfl, rfl, rfl⟩
      case round =>
        obtain ⟨m, hm, rfl, rfl, rfl⟩ := hrel
        have hlt1 := stirs_lt m hT
        have hsn := hide (stirs_snoc m T)
        generalize hTT : stirs m T = t at hlt1 hsn ⊢
        have HT := hide hTT
        clear hTT
        obtain ⟨u, hu⟩ : ∃ u : Nat, t / 2 = u := ⟨_, rfl⟩
        have g1 : (t : Int) % 2 = ((t % 2 : Nat) : Int) := by omega
        have g2 : bits .xor .u32 (u : Int) 3988292384 = ((u ^^^ 3988292384 : Nat) : Int) := u32x u 3988292384 (by omega) (by omega)
        have g3 : (t : Int) / 2 = (u : Int) := by omega
        by_cases hm8 : m < 8
        · have hm8' : (m : Int) < 8 := by omega
          by_cases ho : t % 2 = 1
          · have hs1 := hide (show stir1 t = u ^^^ 3988292384 by unfold stir1; rw [if_pos ho, hu])
            have ho' : ((t % 2 : Nat) : Int) = 1 := by omega
            rw [ho'] at g1
            clear ho ho' hu
            go_wp2
            go_roundw
            case rel => exact ⟨m + 1, by omega, by go_num, by rw [unhide hsn, unhide hs1], trivial⟩
            case measure => simp [intOf]; omega
          · have hs1 := hide (show stir1 t = u by unfold stir1; rw [if_neg ho, hu])
            have ho' : ((t % 2 : Nat) : Int) = 0 := by omega
            rw [ho'] at g1
            clear ho ho' hu
            go_wp2
            go_roundw
            case rel => exact ⟨m + 1, by omega, by go_num, by rw [unhide hsn, unhide hs1], trivial⟩
            case measure => simp [intOf]; omega
        · obtain rfl : m = 8 := by omega
          go_wp2
          go_roundw
          case rel => exact ⟨k + 1, by omega, by go_num, by rw [unhide hs2, unhide HT], trivial⟩
          case measure => simp [intOf]; omega
    · obtain rfl : k = l.length := by omega
      rw [List.take_length] at hlt0 ⊢
      have e2 : bits .xor .u32 ((crc 4294967295 l : Nat) : Int) 4294967295 = ((crc 4294967295 l ^^^ 4294967295 : Nat) : Int) := u32x (crc 4294967295 l) 4294967295 hlt0 (by omega)
      have HS := hide (show sumB l = crc 4294967295 l ^^^ 4294967295 from rfl)
      have ki1 : ¬ (l.length : Int) < (l.length : Int) := by omega
      generalize crc 4294967295 l = A at e2 HS ⊢
      clear h
      go_wp2
      go_ret
      exact ⟨ret_int (by rw [unhide HS]), rfl⟩
theorem slice_lh (q : Option Addr) (c N L G : Nat) (h1 : L ≤ G) (h2 : G ≤ c) (W : World) : (Instr.sliceAt 40 (.slice q N c) (some (.int .i64 (L : Int))) (some (.int .i64 (G : Int))) none).run Tryz.prog W = .ok (.slice (cutA q c L) (G - L) (c - L)) W := by
  have u := Tryz.underlying40
  have g1 : (L : Int) ≤ (G : Int) := by omega
  have g2 : (G : Int) ≤ (c : Int) := by omega
  by_cases hc : c = L
  · subst hc
    rw [cutA_same]
    go_simp
  · rw [cutA_ne q hc]
    go_simp
theorem slice_l (q : Option Addr) (c N L : Nat) (h1 : L ≤ N) (h2 : N ≤ c) (W : World) : (Instr.sliceAt 40 (.slice q N c) (some (.int .i64 (L : Int))) none none).run Tryz.prog W = .ok (.slice (cutA q c L) (N - L) (c - L)) W := by
  have u := Tryz.underlying40
  have g1 : (L : Int) ≤ (N : Int) := by omega
  have g2 : (N : Int) ≤ (c : Int) := by omega
  by_cases hc : c = L
  · subst hc
    rw [cutA_same]
    go_simp
  · rw [cutA_ne q hc]
    go_simp
end Go.Proofs.YtfigjfmldpfjkaaGreat
namespace Go.Proofs.YtfigjfmldpfjkaaGreat
open Go.RowKit Go.Sort Go.Shelf

set_option maxHeartbeats 1000000 in
theorem refVint (n : Nat) (w : World) (hn : n ≤ 4611686018427387904) :
    Calls Tryz.prog 112 #[.int .i64 (n : Int)] w fun e w' => (∃ q' cap', e = .returned (.slice q' (vint n).length cap') ∧ OwnK encB 5 1 w.heap.size w' q' cap' (vint n)) ∧ Below w.heap.size w w' := by
  have hv := vint_len9 n hn
  obtain ⟨R, hR⟩ : ∃ R, vint n = R := ⟨_, rfl⟩
  have hRl : R.length ≤ 9 := by rw [← hR]; exact hv
  rw [hR]
  have HR := hide hR
  clear hR hv
  go_enter Tryz.func112, Tryz.ntmps112
  go_wp2
  go_loopw [0, 3] (fun i v wr => ∃ (m : List UInt8) (k : Nat) (q' : Option Addr) (cap' : Nat), k ≤ 4611686018427387904 ∧ v = .slice q' m.length cap' ∧ i = .int .i64 (k : Int) ∧ Hid (OwnK encB 5 1 w.heap.size wr q' cap' m) ∧ Hid (m ++ vint k = R) ∧ Hid (Below w.heap.size w wr)) (fun i _ _ => (intOf i).toNat)
  case atStart => exact ⟨[], n, none, 0, hn, rfl, rfl, hide (OwnK.nil _ _), HR, hide (Below.refl _ _)⟩
  case round =>
    obtain ⟨m, k, q', cap', hk, rfl, rfl, HOm, HE, HB⟩ := hrel
    have hs := (unhide HB).size
    have hvp := vint_len_pos k
    have hml : m.length + 1 ≤ 9 := by have := congrArg List.length (unhide HE); simp at this; omega
    by_cases h1 : k < 128
    · have hE := unhide HE
      rw [vint_lt h1] at hE
      obtain ⟨y, hy⟩ : ∃ y, UInt8.ofNat k = y := ⟨_, rfl⟩
      rw [hy] at hE
      have HE' := hide hE
      have e1 : IntKind.u8.wrap (k : Int) = (y.toNat : Int) := by rw [low_byte, ← hy, toNat_of]
      have hle : ¬ (128 : Int) ≤ (k : Int) := by omega
      clear hE hy HE hvp
      go_wp2_with (at_builtin; refine wpList_app rowB rfl _ _ rfl w.heap.size q' cap' m (some ⟨wr.heap.size, 0, none⟩) 1 [y] m.length 1 (m.length + 1) rfl rfl rfl rfl rfl ((unhide HOm).grow _) (srcA _ _ [y]) (by unfold maxLen; omega) (by omega) (by simp; omega) ?_; intro q2 c2 w2 ho2 hb2 _ _; have O2 := hide ho2; have B2 := hide ((unhide HB).trans (((Below.refl w.heap.size wr).alloc (by omega) _).trans hb2)); clear ho2 hb2)
      go_ret
      rw [← unhide HE']
      exact ⟨⟨q2, c2, by simp, unhide O2⟩, unhide B2⟩
    · have hE := unhide HE
      rw [vint_ge h1] at hE
      obtain ⟨y, hy⟩ : ∃ y, UInt8.ofNat (k % 128 + 128) = y := ⟨_, rfl⟩
      rw [hy, List.append_cons] at hE
      have HE' := hide hE
      obtain ⟨u, hu⟩ : ∃ u, k / 128 = u := ⟨_, rfl⟩
      rw [hu] at HE'
      obtain ⟨v, hv⟩ : ∃ v, k % 128 = v := ⟨_, rfl⟩
      have e0 : (k : Int).tmod 128 = (v : Int) := by rw [Int.tmod_eq_emod_of_nonneg (by omega)]; omega
      have e0' : (k : Int) % 128 = (v : Int) := by omega
      have e2 : IntKind.u8.wrap ((v : Int) + 128) = (y.toNat : Int) := by
        rw [← hy, toNat_of, hv, IntKind.wrap_u8']; omega
      have e3 : (k : Int) / 128 = (u : Int) := by omega
      have e4 : (k : Int).tdiv 128 = (u : Int) := by rw [Int.tdiv_eq_ediv_of_nonneg (by omega)]; omega
      have hgt : (128 : Int) ≤ (k : Int) := by omega
      have hvb : (v : Int) ≤ 127 := by omega
      have hun : u < k := by omega
      have hk2 : u ≤ 4611686018427387904 := by omega
      clear hE hy HE hu hv hvp
      go_wp2_with (at_builtin; refine wpList_app rowB rfl _ _ rfl w.heap.size q' cap' m (some ⟨wr.heap.size, 0, none⟩) 1 [y] m.length 1 (m.length + 1) rfl rfl rfl rfl rfl ((unhide HOm).grow _) (srcA _ _ [y]) (by unfold maxLen; omega) (by omega) (by simp; omega) ?_; intro q2 c2 w2 ho2 hb2 _ _; have O2 := hide ho2; have B2 := hide ((unhide HB).trans (((Below.refl w.heap.size wr).alloc (by omega) _).trans hb2)); clear ho2 hb2)
      go_roundw
      case rel => exact ⟨m ++ [y], u, q2, c2, hk2, by simp, rfl, O2, HE', B2⟩
      case measure => simp [intOf]; omega
set_option maxHeartbeats 1000000 in
theorem refSealed (q : Option Addr) (c : Nat) (l : List UInt8) (w : World) (h : SlOf encB 1 w q c l) (hl : l.length ≤ 100000000000000) :
    Calls Tryz.prog 111 #[.slice q l.length c] w fun e w' => (∃ q' cap', e = .returned (.slice q' (sealB l).length cap') ∧ OwnK encB 5 1 w.heap.size w' q' cap' (sealB l)) ∧ Below w.heap.size w w' := by
  have hs := refSum_any q c l w h (by omega)
  have hlt := sumB_lt l
  have HSB := hide (show sealB l = [] ++ l ++ four (sumB l) from by unfold sealB; simp)
  generalize hS : sumB l = S at hs hlt HSB
  have e0 := wrap8 S
  have d1 : (S : Int) / 256 = ((S / 256 : Nat) : Int) := by omega
  have d2 : (S : Int) / 65536 = ((S / 65536 : Nat) : Int) := by omega
  have d3 : (S : Int) / 16777216 = ((S / 16777216 : Nat) : Int) := by omega
  have e1 := wrap8 (S / 256)
  have e2 := wrap8 (S / 65536)
  have e3 := wrap8 (S / 16777216)
  unfold four at HSB
  generalize S / 256 = S1 at *
  generalize S / 65536 = S2 at *
  generalize S / 16777216 = S3 at *
  generalize UInt8.ofNat S = y0 at *
  generalize UInt8.ofNat S1 = y1 at *
  generalize UInt8.ofNat S2 = y2 at *
  generalize UInt8.ofNat S3 = y3 at *
  have HS := hide h
  clear h hS
  go_enter Tryz.func111, Tryz.ntmps111
  go_wp2_with (first
    | (go_at_call 127; refine hs.mono ?_; rintro e w1 ⟨rfl, hw1⟩; obtain rfl := hw1.symm)
    | (at_builtin; refine wpList_app rowB rfl (.tmp 6) (.tmp 7) rfl w.heap.size (some ⟨w.heap.size, 0, none⟩) 0 [] q c l 0 l.length l.length rfl rfl (by simp) rfl rfl (OwnK.made _ _ (Nat.le_refl _)) ((unhide HS).below ((Below.refl _ _).alloc (Nat.le_refl _) _)).src (by unfold maxLen; omega) (by omega) (by simp) ?_; intro q4 c4 w4 o4 b4 _ _; have O4 := hide o4; have B4 := hide (((Below.refl w.heap.size w).alloc (Nat.le_refl _) (.cells #[] 5)).trans b4); clear o4 b4)
    | (at_builtin; refine wpList_app rowB rfl (.tmp 8) (.tmp 20) rfl w.heap.size q4 c4 ([] ++ l) (some ⟨w4.heap.size, 0, none⟩) 4 [y0, y1, y2, y3] l.length 4 (l.length + 4) (by simp) rfl rfl rfl rfl ((unhide O4).grow _) (srcA _ _ [y0, y1, y2, y3]) (by unfold maxLen; omega) (by omega) (by have := (unhide B4).size; simp; omega) ?_; intro q5 c5 w5 o5 b5 _ _; have O5 := hide o5; have B5 := hide ((unhide B4).trans (((Below.refl w.heap.size w4).alloc (unhide B4).size _).trans b5)); clear o5 b5))
  go_ret
  rw [unhide HSB]
  exact ⟨⟨q5, c5, by simp, unhide O5⟩, unhide B5⟩
set_option maxHeartbeats 1000000 in
theorem refHead_no (n : Int) (hn : ¬ (1 ≤ n ∧ n ≤ 1099511627777)) (w : World) :
    Calls Tryz.prog 88 #[.int .i64 n] w fun e w' => e = .returned (.tuple #[.slice none 0 0, .int .i64 2]) ∧ w' = w := by
  by_cases h1 : n < 1
  · clear hn
    go_enter Tryz.func88, Tryz.ntmps88
    go_wp2
    refine bodyPost_ret (v := .tuple #[.slice none 0 0, .int .i64 2]) (by simp [results, Tryz.f88, go_sem]) rfl ?_
    exact ⟨rfl, rfl⟩
  · have h2 : 1099511627777 < n := by omega
    clear hn
    go_enter Tryz.func88, Tryz.ntmps88
    go_wp2
    refine bodyPost_ret (v := .tuple #[.slice none 0 0, .int .i64 2]) (by simp [results, Tryz.f88, go_sem]) rfl ?_
    exact ⟨rfl, rfl⟩
set_option maxHeartbeats 1000000 in
theorem refHead_yes (n : Nat) (h1 : 1 ≤ n) (h2 : n ≤ 1099511627777) (w : World) :
    Calls Tryz.prog 88 #[.int .i64 (n : Int)] w fun e w' => (∃ q c, e = .returned (.tuple #[.slice q (headB n).length c, .int .i64 0]) ∧ OwnK encB 5 1 w.heap.size w' q c (headB n)) ∧ Below w.heap.size w w' := by
  have g1 : ¬ (n : Int) < 1 := by omega
  have g2 : ¬ (1099511627777 : Int) < (n : Int) := by omega
  have hb0 : Below w.heap.size w (w.alloc (.cells #[.int .u8 72] 5)) := (Below.refl _ _).alloc (Nat.le_refl _) _
  have hv := refVint n (w.alloc (.cells #[.int .u8 72] 5)) (by omega)
  have hl := vint_len9 n (by omega)
  have hoa := hide (ownA w w.heap.size [72] (Nat.le_refl _) (by unfold maxLen; simp))
  have HB0 := hide hb0
  obtain ⟨V, hV⟩ : ∃ V, (vint n).length = V := ⟨_, rfl⟩
  simp only [hV] at hv
  obtain ⟨V1, hV1⟩ : ∃ V1, 1 + V = V1 := ⟨_, rfl⟩
  have HV := hide hV
  have HV1 := hide hV1
  have hV9 : V1 ≤ 10 := by omega
  have hse := fun (q : Option Addr) (c : Nat) (W : World) (hW : SlOf encB 1 W q c ([72] ++ vint n)) => refSealed q c ([72] ++ vint n) W hW (by simp; omega)
  rw [show (([72] : List UInt8) ++ vint n).length = V1 by rw [← hV1, ← hV]; simp; omega, show sealB ([72] ++ vint n) = headB n from rfl] at hse
  clear hb0 hl hV hV1
  go_enter Tryz.func88, Tryz.ntmps88
  go_wp2_with (first
    | (go_at_call 112; refine hv.mono ?_; rintro e w2 ⟨⟨q2, c2, rfl, o2⟩, b2⟩; have O2 := hide o2.ls; have A2 := hide ((unhide hoa).below b2); have B2 := hide (below_sub (unhide HB0) b2); clear o2 b2)
    | (at_builtin; refine wpList_app rowB rfl _ _ rfl w.heap.size (some ⟨w.heap.size, 0, none⟩) 1 [72] q2 c2 (vint n) 1 V V1 rfl (unhide HV) (unhide HV1) rfl rfl (unhide A2) (unhide O2).src (by unfold maxLen; omega) (by omega) (unhide B2).size ?_; intro q3 c3 w3 o3 b3 _ _; have O3 := hide o3.ls; have B3 := hide ((unhide B2).trans b3); clear o3 b3)
    | (go_at_call 111; refine (hse _ _ _ (unhide O3)).mono ?_; rintro e w4 ⟨⟨q4, c4, rfl, o4⟩, b4⟩; have O4 := hide (o4.mono (unhide B3).size); have B4 := hide ((unhide B3).trans (b4.mono (unhide B3).size)); clear o4 b4))
  refine bodyPost_ret (v := .tuple #[.slice q4 (headB n).length c4, .int .i64 0]) (by simp [results, Tryz.f88, go_sem]) rfl ?_
  exact ⟨⟨q4, c4, rfl, unhide O4⟩, unhide B4⟩
end Go.Proofs.YtfigjfmldpfjkaaGreat
namespace Go.Proofs.YtfigjfmldpfjkaaGreat
open Go.RowKit Go.Sort Go.Shelf

set_option maxHeartbeats 1000000 in
set_option maxRecDepth 100000 in
theorem refOne (c : Ch) (hc : MayB c) (w : World) :
    Calls Tryz.prog 98 #[.agg #[.int .i64 c.kind, .int .i64 c.id, .string c.text]] w fun e w' => (∃ q cap, e = .returned (.slice q (oneB c).length cap) ∧ OwnK encB 5 1 w.heap.size w' q cap (oneB c)) ∧ Below w.heap.size w w' := by
  obtain ⟨k, n, hk, hn, hn2, ht⟩ := may_nums hc
  have hbl := body_len c hc
  obtain ⟨kind, id, text⟩ := c
  simp only at hk hn ht ⊢
  subst hk hn
  obtain ⟨body, hbody⟩ : ∃ b, bodyB ⟨(k : Int), (n : Int), text⟩ = b := ⟨_, rfl⟩
  have hbd : UInt8.ofNat k :: (vint n ++ text.data.toList) = body := hbody
  rw [hbody] at hbl
  rw [show oneB ⟨(k : Int), (n : Int), text⟩ = recB body by unfold oneB; rw [hbody]]
  have e1 := wrap8 k
  generalize hy : UInt8.ofNat k = y at hbd e1
  have hv9 := vint_len9 n hn2
  obtain ⟨z, hz⟩ : ∃ z, w.alloc (.cells #[.int .i64 (k : Int), .int .i64 (n : Int), .string text] 63) = z := ⟨_, rfl⟩
  have bz : Below w.heap.size w z := by rw [← hz]; exact (Below.refl _ _).alloc (Nat.le_refl _) _
  have blk : z.heap[w.heap.size]? = some (.cells #[.int .i64 (k : Int), .int .i64 (n : Int), .string text] 63 (0, 0)) := by rw [← hz]; exact heap_alloc_new _ _
  have hzs : z.heap.size = w.heap.size + 1 := by rw [← hz]; simp
  obtain ⟨⟨a0, a1, a2⟩, _⟩ := cells3 blk
  have keepS : ∀ W, Below z.heap.size z W → (W.cell? ⟨w.heap.size, 0, none⟩ = some (.int .i64 (k : Int)) ∧ W.cell? ⟨w.heap.size, 1, none⟩ = some (.int .i64 (n : Int))) ∧ W.cell? ⟨w.heap.size, 2, none⟩ = some (.string text) := fun W h => by
    obtain ⟨⟨h0, h1, h2⟩, _⟩ := cells3 ((h.block w.heap.size (by omega)).trans blk)
    exact ⟨⟨h0, h1⟩, h2⟩
  obtain ⟨V, hV⟩ : ∃ V, (vint n).length = V := ⟨_, rfl⟩
  obtain ⟨N1, hN1⟩ : ∃ N1, 1 + V = N1 := ⟨_, rfl⟩
  obtain ⟨N2, hN2⟩ : ∃ N2, N1 + text.size = N2 := ⟨_, rfl⟩
  have hbN : body.length = N2 := by rw [← hbd, ← hN2, ← hN1, ← hV]; have : text.data.size = text.size := rfl; simp; omega
  have hv := fun (W : World) => refVint n W hn2
  simp only [hV] at hv
  have hvA := hv (z.alloc (.cells #[.int .u8 (y.toNat : Int)] 5)).drew
  have hvB := hv z.drew
  have bA : Below z.heap.size z (z.alloc (.cells #[.int .u8 (y.toNat : Int)] 5)).drew := ((Below.refl _ _).alloc (Nat.le_refl _) _).drew
  have bB : Below z.heap.size z z.drew := (Below.refl _ _).drew
  have oA : OwnK encB 5 1 z.heap.size (z.alloc (.cells #[.int .u8 (y.toNat : Int)] 5)).drew (some ⟨z.heap.size, 0, none⟩) 1 [y] := ownA z z.heap.size [y] (Nat.le_refl _) (by unfold maxLen; simp)
  have HBD := hide (show [y] ++ vint n ++ text.data.toList = body from hbd)
  have HKS := hide keepS
  have HZS := hide hzs
  have BZ := hide bz
  have HV := hide hV
  have HN1 := hide hN1
  have HN2 := hide hN2
  have HBN := hide hbN
  have HA := hide bA
  have HBB := hide bB
  have HOA := hide oA
  have hN1b : N1 ≤ 10 := by omega
  have hN2b : N2 ≤ 4110 := by omega
  have hNW : Hid (([y] ++ vint n).length = N1) := hide (by rw [← hN1, ← hV]; simp; omega)
  clear hbody hy hbd hbl hc hv bz blk hzs keepS hV hN1 hN2 hbN bA bB oA hv9 ht
  go_enter Tryz.func98, Tryz.ntmps98
  go_wp2
  go_cut [3] from 4 (fun v V => ∃ q cap, v = .slice q N2 cap ∧ Hid (SlOf encB 1 V q cap body) ∧ Hid (Below z.heap.size z V))
  case first =>
    go_region_held3 (fun W => (W.cell? ⟨w.heap.size, 0, none⟩ = some (.int .i64 (k : Int)) ∧ W.cell? ⟨w.heap.size, 1, none⟩ = some (.int .i64 (n : Int))) ∧ W.cell? ⟨w.heap.size, 2, none⟩ = some (.string text))
      (first | exact unhide HKS _ (unhide C4) | exact unhide HKS _ (unhide C3) | exact unhide HKS _ (unhide C2) | exact unhide HKS _ (unhide C1) | exact unhide HKS _ (unhide HA) | exact unhide HKS _ (unhide HBB))
      ((first
        | (go_at_call 112; (with_reducible refine hvA.mono ?_); rintro e w2 ⟨⟨q2, c2, rfl, o2⟩, b2⟩; have O2 := hide o2.ls; have P2 := hide ((unhide HOA).below b2); have C2 := hide ((unhide HA).trans (b2.mono (unhide HA).size)); clear o2 b2)
        | (go_at_call 112; (with_reducible refine hvB.mono ?_); rintro e w2 ⟨⟨q2, c2, rfl, o2⟩, b2⟩; have O2 := hide (o2.ls.below ((Below.refl w2.heap.size w2).alloc (Nat.le_refl _) (.cells #[.int .u8 (y.toNat : Int)] 5))); have C2' := (unhide HBB).trans (b2.mono (unhide HBB).size); have C1 := hide C2'; have P2 := hide (ownA w2 z.heap.size [y] C2'.size (by unfold maxLen; simp)); have C2 := hide (C2'.alloc C2'.size (.cells #[.int .u8 (y.toNat : Int)] 5)); clear o2 b2 C2')
        | (refine step_app rowB (by rfl) (.tmp 7) (.tmp 10) (by rfl) z.heap.size (some ⟨z.heap.size, 0, none⟩) 1 [y] q2 c2 (vint n) 1 V N1 rfl (unhide HV) (unhide HN1) (by rfl) (by rfl) (unhide P2) (unhide O2).src (by unfold maxLen; omega) (by omega) (unhide C2).size ?_; intro q3 c3 w3 o3 b3 _ _; have O3 := hide o3; have C3 := hide ((unhide C2).trans b3); clear o3 b3)
        | (refine step_app rowB (by rfl) (.tmp 7) (.tmp 10) (by rfl) z.heap.size (some ⟨w2.heap.size, 0, none⟩) 1 [y] q2 c2 (vint n) 1 V N1 rfl (unhide HV) (unhide HN1) (by rfl) (by rfl) (unhide P2) (unhide O2).src (by unfold maxLen; omega) (by omega) (unhide C2).size ?_; intro q3 c3 w3 o3 b3 _ _; have O3 := hide o3; have C3 := hide ((unhide C2).trans b3); clear o3 b3)
        | (refine step_appS (by rfl) (.tmp 11) (.tmp 13) (by rfl) z.heap.size q3 c3 ([y] ++ vint n) text N1 N2 (unhide hNW) (unhide HN2) (by rfl) (by rfl) (unhide O3) (by omega) (unhide C3).size ?_; intro q4 c4 w4 o4 b4; have O4 := hide o4; have C4 := hide ((unhide C3).trans b4); clear o4 b4)))
    all_goals
      go_wp2
      go_meet
      exact ⟨q4, c4, rfl, hide (by have h := (unhide O4).ls; rw [unhide HBD] at h; exact h), C4⟩
  case rest =>
    clear hvA hvB a0 a1 a2 hz
    obtain ⟨q4, c4, rfl, HS4, C4⟩ := hcut
    obtain ⟨X, rfl⟩ : ∃ X, X = wc := ⟨_, rfl⟩
    have hb0 : Below X.heap.size X (X.alloc (.cells #[.int .u8 67] 5)) := (Below.refl _ _).alloc (Nat.le_refl _) _
    have hv := refVint N2 (X.alloc (.cells #[.int .u8 67] 5)) (by omega)
    have hoa := hide (ownA X X.heap.size [67] (Nat.le_refl _) (by unfold maxLen; simp))
    have HB0 := hide hb0
    have hv9 := vint_len9 N2 (by omega)
    obtain ⟨V2, hV2⟩ : ∃ V2, (vint N2).length = V2 := ⟨_, rfl⟩
    simp only [hV2] at hv
    obtain ⟨N3, hN3⟩ : ∃ N3, 1 + V2 = N3 := ⟨_, rfl⟩
    obtain ⟨N4, hN4⟩ : ∃ N4, N3 + N2 = N4 := ⟨_, rfl⟩
    have h67 : (([67] : List UInt8) ++ vint N2).length = N3 := by rw [← hN3, ← hV2]; simp; omega
    have hse := fun (q : Option Addr) (c : Nat) (W : World) (hW : SlOf encB 1 W q c ([67] ++ vint N2 ++ body)) => refSealed q c ([67] ++ vint N2 ++ body) W hW (by rw [List.length_append, h67, unhide HBN]; omega)
    rw [show (([67] : List UInt8) ++ vint N2 ++ body).length = N4 by rw [List.length_append, h67, unhide HBN, hN4], show sealB ([67] ++ vint N2 ++ body) = recB body by unfold recB; rw [unhide HBN]; rfl] at hse
    have HV2 := hide hV2
    have HN3 := hide hN3
    have HN4 := hide hN4
    have H67 := hide h67
    have hN4b : N4 ≤ 5000 := by omega
    have hN3b : N3 ≤ 10 := by omega
    clear hb0 hV2 hN3 hN4 h67 hv9
    go_wp2_with (first
      | (go_at_call 112; refine hv.mono ?_; rintro e w5 ⟨⟨q5, c5, rfl, o5⟩, b5⟩; have O5 := hide o5.ls; have P5 := hide ((unhide hoa).below b5); have B5 := hide (below_sub (unhide HB0) b5); clear o5 b5)
      | (at_builtin; refine wpList_app rowB rfl (.tmp 15) (.tmp 18) rfl X.heap.size (some ⟨X.heap.size, 0, none⟩) 1 [67] q5 c5 (vint N2) 1 V2 N3 rfl (unhide HV2) (unhide HN3) rfl rfl (unhide P5) (unhide O5).src (by unfold maxLen; omega) (by omega) (unhide B5).size ?_; intro q6 c6 w6 o6 b6 _ _; have O6 := hide o6; have B6 := hide ((unhide B5).trans b6); clear o6 b6)
      | (at_builtin; refine wpList_app rowB rfl (.tmp 19) (.tmp 20) rfl X.heap.size q6 c6 ([67] ++ vint N2) q4 c4 body N3 N2 N4 (unhide H67) (unhide HBN) (unhide HN4) rfl rfl (unhide O6) ((unhide HS4).below (unhide B6)).src (by unfold maxLen; omega) (by omega) (unhide B6).size ?_; intro q7 c7 w7 o7 b7 _ _; have O7 := hide o7.ls; have B7 := hide ((unhide B6).trans b7); clear o7 b7)
      | (go_at_call 111; refine (hse _ _ _ (unhide O7)).mono ?_; rintro e w8 ⟨⟨q8, c8, rfl, o8⟩, b8⟩; have O8 := hide o8; have B8 := hide ((unhide B7).trans (b8.mono (unhide B7).size)); have S7 := hide (unhide B7).size; clear o8 b8))
    go_ret
    have hzw : w.heap.size ≤ z.heap.size := by have := unhide HZS; omega
    have hbX := (unhide BZ).trans ((unhide C4).mono hzw)
    exact ⟨⟨q8, c8, rfl, (unhide O8).mono (Nat.le_trans hbX.size (unhide S7))⟩, hbX.trans ((unhide B8).mono hbX.size)⟩
end Go.Proofs.YtfigjfmldpfjkaaGreat
namespace Go.Proofs.YtfigjfmldpfjkaaGreat
open Go.RowKit Go.Sort Go.Shelf

instance (cs : List Ch) : Decidable (∀ c ∈ cs, MayB c) := inferInstance
/-- What Encode and Head answer: bytes and an error. -/
def encOo (cs : List Ch) : List UInt8 := if ∀ c ∈ cs, MayB c then encs cs else []
def encE (cs : List Ch) : Int := if ∀ c ∈ cs, MayB c then 0 else 1
def headO (n : Int) : List UInt8 := if 1 ≤ n ∧ n ≤ 1099511627777 then headB n.toNat else []
def headE (n : Int) : Int := if 1 ≤ n ∧ n ≤ 1099511627777 then 0 else 2
theorem encR_one {B : Nat} {cs : List Ch} {e : Ending} {w' : World} (h : EncR B cs e w') : ∃ q cap, e = .returned (.tuple #[.slice q (encOo cs).length cap, .int .i64 (encE cs)]) ∧ OwnK encB 5 1 B w' q cap (encOo cs) := by
  unfold encOo encE
  rcases h with ⟨hm, q, cap, he, ho⟩ | ⟨hn, he⟩
  · rw [if_pos hm, if_pos hm]; exact ⟨q, cap, he, ho⟩
  · rw [if_neg hn, if_neg hn]; exact ⟨none, 0, he, OwnK.nil _ _⟩
theorem encOo_len (cs : List Ch) : (encOo cs).length ≤ cs.length * 4130 := by
  unfold encOo
  split
  · rename_i h; exact encs_len cs h
  · simp
theorem headO_len (n : Int) : (headO n).length ≤ 20 := by
  unfold headO
  split
  · rename_i h; exact head_len _ (by omega)
  · simp
theorem encode_one (q : Option Addr) (cp : Nat) (cs : List Ch) (w : World) (h : SlOf encC 3 w q cp cs) (hn : cs.length ≤ 10000000000) :
    Calls Tryz.prog 35 #[.slice q cs.length cp] w fun e w' => (∃ q cap, e = .returned (.tuple #[.slice q (encOo cs).length cap, .int .i64 (encE cs)]) ∧ OwnK encB 5 1 w.heap.size w' q cap (encOo cs)) ∧ Below w.heap.size w w' :=
  (encode_any q cp cs w h hn).mono (by rintro e w' ⟨h1, h2⟩; exact ⟨encR_one h1, h2⟩)
theorem head_one (n : Int) (w : World) :
    Calls Tryz.prog 71 #[.int .i64 n] w fun e w' => (∃ q cap, e = .returned (.tuple #[.slice q (headO n).length cap, .int .i64 (headE n)]) ∧ OwnK encB 5 1 w.heap.size w' q cap (headO n)) ∧ Below w.heap.size w w' := by
  unfold headO headE
  by_cases h : 1 ≤ n ∧ n ≤ 1099511627777
  · rw [if_pos h, if_pos h]
    have := head_yes n.toNat (by omega) (by omega) w
    rw [show ((n.toNat : Nat) : Int) = n by omega] at this
    exact this
  · rw [if_neg h, if_neg h]
    exact (head_no n h w).mono (by rintro e w' ⟨rfl, rfl⟩; exact ⟨⟨none, 0, rfl, OwnK.nil _ _⟩, Below.refl _ _⟩)
theorem refHead_one (n : Int) (w : World) :
    Calls Tryz.prog 88 #[.int .i64 n] w fun e w' => (∃ q cap, e = .returned (.tuple #[.slice q (headO n).length cap, .int .i64 (headE n)]) ∧ OwnK encB 5 1 w.heap.size w' q cap (headO n)) ∧ Below w.heap.size w w' := by
  unfold headO headE
  by_cases h : 1 ≤ n ∧ n ≤ 1099511627777
  · rw [if_pos h, if_pos h]
    have := refHead_yes n.toNat (by omega) (by omega) w
    rw [show ((n.toNat : Nat) : Int) = n by omega] at this
    exact this
  · rw [if_neg h, if_neg h]
    exact (refHead_no n h w).mono (by rintro e w' ⟨rfl, rfl⟩; exact ⟨⟨none, 0, rfl, OwnK.nil _ _⟩, Below.refl _ _⟩)
set_option maxHeartbeats 1000000 in
theorem refEncode (q : Option Addr) (cp : Nat) (cs : List Ch) (w : World) (h : SlOf encC 3 w q cp cs) (hn : cs.length ≤ 10000000000) :
    Calls Tryz.prog 64 #[.slice q cs.length cp] w fun e w' => EncR w.heap.size cs e w' ∧ Below w.heap.size w w' := by
  have hm := fun (c : Ch) (W : World) => refMay_any c W
  have hw := fun (c : Ch) (hc : MayB c) (W : World) => refOne c hc W
  go_enter Tryz.func64, Tryz.ntmps64
  go_wp2
  go_loopw [4, 5] (fun v i wr => ∃ (k N : Nat) (q' : Option Addr) (cap' : Nat), k ≤ cs.length ∧ i = .int .i64 (k : Int) ∧ v = .slice q' N cap' ∧ Hid (N = (encs (cs.take k)).length) ∧ Hid (OwnK encB 5 1 w.heap.size wr q' cap' (encs (cs.take k))) ∧ Hid (∀ c ∈ cs.take k, MayB c) ∧ Hid (Below w.heap.size w wr)) (fun _ i _ => cs.length - (intOf i).toNat)
  case atStart => exact ⟨0, 0, none, 0, Nat.zero_le _, rfl, rfl, hide (by simp [encs]), hide (OwnK.nil _ _), hide (by simp), hide (Below.refl _ _)⟩
  case round =>
    obtain ⟨k, N, q', cap', hk, rfl, rfl, HN, HO, HM, HB⟩ := hrel
    by_cases hlt : k < cs.length
    · obtain ⟨x, hx, _⟩ := get_at hlt
      have hSW := h.below (unhide HB)
      obtain ⟨b, off, hq, hb, c0, c1, c2⟩ := changeAt hSW hx
      have hat := fun (W : World) (hW : Below wr.heap.size wr W) => changeAt (hSW.below hW) hx
      subst hq
      have HT := hide (take_snoc_of hx)
      have HX := hide (List.mem_of_getElem? hx)
      have ki0 : (0 : Int) ≤ (k : Int) := by omega
      have ki1 : (k : Int) < (cs.length : Int) := by omega
      have hsB := (unhide HB).size
      have hm1 := hm x wr
      have hnl := encs_len (cs.take k) (unhide HM)
      have hnl2 : (cs.take k).length ≤ k := List.length_take_le _ _
      by_cases hmay : MayB x
      · have hol := one_lenR x hmay
        have hw1 := hw x hmay
        rw [decide_eq_true hmay] at hm1
        have hN := unhide HN
        have hNb : N + (oneB x).length ≤ 50000000000000 := by omega
        have HM2 := hide (show ∀ c ∈ cs.take (k + 1), MayB c by
          rw [unhide HT]; intro c hc
          rcases List.mem_append.1 hc with h | h
          · exact unhide HM c h
          · obtain rfl : c = x := by simpa using h
            exact hmay)
        have HAT : Hid (∀ W : World, Below wr.heap.size wr W → W.cell? ⟨b, off + k * 3, none⟩ = some (.int .i64 x.kind) ∧ W.cell? ⟨b, off + k * 3 + 1, none⟩ = some (.int .i64 x.id) ∧ W.cell? ⟨b, off + k * 3 + 2, none⟩ = some (.string x.text)) := hide (fun W hW => by
          obtain ⟨b', off', hq', _, h0, h1, h2⟩ := hat W hW
          injection hq' with hq'
          injection hq' with e1 e2
          subst e1 e2
          exact ⟨h0, h1, h2⟩)
        clear h hm hw hnl hnl2 hN hSW hat
        go_wp2_with (first
          | (go_at_call 97; refine hm1.mono ?_; rintro e w1 ⟨rfl, b1⟩; obtain ⟨d0, d1, d2⟩ := unhide HAT _ b1; have B1 := hide b1; clear b1)
          | (go_at_call 98; refine (hw1 _).mono ?_; rintro e w2 ⟨⟨q2, c2', rfl, o2⟩, b2⟩; have O2 := hide o2; have B2 := hide (below_sub (unhide B1) b2); clear o2 b2)
          | (at_builtin; refine wpList_app rowB rfl _ _ rfl w.heap.size q' cap' (encs (cs.take k)) q2 c2' (oneB x) N (oneB x).length (N + (oneB x).length) (unhide HN).symm rfl rfl rfl rfl ((unhide HO).below (unhide B2)) (unhide O2).ls.src (by unfold maxLen; omega) (by omega) (by have := (unhide B2).size; omega) ?_; intro q3 c3 w3 o3 b3 _ _; have O3 := hide o3; have B3 := hide ((unhide HB).trans (((unhide B2).mono hsB).trans b3)); clear o3 b3))
        go_roundw
        case rel => exact ⟨k + 1, N + (oneB x).length, q3, c3, by omega, by go_num, rfl, hide (by rw [unhide HT, encs_snoc, List.length_append, ← unhide HN]), hide (by rw [unhide HT, encs_snoc]; exact unhide O3), HM2, B3⟩
        case measure => simp [intOf]; omega
      · rw [decide_eq_false hmay] at hm1
        have HNM := hide hmay
        clear h hm hw hnl hnl2 hmay hSW hat
        go_wp2_with (go_at_call 97; refine hm1.mono ?_; rintro e w1 ⟨rfl, b1⟩; have B1 := hide b1; clear b1)
        refine bodyPost_ret (v := .tuple #[.slice none 0 0, .int .i64 1]) (by simp [results, Tryz.f64, go_sem]) rfl ?_
        exact ⟨.inr ⟨fun hall => unhide HNM (hall x (unhide HX)), rfl⟩, (unhide HB).trans ((unhide B1).mono hsB)⟩
    · obtain rfl : k = cs.length := by omega
      have ki1 : ¬ (cs.length : Int) < (cs.length : Int) := by omega
      clear h hm hw
      go_wp2
      refine bodyPost_ret (v := .tuple #[.slice q' N cap', .int .i64 0]) (by simp [results, Tryz.f64, go_sem]) rfl ?_
      have h1 := unhide HN
      have h2 := unhide HO
      have h3 := unhide HM
      rw [List.take_length] at h1 h2 h3
      exact ⟨.inl ⟨h3, q', cap', by rw [h1], h2⟩, unhide HB⟩
theorem refEncode_one (q : Option Addr) (cp : Nat) (cs : List Ch) (w : World) (h : SlOf encC 3 w q cp cs) (hn : cs.length ≤ 10000000000) :
    Calls Tryz.prog 64 #[.slice q cs.length cp] w fun e w' => (∃ q cap, e = .returned (.tuple #[.slice q (encOo cs).length cap, .int .i64 (encE cs)]) ∧ OwnK encB 5 1 w.heap.size w' q cap (encOo cs)) ∧ Below w.heap.size w w' :=
  (refEncode q cp cs w h hn).mono (by rintro e w' ⟨h1, h2⟩; exact ⟨encR_one h1, h2⟩)
end Go.Proofs.YtfigjfmldpfjkaaGreat
namespace Go.Proofs.YtfigjfmldpfjkaaGreat
open Go.RowKit Go.Sort Go.Shelf

theorem varS_true (l : List UInt8) : ∀ (f i n a : Nat), (varS l f i n a true).2.2 = true := by
  intro f
  induction f with
  | zero => intro i n a; rfl
  | succ f ih =>
    intro i n a
    rw [varS_last l f i n a true (by rw [st1_torn]; exact (by decide : (0 : UInt8).toNat < 128))]
    simp [st1_torn]
/-- What the reference's read answers. -/
def RdR (l : List UInt8) (a most : Nat) (e : Ending) : Prop := ∃ (n p : Nat) (ok : Bool), e = .returned (.tuple #[.int .i64 (n : Int), .int .i64 (p : Int), .bool ok]) ∧ n ≤ 72057594037927936 ∧ p ≤ l.length + 10 ∧
  ((varS l 8 0 0 a false).2.2 = false → n = (varS l 8 0 0 a false).1 ∧ p = (varS l 8 0 0 a false).2.1 ∧ ok = decide ((varS l 8 0 0 a false).1 ≤ most)) ∧ ((varS l 8 0 0 a false).2.2 = true → ok = false)
set_option maxRecDepth 100000 in
set_option maxHeartbeats 1000000 in
theorem refRead (q : Option Addr) (cp : Nat) (l : List UInt8) (a most : Nat) (w : World) (h : SlOf encB 1 w q cp l) (hl : l.length ≤ 1000000000000000) (ha : a ≤ 10) :
    Calls Tryz.prog 87 #[.slice q l.length cp, .int .i64 (a : Int), .int .i64 (most : Int)] w fun e w' => RdR l a most e ∧ w' = w := by
  have HR : Hid (∀ (n p : Nat) (ok : Bool), n ≤ 72057594037927936 → p ≤ l.length + 10 → ((varS l 8 0 0 a false).2.2 = false → n = (varS l 8 0 0 a false).1 ∧ p = (varS l 8 0 0 a false).2.1 ∧ ok = decide ((varS l 8 0 0 a false).1 ≤ most)) → ((varS l 8 0 0 a false).2.2 = true → ok = false) → RdR l a most (.returned (.tuple #[.int .i64 (n : Int), .int .i64 (p : Int), .bool ok]))) := hide (fun n p ok h1 h2 h3 h4 => ⟨n, p, ok, rfl, h1, h2, h3, h4⟩)
  generalize RdR l a most = RR at HR ⊢
  obtain ⟨V, hV⟩ : ∃ V, varS l 8 0 0 a false = V := ⟨_, rfl⟩
  rw [hV] at HR
  have HV := hide hV
  have HS := hide h
  clear hV h
  go_enter Tryz.func87, Tryz.ntmps87
  go_wp2
  go_loopw [9, 10, 11] (fun v9 v10 v11 wr => ∃ (k n F : Nat), k ≤ 8 ∧ a + k ≤ max a l.length ∧ v9 = .int .i64 (n : Int) ∧ v10 = .int .i64 (F : Int) ∧ v11 = .int .i64 (k : Int) ∧ Hid (F = 2 ^ (7 * k)) ∧ Hid (n < 2 ^ (7 * k)) ∧ Hid (varS l (8 - k) k n (a + k) false = V) ∧ wr = w) (fun _ _ v11 _ => 8 - (intOf v11).toNat)
  case atStart => exact ⟨0, 0, 1, by omega, by omega, rfl, rfl, rfl, hide (by simp), hide (by simp), HV, rfl⟩
  case round =>
    obtain ⟨k, n, F, hk, hak, rfl, rfl, rfl, HF, HN, HE, rfl⟩ := hrel
    have hFb : F ≤ 72057594037927936 := by
      rw [unhide HF]
      have : 2 ^ (7 * k) ≤ 2 ^ 56 := Nat.pow_le_pow_right (by omega) (by omega)
      omega
    have hnF : n < F := by rw [unhide HF]; exact unhide HN
    obtain ⟨AK, hAK⟩ : ∃ AK, a + k = AK := ⟨_, rfl⟩
    have gAK : (a : Int) + (k : Int) = (AK : Int) := by omega
    have hAKb : (AK : Int) ≤ 2000000000000000 := by omega
    by_cases hin : k < 8 ∧ a + k < l.length
    · obtain ⟨hk8, hlt⟩ := hin
      obtain ⟨y, hy, _⟩ := get_at hlt
      obtain ⟨b, off, hq, hb, c0⟩ := byteAt (unhide HS) hy
      subst hq
      have hs := st1_yes hy
      obtain ⟨f, hf⟩ : ∃ f, 8 - k = f + 1 := ⟨7 - k, by omega⟩
      have hE := unhide HE
      rw [hf] at hE
      have hl1 := varS_last l f k n (a + k) false
      have hl2 := varS_more l f k n (a + k) false
      rw [hs] at hl1 hl2
      simp only at hl1 hl2
      obtain ⟨x, hx⟩ : ∃ x, y.toNat % 128 = x := ⟨_, rfl⟩
      have hyl := y.toNat_lt
      rw [hx, ← unhide HF] at hl1 hl2
      obtain ⟨P, hP⟩ : ∃ P, x * F = P := ⟨_, rfl⟩
      have hPb : P ≤ 127 * F := by rw [← hP]; exact Nat.mul_le_mul_right _ (by omega)
      have hF7 : k < 8 → F ≤ 562949953421312 := fun _ => by
        rw [unhide HF]
        have : 2 ^ (7 * k) ≤ 2 ^ 49 := Nat.pow_le_pow_right (by omega) (by omega)
        omega
      have hF8 := hF7 hk8
      rw [hP] at hl1 hl2
      obtain ⟨N2, hN2⟩ : ∃ N2, n + P = N2 := ⟨_, rfl⟩
      obtain ⟨F2, hF2⟩ : ∃ F2, F * 128 = F2 := ⟨_, rfl⟩
      rw [hN2] at hl1 hl2
      have hN2F : N2 < F2 := by omega
      have g1 : (y.toNat : Int).tmod 128 = (x : Int) := by rw [Int.tmod_eq_emod_of_nonneg (by omega)]; omega
      have g1' : (y.toNat : Int) % 128 = (x : Int) := by omega
      have g2 : (x : Int) * (F : Int) = (P : Int) := by rw [← hP]; simp
      have g3 : (n : Int) + (P : Int) = (N2 : Int) := by omega
      have g4 : (F : Int) * 128 = (F2 : Int) := by omega
      have g5 : (P : Int) ≤ 72057594037927936 := by omega
      have g6 : (N2 : Int) ≤ 72057594037927936 := by omega
      have g7 : (F2 : Int) ≤ 72057594037927936 := by omega
      have hk8i : (k : Int) < 8 := by omega
      have hlti : (AK : Int) < (l.length : Int) := by omega
      have hAK0 : (0 : Int) ≤ (AK : Int) := by omega
      have c0' : wr.cell? ⟨b, off + AK, none⟩ = some (.int .u8 (y.toNat : Int)) := by rw [← hAK]; exact c0
      have HF2 : Hid (F2 = 2 ^ (7 * (k + 1))) := hide (by rw [← hF2, unhide HF, show 7 * (k + 1) = 7 * k + 7 by omega, Nat.pow_add])
      have HN2F := hide hN2F
      have HAK := hide hAK
      by_cases hy128 : y.toNat < 128
      · rw [hl1 hy128] at hE
        have HE2 := hide hE
        have hyi : (y.toNat : Int) < 128 := by omega
        obtain ⟨good, hgood⟩ : ∃ good, (decide (0 < y.toNat) || decide (k = 0)) = good := ⟨_, rfl⟩
        have HGD := hide hgood
        clear hl1 hl2 hE hs hf hx hP hN2 hF2 hgood c0 hAK hy
        clear HGD good
        by_cases hmo2 : N2 ≤ most
        · have hmi : (N2 : Int) ≤ (most : Int) := by omega
          by_cases hy0 : 0 < y.toNat
          · have hy0i : (0 : Int) < (y.toNat : Int) := by omega
            have HG1 : (decide (0 < y.toNat) || decide (k = 0)) = true := by rw [decide_eq_true hy0]; rfl
            go_wp2
            refine bodyPost_ret (results_tmp3 rfl _ _ _) rfl ?_
            exact ⟨unhide HR N2 (AK + 1) true (by omega) (by omega) (fun _ => by obtain rfl := unhide HE2; exact ⟨rfl, by have := unhide HAK; simp only; omega, (decide_eq_true hmo2).symm⟩) (fun hh => by obtain rfl := unhide HE2; have hg : (decide (0 < y.toNat) || decide (k = 0)) = true := HG1; rw [hg] at hh; cases hh), rfl⟩
          · have hy0i : ¬ (0 : Int) < (y.toNat : Int) := by omega
            by_cases hk0 : k = 0
            · have hk0i : ((k : Int) == 0) = true := by simp; omega
              have HG1 : (decide (0 < y.toNat) || decide (k = 0)) = true := by rw [decide_eq_true hk0, Bool.or_true]
              clear hk0
              go_wp2
              refine bodyPost_ret (results_tmp3 rfl _ _ _) rfl ?_
              exact ⟨unhide HR N2 (AK + 1) true (by omega) (by omega) (fun _ => by obtain rfl := unhide HE2; exact ⟨rfl, by have := unhide HAK; simp only; omega, (decide_eq_true hmo2).symm⟩) (fun hh => by obtain rfl := unhide HE2; have hg : (decide (0 < y.toNat) || decide (k = 0)) = true := HG1; rw [hg] at hh; cases hh), rfl⟩
            · have hk0i : ((k : Int) == 0) = false := by simp; omega
              have HG1 : (decide (0 < y.toNat) || decide (k = 0)) = false := by rw [decide_eq_false hy0, decide_eq_false hk0]; rfl
              clear hk0
              go_wp2
              refine bodyPost_ret (results_tmp3 rfl _ _ _) rfl ?_
              exact ⟨unhide HR N2 (AK + 1) false (by omega) (by omega) (fun hh => by obtain rfl := unhide HE2; have hg : (decide (0 < y.toNat) || decide (k = 0)) = false := HG1; rw [hg] at hh; cases hh) (fun _ => rfl), rfl⟩
        · have hmi : ¬ (N2 : Int) ≤ (most : Int) := by omega
          by_cases hG : (decide (0 < y.toNat) || decide (k = 0)) = true
          · have HG1 := hG
            go_wp2
            refine bodyPost_ret (results_tmp3 rfl _ _ _) rfl ?_
            exact ⟨unhide HR N2 (AK + 1) false (by omega) (by omega) (fun _ => by obtain rfl := unhide HE2; exact ⟨rfl, by have := unhide HAK; simp only; omega, (decide_eq_false hmo2).symm⟩) (fun _ => rfl), rfl⟩
          · have HG1 : (decide (0 < y.toNat) || decide (k = 0)) = false := by simpa using hG
            go_wp2
            refine bodyPost_ret (results_tmp3 rfl _ _ _) rfl ?_
            exact ⟨unhide HR N2 (AK + 1) false (by omega) (by omega) (fun hh => by obtain rfl := unhide HE2; have hg : (decide (0 < y.toNat) || decide (k = 0)) = false := HG1; rw [hg] at hh; cases hh) (fun _ => rfl), rfl⟩
      · rw [hl2 hy128] at hE
        have HE2 := hide (show varS l (8 - (k + 1)) (k + 1) N2 (a + (k + 1)) false = V by rw [show 8 - (k + 1) = f by omega, ← Nat.add_assoc]; exact hE)
        have hyi : ¬ (y.toNat : Int) < 128 := by omega
        clear hl1 hl2 hE hs hf hx hP hN2 hF2 c0 hAK hy
        go_wp2
        go_roundw
        case rel => exact ⟨k + 1, N2, F2, by omega, by have := unhide HAK; omega, rfl, rfl, by go_num, HF2, hide (by have := unhide HN2F; rw [unhide HF2] at this; exact this), HE2, trivial⟩
        case measure => simp [intOf]; omega
    · have hVt : V.2.2 = true := by
        rw [← unhide HE]
        by_cases hk8 : k < 8
        · have hge : l.length ≤ a + k := by omega
          obtain ⟨f, hf⟩ : ∃ f, 8 - k = f + 1 := ⟨7 - k, by omega⟩
          rw [hf, varS_last l f k n (a + k) false (by rw [st1_end false hge]; exact (by decide : (0 : UInt8).toNat < 128)), st1_end false hge]
          simp
        · obtain rfl : k = 8 := by omega
          rfl
      have HVT := hide hVt
      clear hVt HE hAK
      by_cases hk8 : k < 8
      · have hk8i : (k : Int) < 8 := by omega
        have hlti : ¬ (AK : Int) < (l.length : Int) := by omega
        clear hin
        go_wp2
        refine bodyPost_ret (results_tmp3 rfl _ _ _) rfl ?_
        exact ⟨unhide HR 0 0 false (by omega) (by omega) (fun hh => by rw [unhide HVT] at hh; cases hh) (fun _ => rfl), rfl⟩
      · have hk8i : ¬ (k : Int) < 8 := by omega
        clear hin
        go_wp2
        refine bodyPost_ret (results_tmp3 rfl _ _ _) rfl ?_
        exact ⟨unhide HR 0 0 false (by omega) (by omega) (fun hh => by rw [unhide HVT] at hh; cases hh) (fun _ => rfl), rfl⟩
set_option maxHeartbeats 1000000 in
theorem begins_any (q q' : Option Addr) (c c' : Nat) (l m : List UInt8) (w : World) (h : SlOf encB 1 w q c l) (h' : SlOf encB 1 w q' c' m) (hl : l.length ≤ 1000000000000000) :
    Calls Tryz.prog 89 #[.slice q l.length c, .slice q' m.length c'] w fun e w' => e = .returned (.bool (decide (l.take m.length = m))) ∧ Below w.heap.size w w' := by
  have mixed : Tryz.prog.follows .mixedOrders = true := by kernel_rfl
  by_cases hlen : m.length ≤ l.length
  · obtain ⟨R, hR⟩ : ∃ R, decide (l.take m.length = m) = R := ⟨_, rfl⟩
    rw [hR]
    have HR := hide hR
    have hli : ¬ (l.length : Int) < (m.length : Int) := by omega
    clear hR
    go_enter Tryz.func89, Tryz.ntmps89
    go_wp2
    go_loopw [5] (fun i wr => ∃ k : Nat, k ≤ m.length ∧ i = .int .i64 (k : Int) ∧ Hid (l.take k = m.take k) ∧ Hid (Below w.heap.size w wr)) (fun i _ => m.length - (intOf i).toNat)
    case atStart => exact ⟨0, Nat.zero_le _, rfl, hide rfl, hide (Below.refl _ _)⟩
    case round =>
      obtain ⟨k, hk, rfl, HT, HB⟩ := hrel
      by_cases hlt : k < m.length
      · obtain ⟨y, hy, _⟩ := get_at hlt
        obtain ⟨x, hx, _⟩ := get_at (show k < l.length by omega)
        obtain ⟨b, off, hq, hb, c0⟩ := byteAt (h.below (unhide HB)) hx
        obtain ⟨b', off', hq', hb', d0⟩ := byteAt (h'.below (unhide HB)) hy
        subst hq hq'
        have q0 := cell_regrown c0
        have r0 := cell_regrown d0
        have ki0 : (0 : Int) ≤ (k : Int) := by omega
        have ki1 : (k : Int) < (m.length : Int) := by omega
        have ki2 : (k : Int) < (l.length : Int) := by omega
        by_cases hxy : x = y
        · have HT2 := hide (show l.take (k + 1) = m.take (k + 1) by rw [take_snoc_of hx, take_snoc_of hy, unhide HT, hxy])
          subst hxy
          clear h h' hx hy
          go_wp2
          refine wp_region_quiet_below (by assumption) (by kernel_rfl) ?_
          repeat (go_big_quiet_step (fail))
          refine wpQuiet_nil ?_
          intro _ hw'
          obtain ⟨⟨dq, osq⟩, hw''⟩ := hw'
          subst hw''
          go_wp2
          go_roundw
          case rel => exact ⟨k + 1, by omega, by go_num, HT2, hide ((unhide HB).trans ((below_regrown _ _ _).mono (unhide HB).size))⟩
          case measure => simp [intOf]; omega
        · have HN := hide (show R = false by
            rw [← unhide HR]
            exact decide_eq_false (fun e => hxy (by
              have e2 := congrArg (fun z : List UInt8 => z[k]?) e
              simp only [List.getElem?_take_of_lt hlt, hx, hy] at e2
              injection e2)))
          have hnei : ((x.toNat : Int) == (y.toNat : Int)) = false := by
            simp; intro e; exact hxy (byte_ext (by omega))
          clear h h' hx hy hxy
          go_wp2
          refine wp_region_quiet_below (by assumption) (by kernel_rfl) ?_
          repeat (go_big_quiet_step (fail))
          refine wpQuiet_nil ?_
          intro _ hw'
          obtain ⟨⟨dq, osq⟩, hw''⟩ := hw'
          subst hw''
          go_wp2
          go_ret
          exact ⟨ret_bool (unhide HN).symm, (unhide HB).trans ((below_regrown _ _ _).mono (unhide HB).size)⟩
      · obtain rfl : k = m.length := by omega
        have ki1 : ¬ (m.length : Int) < (m.length : Int) := by omega
        clear h h'
        go_wp2
        go_ret
        refine ⟨ret_bool ?_, unhide HB⟩
        rw [← unhide HR]
        symm
        refine decide_eq_true ?_
        have h1 := unhide HT
        rw [List.take_length] at h1
        exact h1
  · have hli : (l.length : Int) < (m.length : Int) := by omega
    rw [decide_eq_false (fun e => hlen (by have := congrArg List.length e; rw [List.length_take] at this; omega))]
    clear h h'
    go_enter Tryz.func89, Tryz.ntmps89
    go_wp2
    go_ret
    exact ⟨rfl, Below.refl _ _⟩
end Go.Proofs.YtfigjfmldpfjkaaGreat
namespace Go.Proofs.YtfigjfmldpfjkaaGreat
open Go.RowKit Go.Sort Go.Shelf

theorem pow8 : (128 : Nat) ^ 8 = 72057594037927936 := by decide
theorem vint_uniq {n m : Nat} {r s : List UInt8} (hn : n < 72057594037927936) (hm : m < 72057594037927936) (h : vint n ++ r = vint m ++ s) : n = m ∧ r = s := by
  have e1 := varS_read (vint n ++ r) 8 0 0 0 n r (by simp) (by simpa using hn) (by omega) (fun h => by omega)
  have e2 := varS_read (vint n ++ r) 8 0 0 0 m s (by simpa using h) (by simpa using hm) (by omega) (fun h => by omega)
  rw [e1] at e2
  injection e2 with e2 _
  simp at e2
  subst e2
  exact ⟨rfl, List.append_cancel_left h⟩
theorem rd_no (q : Option Addr) (cp : Nat) (l : List UInt8) (a most : Nat) (w : World) (h : SlOf encB 1 w q cp l) (hl : l.length ≤ 1000000000000000) (ha : a ≤ 10) (hx : (varS l 8 0 0 a false).2.2 = true ∨ most < (varS l 8 0 0 a false).1) :
    Calls Tryz.prog 87 #[.slice q l.length cp, .int .i64 (a : Int), .int .i64 (most : Int)] w fun e w' => (∃ n p : Nat, e = .returned (.tuple #[.int .i64 (n : Int), .int .i64 (p : Int), .bool false]) ∧ n ≤ 72057594037927936 ∧ p ≤ l.length + 10) ∧ w' = w := by
  refine (refRead q cp l a most w h hl ha).mono ?_
  rintro e w' ⟨⟨n, p, ok, rfl, h1, h2, h3, h4⟩, rfl⟩
  refine ⟨⟨n, p, ?_, h1, h2⟩, rfl⟩
  have : ok = false := by
    cases hv : (varS l 8 0 0 a false).2.2 with
    | true => exact h4 hv
    | false =>
      rcases hx with hx | hx
      · rw [hv] at hx; cases hx
      · rw [(h3 hv).2.2]; exact decide_eq_false (by omega)
  rw [this]
theorem rd_yes (q : Option Addr) (cp : Nat) (l : List UInt8) (a most n p : Nat) (w : World) (h : SlOf encB 1 w q cp l) (hl : l.length ≤ 1000000000000000) (ha : a ≤ 10) (hx : varS l 8 0 0 a false = (n, p, false)) (hm : n ≤ most) :
    Calls Tryz.prog 87 #[.slice q l.length cp, .int .i64 (a : Int), .int .i64 (most : Int)] w fun e w' => e = .returned (.tuple #[.int .i64 (n : Int), .int .i64 (p : Int), .bool true]) ∧ w' = w := by
  refine (refRead q cp l a most w h hl ha).mono ?_
  rintro e w' ⟨⟨n', p', ok, rfl, h1, h2, h3, h4⟩, rfl⟩
  rw [hx] at h3
  obtain ⟨e1, e2, e3⟩ := h3 rfl
  simp only at e1 e2 e3
  rw [e1, e2, e3, decide_eq_true hm]
  exact ⟨rfl, rfl⟩
/-- What a record that Decode takes is made of. -/
theorem dec_parts {l : List UInt8} {c : Ch} {N : Nat} (h : decS l = some (c, N)) : MayB c ∧ N = (oneB c).length ∧ ∃ r, l = 67 :: (vint (bodyB c).length ++ (bodyB c ++ r)) ∧ 2 ≤ (bodyB c).length ∧ (bodyB c).length ≤ 4110 := by
  obtain ⟨hm, hl, hn⟩ := decS_back h
  refine ⟨hm, hn, four (sumB (67 :: (vint (bodyB c).length ++ bodyB c))) ++ l.drop N, ?_, ?_, body_len c hm⟩
  · have e : oneB c = (67 :: (vint (bodyB c).length ++ bodyB c)) ++ four (sumB (67 :: (vint (bodyB c).length ++ bodyB c))) := rec_parts (bodyB c)
    have hl2 : l = ((67 :: (vint (bodyB c).length ++ bodyB c)) ++ four (sumB (67 :: (vint (bodyB c).length ++ bodyB c)))) ++ l.drop N := by rw [← e]; exact hl
    exact hl2.trans (by simp)
  · have := vint_len_pos c.id.toNat
    simp [bodyB]; omega
/-- How far the number behind the mark is read, of a record. -/
theorem dec_v1 {l : List UInt8} {c : Ch} {N : Nat} (h : decS l = some (c, N)) : varS l 8 0 0 1 false = ((bodyB c).length, 1 + (vint (bodyB c).length).length, false) ∧ (bodyB c).length ≤ 4110 ∧ 2 ≤ (bodyB c).length ∧ 1 + (vint (bodyB c).length).length + (bodyB c).length ≤ l.length ∧ (l.drop (1 + (vint (bodyB c).length).length)).take (bodyB c).length = bodyB c := by
  obtain ⟨hm, hN, r, hl, h2, h3⟩ := dec_parts h
  have hd : l.drop (1 + (vint (bodyB c).length).length) = bodyB c ++ r := by rw [hl, Nat.add_comm]; simp
  refine ⟨?_, h3, h2, ?_, by rw [hd, List.take_left]⟩
  · have := varS_read l 8 0 0 1 (bodyB c).length (bodyB c ++ r) (by rw [hl]; rfl) (by rw [pow8]; omega) (by omega) (fun h => by omega)
    rw [this]; simp
  · have := congrArg List.length hl
    simp at this; omega
theorem body_v2 {c : Ch} (hm : MayB c) : varS (bodyB c) 8 0 0 1 false = (c.id.toNat, 1 + (vint c.id.toNat).length, false) ∧ c.id.toNat ≤ 1099511627776 ∧ (bodyB c)[0]? = some (UInt8.ofNat c.kind.toNat) ∧ (bodyB c).drop (1 + (vint c.id.toNat).length) = c.text.data.toList ∧ ((UInt8.ofNat c.kind.toNat).toNat : Int) = c.kind ∧ ((c.id.toNat : Nat) : Int) = c.id := by
  have h1 := hm.1
  have hk : 0 ≤ c.kind ∧ c.kind ≤ 3 := by rcases hm.2 with h | h <;> omega
  refine ⟨?_, by omega, rfl, ?_, by rw [toNat_of]; omega, by omega⟩
  · have := varS_read (bodyB c) 8 0 0 1 c.id.toNat c.text.data.toList rfl (by rw [pow8]; omega) (by omega) (fun h => by omega)
    rw [this]; simp
  · rw [Nat.add_comm]; simp [bodyB]
set_option maxHeartbeats 1000000 in
set_option maxRecDepth 100000 in
/-- The reference's Decode where the number behind the mark is none that serves. -/
theorem rdec_no1 (q : Option Addr) (cp : Nat) (l : List UInt8) (w : World) (h : SlOf encB 1 w q cp l) (hl : l.length ≤ 1000000000000) (hx : (varS l 8 0 0 1 false).2.2 = true ∨ 8192 < (varS l 8 0 0 1 false).1) :
    Calls Tryz.prog 90 #[.slice q l.length cp] w fun e w' => e = .returned (.tuple #[.agg #[.int .i64 0, .int .i64 0, .string ⟨#[]⟩], .int .i64 0, .int .i64 30]) ∧ Below w.heap.size w w' := by
  obtain ⟨z, hz⟩ : ∃ z, w.alloc (.cells #[.int .i64 0, .int .i64 0, .string ⟨#[]⟩] 63) = z := ⟨_, rfl⟩
  have bz : Below w.heap.size w z := by rw [← hz]; exact (Below.refl _ _).alloc (Nat.le_refl _) _
  have blkz : z.heap[w.heap.size]? = some (.cells #[.int .i64 0, .int .i64 0, .string ⟨#[]⟩] 63 (0, 0)) := by rw [← hz]; exact heap_alloc_new _ _
  have hrd := rd_no q cp l 1 8192 z (h.below bz) (by omega) (by omega) hx
  have X := And.intro (set3_blk blkz (.int .i64 0) (.int .i64 0) (.string ⟨#[]⟩)) (set3_below bz (Nat.le_refl _) (.int .i64 0) (.int .i64 0) (.string ⟨#[]⟩))
  obtain ⟨⟨x0, x1, x2⟩, f0, f1, f2⟩ := cells3 blkz
  have HX := hide X
  clear h hx bz blkz X
  go_enter Tryz.func90, Tryz.ntmps90
  go_wp2_with (go_at_call 87; refine hrd.mono ?_; rintro e w1 ⟨⟨n, p, rfl, hn, hp⟩, hw1⟩; obtain rfl := hw1.symm)
  refine bodyPost_ret (results_ctt (fn := Tryz.f90) (p := 2) (u := 3) (v := 4) (ty := 63) rfl _ _ w.heap.size 63 _ (0, 0) _ (by rfl) (unhide HX).1 Tryz.underlying63 rfl Tryz.info32s) rfl ?_
  exact ⟨rfl, (unhide HX).2⟩
set_option maxHeartbeats 1000000 in
set_option maxRecDepth 100000 in
theorem rdec_no2 (q : Option Addr) (cp : Nat) (l : List UInt8) (w : World) (h : SlOf encB 1 w q cp l) (hl : l.length ≤ 1000000000000) (n p : Nat) (hx : varS l 8 0 0 1 false = (n, p, false)) (hn : n ≤ 8192) (hp : p ≤ l.length) (hb : ¬ (p + n ≤ l.length ∧ 2 ≤ n)) :
    Calls Tryz.prog 90 #[.slice q l.length cp] w fun e w' => e = .returned (.tuple #[.agg #[.int .i64 0, .int .i64 0, .string ⟨#[]⟩], .int .i64 0, .int .i64 30]) ∧ Below w.heap.size w w' := by
  obtain ⟨z, hz⟩ : ∃ z, w.alloc (.cells #[.int .i64 0, .int .i64 0, .string ⟨#[]⟩] 63) = z := ⟨_, rfl⟩
  have bz : Below w.heap.size w z := by rw [← hz]; exact (Below.refl _ _).alloc (Nat.le_refl _) _
  have blkz : z.heap[w.heap.size]? = some (.cells #[.int .i64 0, .int .i64 0, .string ⟨#[]⟩] 63 (0, 0)) := by rw [← hz]; exact heap_alloc_new _ _
  have hrd := rd_yes q cp l 1 8192 n p z (h.below bz) (by omega) (by omega) hx hn
  have X := And.intro (set3_blk blkz (.int .i64 0) (.int .i64 0) (.string ⟨#[]⟩)) (set3_below bz (Nat.le_refl _) (.int .i64 0) (.int .i64 0) (.string ⟨#[]⟩))
  obtain ⟨⟨x0, x1, x2⟩, f0, f1, f2⟩ := cells3 blkz
  have HX := hide X
  obtain ⟨d, hd⟩ : ∃ d, l.length - p = d := ⟨_, rfl⟩
  have gd : (l.length : Int) - (p : Int) = (d : Int) := by omega
  have gdb : (d : Int) ≤ 1000000000000 := by omega
  by_cases h1 : d < n
  · have g1 : (d : Int) < (n : Int) := by omega
    clear h hx bz blkz X hb hd
    go_enter Tryz.func90, Tryz.ntmps90
    go_wp2_with (go_at_call 87; refine hrd.mono ?_; rintro e w1 ⟨rfl, hw1⟩; obtain rfl := hw1.symm)
    refine bodyPost_ret (results_ctt (fn := Tryz.f90) (p := 2) (u := 3) (v := 4) (ty := 63) rfl _ _ w.heap.size 63 _ (0, 0) _ (by rfl) (unhide HX).1 Tryz.underlying63 rfl Tryz.info32s) rfl ?_
    exact ⟨rfl, (unhide HX).2⟩
  · have g1 : ¬ (d : Int) < (n : Int) := by omega
    have g2 : (n : Int) < 2 := by omega
    clear h hx bz blkz X hb hd
    go_enter Tryz.func90, Tryz.ntmps90
    go_wp2_with (go_at_call 87; refine hrd.mono ?_; rintro e w1 ⟨rfl, hw1⟩; obtain rfl := hw1.symm)
    refine bodyPost_ret (results_ctt (fn := Tryz.f90) (p := 2) (u := 3) (v := 4) (ty := 63) rfl _ _ w.heap.size 63 _ (0, 0) _ (by rfl) (unhide HX).1 Tryz.underlying63 rfl Tryz.info32s) rfl ?_
    exact ⟨rfl, (unhide HX).2⟩
end Go.Proofs.YtfigjfmldpfjkaaGreat

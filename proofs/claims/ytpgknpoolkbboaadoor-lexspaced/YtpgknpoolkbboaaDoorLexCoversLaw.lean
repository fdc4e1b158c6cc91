/- The law LexCovers returns true, whatever the text. -/
import Derived.Test.YtpgknpoolkbboaaDoorLexToGo
import Derived.Lib.ConvBytes
namespace Go.Proofs.YtpgknpoolkbboaaDoor
open Go.RowKit

theorem below_conv (w : World) (e : TypeId) (s : ByteArray) : Below w.heap.size w (Lib.bytesWorld w e s) :=
  ⟨rfl, rfl, rfl, by rw [Lib.bytesWorld_size]; omega, fun k hk => Lib.bytesWorld_at_old w e s k hk⟩
/-- A text of blanks, turned into bytes: what a walk needs of it. -/
theorem conv_blank (x : ByteArray) (hx : ∀ b ∈ x.data.toList, isBlank (b.toNat : Int) = true) :
    ∃ (W2 : World → World) (m : Nat) (cap : World → Nat) (c : Nat → Int), m = x.size ∧ (∀ w, (convert 9 32 (.string x)).run Tryd.prog w = .ok (.slice (some ⟨w.heap.size, 0, none⟩) m (cap w)) (W2 w)) ∧
      (∀ w N j, w.heap.size = N → j < m → (W2 w).cell? ⟨N, j, none⟩ = some (.int .u8 (c j))) ∧ (∀ j, j < m → isBlank (c j) = true) ∧ ∀ w, Below w.heap.size w (W2 w) := by
  refine ⟨fun w => Lib.bytesWorld w 5 x, x.size, fun w => grownCap w x.size 0 5, fun j => ((x.data.toList.getD j 0).toNat : Int), rfl, fun w => ?_, ?_, ?_, fun w => below_conv w 5 x⟩
  · exact Lib.run_convert_string_bytes w 9 32 5 x Tryd.underlying9 Tryd.underlying32 Tryd.underlying5
  · rintro w N j rfl hj
    exact Lib.bytesWorld_cell w 5 x j hj
  · intro j hj
    apply hx
    have hj' : j < x.data.toList.length := by simpa using hj
    rw [List.getD_eq_getElem?_getD, List.getElem?_eq_getElem hj']
    exact List.getElem_mem hj'
set_option maxHeartbeats 1000000 in
theorem lexCovers_long (s : ByteArray) (w : World) (hG : G w) (hs : 4096 < s.size) : Calls Tryd.prog 5 #[.string s] w fun e w' => e = .returned (.bool true) ∧ Below w.heap.size w w' := by
  have hfx := fixed_any w hG
  have h1 := fun w => tokens_long s w hs
  have a0 : (4096 : Int) ≤ (s.size : Int) := by omega
  go_enter Tryd.func5, Tryd.ntmps5
  go_wp2_with (first
    | (go_at_call 9; refine hfx.mono ?_; rintro e w0 ⟨rfl, b0⟩; have B0 := hide b0; clear b0)
    | (go_at_call 10; refine (h1 _).mono ?_; rintro e w' ⟨rfl, hw⟩; obtain rfl := hw.symm; clear hw))
  go_ret
  exact ⟨ret_bool (by simp), unhide B0⟩
set_option maxHeartbeats 1000000 in
theorem lexCovers_bad (s : ByteArray) (w : World) (hG : G w) (hs : s.size ≤ 4096) (l : List Tok) (p : Nat) (h : toksL s.data.toList 0 = (l, some p)) : Calls Tryd.prog 5 #[.string s] w fun e w' => e = .returned (.bool true) ∧ Below w.heap.size w w' := by
  have hfx := fixed_any w hG
  have h1 := fun w hG => tokens_bad s hs l p h w hG
  obtain ⟨j1, j2, j3, j4, j5⟩ := toksL_err _ _ _ (Nat.le_refl _) l p h
  simp only [Nat.sub_zero, Array.length_toList] at j2
  have hsz : s.data.size = s.size := rfl
  have a0 : (0 : Int) ≤ (p : Int) := by omega
  have a1 : (p : Int) ≤ (s.size : Int) := by omega
  clear h j1 j2 j3 j4 j5 hsz
  go_enter Tryd.func5, Tryd.ntmps5
  go_wp2_with (first
    | (go_at_call 9; refine hfx.mono ?_; rintro e w0 ⟨rfl, b0⟩; have B0 := hide b0; clear b0)
    | (go_at_call 10; refine (h1 _ (by exact G_below hG (unhide B0))).mono ?_; rintro e w1 ⟨rfl, b1⟩; have B1 := hide (below_sub (unhide B0) b1); clear b1))
  go_ret
  exact ⟨ret_bool (by simp), unhide B1⟩
theorem drop_cons {α : Type} {l : List α} {j : Nat} {x : α} (h : l[j]? = some x) : l.drop j = x :: l.drop (j + 1) := by
  obtain ⟨hj, hx⟩ := List.getElem?_eq_some_iff.1 h
  rw [← hx]; exact List.drop_eq_getElem_cons hj
set_option maxHeartbeats 4000000 in
theorem lexCovers_ok (s : ByteArray) (w : World) (hG : G w) (hs : s.size ≤ 4096) (l : List Tok) (hl : l.length ≤ 4096) (h : toksL s.data.toList 0 = (l, none)) : Calls Tryd.prog 5 #[.string s] w fun e w' => e = .returned (.bool true) ∧ Below w.heap.size w w' := by
  have hfx := fixed_any w hG
  have h1 := fun w hG => tokens_ok s hs l h w hG
  have HT := hide (ToGo.first h)
  have a3 : (s.size : Int) ≤ 4096 := by omega
  clear h
  go_enter Tryd.func5, Tryd.ntmps5
  go_wp2_with (first
    | (go_at_call 9; refine hfx.mono ?_; rintro e w0 ⟨rfl, b0⟩; have B0 := hide b0; clear b0)
    | (go_at_call 10; refine (h1 _ (by exact G_below hG (unhide B0))).mono ?_; rintro e w1 ⟨⟨q, cap, rfl, k1⟩, b1⟩; have B1 := hide (below_sub (unhide B0) b1); have K1 := hide k1; clear b1 k1))
  clear hfx h1
  go_loopw [6, 42] (fun a i wr => ∃ k j : Nat, a = .int .i64 k ∧ i = .int .i64 j ∧ j ≤ l.length ∧ ToGo s k (l.drop j) ∧ Below w1.heap.size w1 wr) (fun _ i _ => l.length - (intOf i).toNat)
  case atStart => exact ⟨0, 0, rfl, rfl, by omega, by simpa using unhide HT, Below.refl _ _⟩
  case round =>
    clear HT
    obtain ⟨k, j, rfl, rfl, hj, htg, hbel⟩ := hrel
    obtain ⟨U, rfl⟩ : ∃ U, U = wr := ⟨_, rfl⟩
    have hks := htg.1
    have k0 : (0 : Int) ≤ (k : Int) := by omega
    have k1 : (k : Int) ≤ (s.size : Int) := by omega
    by_cases hlt : j < l.length
    · obtain ⟨bb, off, rfl, hbb, hAt⟩ := unhide K1 (by omega)
      obtain ⟨x, hx, hxd⟩ := get_at hlt
      clear hxd
      have ki0 : (0 : Int) ≤ (j : Int) := by omega
      have ki1 : (j : Int) < (l.length : Int) := by omega
      obtain ⟨g0, g1, g2, g3, g4⟩ := hAt.below hbel hbb j x hx
      rw [drop_cons hx] at htg
      obtain ⟨b, n, e1, e2, hn, hle, hbl, htk, hnx⟩ := htg.next
      obtain ⟨x1, x2, x3, x4, x5⟩ := x
      simp only at g0 g1 g2 g3 g4 e1 e2 htk
      subst e1 e2
      obtain ⟨f, Hf⟩ : ∃ f, k + b = f := ⟨_, rfl⟩
      obtain ⟨t, Ht⟩ : ∃ t, f + n = t := ⟨_, rfl⟩
      rw [Hf] at g1 g2 htk hnx hle
      rw [Ht] at g2 hnx hle
      have hx1 := ext_list s k b
      rw [Hf] at hx1
      obtain ⟨W2, m, cp, c, hm, hconv, hcell, hcb, hw2⟩ := conv_blank (s.extract k f) (by rw [hx1]; exact hbl)
      have hwr := tok_cases htk
      have hx2 := ext_list s f n
      rw [Ht] at hx2
      rw [← hx2] at hwr
      have hwa := fun w hG => written_any x1 (f : Int) (t : Int) x4 x5 (s.extract f t) w hG hwr
      have f0 : (0 : Int) ≤ (f : Int) := by omega
      have f1 : (k : Int) ≤ (f : Int) := by omega
      have f2 : (f : Int) ≤ (s.size : Int) := by omega
      have t1 : (f : Int) < (t : Int) := by omega
      have t2 : (t : Int) ≤ (s.size : Int) := by omega
      have t3 : (0 : Int) ≤ (t : Int) := by omega
      have t4 : (f : Int) ≤ (t : Int) := by omega
      have d1 : decide (f < k) = false := by simp; omega
      have d2 : decide (t ≤ f) = false := by simp; omega
      have d3 : decide (s.size < t) = false := by simp; omega
      have hold : ∀ w b o, b < w.heap.size → (W2 w).cell? ⟨b, o, none⟩ = w.cell? ⟨b, o, none⟩ := fun w b o h => (hw2 w).cell (p := ⟨b, o, none⟩) h
      have HB := hide hbel
      have HN := hide hnx
      have HM := hide hm
      have HW2 := hide hw2
      have HBL := hide (fun j w h => (blank_any (c j) w).mono fun e w' (he : e = .returned (.bool (isBlank (c j))) ∧ w' = w) => (⟨by rw [he.1, hcb j h], he.2⟩ : e = .returned (.bool true) ∧ w' = w))
      have mb : (m : Int) ≤ 4096 := by rw [hm, ByteArray.size_extract]; omega
      clear hx hbel htg hnx hbl htk hwr hx1 hx2 hm hcb hw2
      go_wp2
      obtain ⟨V, HV⟩ : ∃ V, W2 (U.alloc (.cells #[.int .i64 x1, .int .i64 (f : Int), .int .i64 (t : Int), .int .i64 x4, .string x5] 31)) = V := ⟨_, rfl⟩
      rw [HV]
      have hVB := unhide HW2 (U.alloc (.cells #[.int .i64 x1, .int .i64 (f : Int), .int .i64 (t : Int), .int .i64 x4, .string x5] 31))
      rw [HV] at hVB
      have HWV := hide (below_sub ((Below.refl _ _).alloc (Nat.le_refl _) _) hVB)
      have c0 : V.cell? ⟨U.heap.size, 0, none⟩ = some (.int .i64 x1) := (hVB.cell (p := ⟨U.heap.size, 0, none⟩) (by simp)).trans (by go_simp)
      have c1 : V.cell? ⟨U.heap.size, 1, none⟩ = some (.int .i64 (f : Int)) := (hVB.cell (p := ⟨U.heap.size, 1, none⟩) (by simp)).trans (by go_simp)
      have c2 : V.cell? ⟨U.heap.size, 2, none⟩ = some (.int .i64 (t : Int)) := (hVB.cell (p := ⟨U.heap.size, 2, none⟩) (by simp)).trans (by go_simp)
      have c3 : V.cell? ⟨U.heap.size, 3, none⟩ = some (.int .i64 x4) := (hVB.cell (p := ⟨U.heap.size, 3, none⟩) (by simp)).trans (by go_simp)
      have c4 : V.cell? ⟨U.heap.size, 4, none⟩ = some (.string x5) := (hVB.cell (p := ⟨U.heap.size, 4, none⟩) (by simp)).trans (by go_simp)
      have hby : ∀ j, j < m → V.cell? ⟨U.heap.size + 1, j, none⟩ = some (.int .u8 (c j)) := fun j h => by rw [← HV]; exact hcell _ _ j (by simp) h
      have hVs : U.heap.size < V.heap.size := by have := hVB.size; simp at this; omega
      clear HV hVB hcell hold hconv
      go_loopw [71] (fun i wv => ∃ jj : Nat, jj ≤ m ∧ i = .int .i64 jj ∧ Hid (wv = V)) (fun i _ => m - (intOf i).toNat)
      case atStart => exact ⟨0, by omega, rfl, hide rfl⟩
      case round =>
        obtain ⟨jj, hjm, rfl, hwv⟩ := hrel
        obtain rfl := (unhide hwv).symm
        clear hwv
        by_cases hlt2 : jj < m
        · have j0 : (0 : Int) ≤ (jj : Int) := by omega
          have j1 : (jj : Int) < (m : Int) := by omega
          have cj := hby jj hlt2
          go_wp2_with (go_at_call 13; refine (unhide HBL jj _ hlt2).mono ?_; rintro e w' ⟨rfl, hw⟩; obtain rfl := hw.symm; clear hw)
          go_roundw
          case rel => exact ⟨jj + 1, by omega, by go_num, hide trivial⟩
          case measure => simp [intOf]; omega
        · have j1 : ¬ (jj : Int) < (m : Int) := by omega
          go_wp2
          go_region_held3 (fun w' => w'.cell? ⟨U.heap.size, 0, none⟩ = some (.int .i64 x1) ∧ w'.cell? ⟨U.heap.size, 1, none⟩ = some (.int .i64 (f : Int)) ∧ w'.cell? ⟨U.heap.size, 2, none⟩ = some (.int .i64 (t : Int)) ∧ w'.cell? ⟨U.heap.size, 3, none⟩ = some (.int .i64 x4) ∧ w'.cell? ⟨U.heap.size, 4, none⟩ = some (.string x5)) (first | go_keep | (refine ⟨?_, ?_, ?_, ?_, ?_⟩ <;> (rw [hb.cell (p := ⟨U.heap.size, _, none⟩) (by simpa using hVs)]; go_keep))) ((go_at_call 15; refine (hwa _ (by exact G_below (G_below (G_below hG (unhide B1)) (unhide HB)) (unhide HWV).drew)).mono ?_; rintro e w3 ⟨rfl, hb⟩))
          all_goals
            go_wp2
            go_roundw
            case rel => exact ⟨t, j + 1, rfl, by go_num, by omega, unhide HN, (below_sub (unhide HB) (unhide HWV)).drew.trans (hb.mono (by simp; have := (below_sub (unhide HB) (unhide HWV)).size; omega))⟩
            case measure => simp [intOf]; omega
    · have ki1 : ¬ (j : Int) < (l.length : Int) := by omega
      rw [List.drop_of_length_le (by omega)] at htg
      have hbl := htg.last
      have hx1 := ext_list s k (s.size - k)
      rw [show k + (s.size - k) = s.size by omega, List.take_of_length_le (by simp)] at hx1
      obtain ⟨W2, m, cp, c, hm, hconv, hcell, hcb, hw2⟩ := conv_blank (s.extract k s.size) (by rw [hx1]; exact hbl)
      have HB := hide hbel
      have HBL := hide (fun j w h => (blank_any (c j) w).mono fun e w' (he : e = .returned (.bool (isBlank (c j))) ∧ w' = w) => (⟨by rw [he.1, hcb j h], he.2⟩ : e = .returned (.bool true) ∧ w' = w))
      have mb : (m : Int) ≤ 4096 := by rw [hm, ByteArray.size_extract]; omega
      have HW2 := hide hw2
      clear hbel htg hbl hx1 hm hcb hw2
      go_wp2
      obtain ⟨V, HV⟩ : ∃ V, W2 U = V := ⟨_, rfl⟩
      rw [HV]
      have hVB := unhide HW2 U
      rw [HV] at hVB
      have HWV := hide hVB
      have hby : ∀ j, j < m → V.cell? ⟨U.heap.size, j, none⟩ = some (.int .u8 (c j)) := fun j h => by rw [← HV]; exact hcell _ _ j rfl h
      clear HV hVB hcell hconv
      go_loopw [96] (fun i wv => ∃ jj : Nat, jj ≤ m ∧ i = .int .i64 jj ∧ Hid (wv = V)) (fun i _ => m - (intOf i).toNat)
      case atStart => exact ⟨0, by omega, rfl, hide rfl⟩
      case round =>
        obtain ⟨jj, hjm, rfl, hwv⟩ := hrel
        obtain rfl := (unhide hwv).symm
        clear hwv
        by_cases hlt2 : jj < m
        · have j0 : (0 : Int) ≤ (jj : Int) := by omega
          have j1 : (jj : Int) < (m : Int) := by omega
          have cj := hby jj hlt2
          go_wp2_with (go_at_call 13; refine (unhide HBL jj _ hlt2).mono ?_; rintro e w' ⟨rfl, hw⟩; obtain rfl := hw.symm; clear hw)
          go_roundw
          case rel => exact ⟨jj + 1, by omega, by go_num, hide trivial⟩
          case measure => simp [intOf]; omega
        · have j1 : ¬ (jj : Int) < (m : Int) := by omega
          go_wp2
          go_ret
          exact ⟨rfl, below_sub (below_sub (unhide B1) (unhide HB)) (unhide HWV)⟩
theorem lexCovers_any (s : ByteArray) (w : World) (hG : G w) : Calls Tryd.prog 5 #[.string s] w fun e w' => e = .returned (.bool true) ∧ Below w.heap.size w w' := by
  by_cases hs : 4096 < s.size
  · exact lexCovers_long s w hG hs
  · cases h : toksL s.data.toList 0 with
    | mk l r =>
      cases r with
      | some p => exact lexCovers_bad s w hG (by omega) l p h
      | none =>
        have := toksL_len s.data.toList.length s.data.toList 0 (Nat.le_refl _)
        rw [h] at this
        simp only [Array.length_toList] at this
        have h4 : s.data.size = s.size := rfl
        exact lexCovers_ok s w hG (by omega) l (by omega) h
end Go.Proofs.YtpgknpoolkbboaaDoor

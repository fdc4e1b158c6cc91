/- DiskLasts answers true. -/
import Derived.Test.YtakjbkgngmkpcaaRenLaw
namespace Go.Proofs.Ytakjbkgngmkpcaa
open Go.RowKit Go.Sort Go.Shelf

theorem all_cut (a b : List UInt8) (n : Nat) : ((⟨a.toArray⟩ : ByteArray) ++ (⟨b.toArray⟩ : ByteArray)).extract 0 n = ⟨((a ++ b).take n).toArray⟩ := by
  apply ba_ext
  simp [ByteArray.data_extract, ByteArray.data_append]
theorem neqS (s : ByteArray) (w : World) : (binOp .neq 9 (.string s) (.string s)).run Try.prog w = .ok (.bool false) w := by
  have u9 := Try.underlying9
  go_simp
theorem eqlS (s : ByteArray) (w : World) : (binOp .eql 9 (.string s) (.string s)).run Try.prog w = .ok (.bool true) w := by
  have u9 := Try.underlying9
  go_simp
theorem mod_small {k m : Nat} (h : k < m) : modZ (k : Int) m = k := by
  unfold modZ
  rw [Int.emod_eq_of_lt (by omega) (by omega)]
  simp
theorem found_k (la lo : List UInt8) (k : Nat) (hk : k ≤ lo.length) : foundF ⟨la ++ lo, la.length⟩ (chAt [(k : Int)] 0) = ⟨(la ++ lo).take (la.length + k), la.length + k⟩ := by
  have : keptN ⟨la ++ lo, la.length⟩ (chAt [(k : Int)] 0) = la.length + k := by
    unfold keptN
    show la.length + modZ (k : Int) _ = _
    rw [mod_small (by simp; omega)]
  unfold foundF
  rw [this]
theorem kept_k (A : List UInt8) (l n k : Nat) (hA : A.length = l + n) (hk : k ≤ n) : keptN ⟨A, l⟩ (k : Int) = l + k := by
  unfold keptN
  rw [mod_small (by simp; omega)]
theorem kept_ge (A : List UInt8) (l : Nat) (c : Int) : l ≤ keptN ⟨A, l⟩ c := by unfold keptN; simp
set_option maxHeartbeats 4000000 in
set_option maxRecDepth 100000 in
theorem last_law (q0 : Option Addr) (k0 : Nat) (la : List UInt8) (q1 : Option Addr) (k1 : Nat) (lo : List UInt8) (ch : Int) (w : World) (s0 : SlOf encB 1 w q0 k0 la) (s1 : SlOf encB 1 w q1 k1 lo) (l0 : la.length + 4000 ≤ 140737488355328) :
    Calls Try.prog 4 #[.slice q0 la.length k0, .slice q1 lo.length k1, .int .i64 ch] w fun e w' => e = .returned (.bool true) ∧ RowKit.Below w.heap.size w w' := by
  have mixed : Try.prog.follows .mixedOrders = true := by kernel_rfl
  have e14 : ∀ args w, (callFunc 14 args).run Try.prog w = .ok (.enter 14 args) w := enters_of Try.func14 (by kernel_rfl) rfl
  have hf := fixed_any w
  have hN := fun W : World => new_any W
  by_cases hlo : lo.length > 200
  · have hl1 : (200 : Int) < (lo.length : Int) := by omega
    clear s0 s1
    go_enter Try.func4, Try.ntmps4
    go_wp2_with (first
      | (go_at_call 7; refine hf.mono ?_; rintro e w1 ⟨rfl, b1⟩; have B1 := hide b1; clear b1)
      | (go_at_call 8; refine (hN w1).mono ?_; rintro e w2 ⟨rfl, d2, b2⟩; have B2 := hide (below_sub (unhide B1) b2); clear d2 b2))
    go_ret
    exact ⟨rfl, unhide B2⟩
  have hl1 : ¬ (200 : Int) < (lo.length : Int) := by omega
  have a1 : ∀ (g B : Nat) (W : World), DkAt B W g empty → B ≤ W.heap.size → SlOf encB 1 W q0 k0 la → Calls Try.prog 10 #[.pointer (some ⟨g, 0, none⟩), .string ⟨#[102]⟩, .slice q0 la.length k0] W fun e w' => e = .returned (.int .i64 0) ∧ DkAt B w' g (one nF la 0 1 1 false 0 0) ∧ RowKit.Below B W w' := fun g B W h hB hS => by
    have := append_yes h hB (nm := nF) rfl okF (by decide) (by decide) (by decide) q0 k0 la hS (fun fl h => by cases h) (by omega)
    rw [empty_grow] at this
    exact this
  have a2 : ∀ (g B : Nat) (W : World), DkAt B W g (one nF la 0 1 1 false 0 0) → B ≤ W.heap.size → Calls Try.prog 11 #[.pointer (some ⟨g, 0, none⟩), .string ⟨#[102]⟩] W fun e w' => e = .returned (.int .i64 0) ∧ DkAt B w' g (one nF la la.length 1 2 false 0 0) ∧ RowKit.Below B W w' := fun g B W h hB => by
    have := sync_yes h hB (nm := nF) rfl okF (one_get _ _ _ _ _ _ _ _) (show 0 ≠ 1 by decide) (show 1 ≤ 4611686018427387904 by decide)
    rw [one_sync] at this
    exact this
  have a3 : ∀ (i : Nat) (y : UInt8), lo[i]? = some y → ∀ (g B : Nat) (W : World), DkAt B W g (one nF (la ++ lo.take i) la.length 1 (2 + i) false 0 0) → B ≤ W.heap.size → Calls Try.prog 10 #[.pointer (some ⟨g, 0, none⟩), .string ⟨#[102]⟩, .slice (some ⟨W.heap.size, 0, none⟩) 1 1] (W.alloc (.cells #[.int .u8 (y.toNat : Int)] 5)) fun e w' => e = .returned (.int .i64 0) ∧ DkAt B w' g (one nF (la ++ lo.take (i + 1)) la.length 1 (2 + (i + 1)) false 0 0) ∧ RowKit.Below B W w' := fun i y hy g B W h hB => by
    have hi := (List.getElem?_eq_some_iff.1 hy).1
    have := app_lit [y] (by simp) h hB (nm := nF) rfl okF (show 0 ≠ 1 by decide) (show 2 + i ≤ 4611686018427387904 by omega) (show 1 < maxLen by decide) (one_len (by simp; omega))
    rw [show ({ one nF (la ++ lo.take i) la.length 1 (2 + i) false 0 0 with named := (one nF (la ++ lo.take i) la.length 1 (2 + i) false 0 0).named - 1, acts := (one nF (la ++ lo.take i) la.length 1 (2 + i) false 0 0).acts + 1 } : Dk) = { one nF (la ++ lo.take i) la.length 1 (2 + i) false 0 0 with named := 0 - 1, acts := 2 + i + 1 } from rfl, one_grow, List.append_assoc, ← take_snoc_of hy] at this
    exact this
  obtain ⟨A, hA⟩ : ∃ A, la ++ lo = A := ⟨_, rfl⟩
  have hAl : A.length = la.length + lo.length := by rw [← hA]; simp
  have a4 : ∀ (c : Int) (o : Bool) (acts : Nat) (g B : Nat) (W : World), DkAt B W g (one nF A la.length 1 acts o 0 0) → B ≤ W.heap.size → Calls Try.prog 12 #[.pointer (some ⟨g, 0, none⟩), .slice (some ⟨W.heap.size, 0, none⟩) 1 1] (W.alloc (.cells #[.int .i64 c] 3)) fun e w' => (∃ gf, e = .returned (.pointer (some ⟨gf, 0, none⟩)) ∧ DkAt (W.heap.size + 1) w' gf (one nF (A.take (keptN ⟨A, la.length⟩ c)) (keptN ⟨A, la.length⟩ c) 1 0 false 0 0)) ∧ DkAt B w' g (one nF A la.length 1 acts true 0 0) ∧ RowKit.Below B W w' := fun c o acts g B W h hB => by
    refine (crash_lit [c] (by simp) h hB (show 1 ≤ 1000000000 by decide) (one_all (by decide) (by omega))).mono ?_
    rintro e w' ⟨h1, h2, h3⟩
    exact ⟨crash_one h1, h2, h3⟩
  have a5 : ∀ (bs : List UInt8) (l : Nat), bs.length ≤ 140737488355328 → ∀ (g B : Nat) (W : World), DkAt B W g (one nF bs l 1 0 false 0 0) → Calls Try.prog 13 #[.pointer (some ⟨g, 0, none⟩), .string ⟨#[102]⟩] W fun e w' => (∃ q' c', e = .returned (.tuple #[.slice q' bs.length c', .int .i64 0]) ∧ SlOf encB 1 w' q' c' bs) ∧ RowKit.Below W.heap.size W w' := fun bs l hb g B W h => (read_yes h (nm := nF) rfl okF (one_get _ _ _ _ _ _ _ _) hb).mono (by rintro e w' ⟨⟨q', c', he, ho⟩, hb⟩; exact ⟨⟨q', c', he, ho.ls⟩, hb⟩)
  have a6 : ∀ (bs : List UInt8) (l : Nat), bs.length = l → bs.length ≤ 140737488355328 → ∀ (g B : Nat) (W : World), DkAt B W g (one nF bs l 1 0 false 0 0) → Calls Try.prog 14 #[.pointer (some ⟨g, 0, none⟩), .string ⟨#[102]⟩] W fun e w' => e = .returned (.int .i64 0) ∧ RowKit.Below W.heap.size W w' := fun bs l he hb g B W h => by
    have := loose_yes h (nm := nF) rfl okF (one_get _ _ _ _ _ _ _ _) hb
    simp only [he, Nat.sub_self] at this
    exact this
  have HS0 := hide s0
  have HS1 := hide s1
  have HA := hide hA
  have c1 := s1.2.1
  clear s0 s1 hA hlo
  go_enter Try.func4, Try.ntmps4
  go_wp2_with (first
    | (go_at_call 7; refine hf.mono ?_; rintro e w1 ⟨rfl, b1⟩; have B1 := hide b1; have z1 := b1.size; have T0 := hide ((unhide HS0).below b1); have T1 := hide ((unhide HS1).below b1); clear b1)
    | (go_at_call 8; (with_reducible refine (hN w1).mono ?_); rintro e w2 ⟨rfl, d2, b2⟩; have D2 := hide d2; have B2 := hide b2; have z2 := b2.size; clear d2 b2)
    | (go_at_call 10; (with_reducible refine (a1 _ _ w2 (unhide D2) z2 ((unhide T0).below (unhide B2))).mono ?_); rintro e w3 ⟨rfl, d3, b3⟩; have D3 := hide d3; have B3 := hide ((unhide B2).trans b3); have z3 := (unhide B3).size; clear d3 b3)
    | (go_at_call 11; (with_reducible refine (a2 _ _ w3 (unhide D3) z3).mono ?_); rintro e w4 ⟨rfl, d4, b4⟩; have D4 := hide d4; have B4 := hide ((unhide B3).trans b4); have z4 := (unhide B4).size; clear d4 b4))
  clear a1 a2 hf hN
  go_loopw [41] (fun v wr => ∃ i : Nat, i ≤ lo.length ∧ v = .int .i64 (i : Int) ∧ Hid (DkAt w1.heap.size wr (w1.heap.size + 1) (one nF (la ++ lo.take i) la.length 1 (2 + i) false 0 0)) ∧ Hid (RowKit.Below w1.heap.size w1 wr)) (fun v _ => lo.length - (intOf v).toNat)
  case atStart => exact ⟨0, Nat.zero_le _, rfl, hide (by simpa using unhide D4), B4⟩
  case round =>
    obtain ⟨i, hi, rfl, HD, HB⟩ := hrel
    have zr := (unhide HB).size
    by_cases hlt : i < lo.length
    · obtain ⟨y, hy, _⟩ := get_at hlt
      obtain ⟨b, off, hq, hb, cy⟩ := byteAt ((unhide T1).below (unhide HB)) hy
      subst hq
      have a3' := a3 i y hy
      have ki0 : (0 : Int) ≤ (i : Int) := by omega
      have ki1 : (i : Int) < (lo.length : Int) := by omega
      clear a3 hy
      go_wp2_with (go_at_call 10; refine (a3' _ _ wr (unhide HD) zr).mono ?_; rintro e w5 ⟨rfl, d5, b5⟩; have D5 := hide d5; have B5 := hide ((unhide HB).trans b5); clear d5 b5)
      go_roundw
      case rel => exact ⟨i + 1, by omega, by go_num, D5, B5⟩
      case measure => simp [intOf]; omega
    · obtain rfl : i = lo.length := by omega
      have ki1 : ¬ (lo.length : Int) < (lo.length : Int) := by omega
      have cv0 := conv_sl ((unhide T0).below (unhide HB))
      have cv1 := conv_sl ((unhide T1).below (unhide HB))
      have HDA : Hid (DkAt w1.heap.size wr (w1.heap.size + 1) (one nF A la.length 1 (2 + lo.length) false 0 0)) := hide (by have := unhide HD; rw [List.take_length, unhide HA] at this; exact this)
      obtain ⟨S, hS⟩ : ∃ S, ((⟨la.toArray⟩ : ByteArray) ++ (⟨lo.toArray⟩ : ByteArray)) = S := ⟨_, rfl⟩
      have hSx : ∀ n, S.extract 0 n = ⟨(A.take n).toArray⟩ := fun n => by rw [← hS, all_cut, unhide HA]
      have hSs : S.size = A.length := by rw [← hS, ← unhide HA, ByteArray.size_append, List.length_append]; show la.toArray.size + lo.toArray.size = _; simp
      have HSX := hide hSx
      clear a3 hSx
      go_wp2
      clear hS cv0 cv1
      go_loopw [11] (fun v wr2 => ∃ (k : Nat) (o : Bool), k ≤ lo.length + 1 ∧ v = .int .i64 (k : Int) ∧ Hid (DkAt w1.heap.size wr2 (w1.heap.size + 1) (one nF A la.length 1 (2 + lo.length) o 0 0)) ∧ Hid (RowKit.Below w1.heap.size w1 wr2)) (fun v _ => lo.length + 1 - (intOf v).toNat)
      case atStart => exact ⟨0, false, Nat.zero_le _, rfl, HDA, HB⟩
      case round =>
        obtain ⟨k, o, hk, rfl, HD2, HB2⟩ := hrel
        have zr2 := (unhide HB2).size
        by_cases hkl : k ≤ lo.length
        · obtain ⟨N, hNN⟩ : ∃ N, la.length + k = N := ⟨_, rfl⟩
          have a4' := a4 (k : Int) o (2 + lo.length)
          rw [kept_k A la.length lo.length k hAl hkl, hNN] at a4'
          obtain ⟨BS, hBS⟩ : ∃ BS, A.take N = BS := ⟨_, rfl⟩
          rw [hBS] at a4'
          have hBl : BS.length = N := by rw [← hBS, List.length_take]; omega
          have a5' := a5 BS N (by omega)
          have a6' := a6 BS N hBl (by omega)
          rw [hBl] at a5'
          have hx := unhide HSX N
          rw [hBS] at hx
          have HBl := hide hBl
          have hne := neqS ⟨BS.toArray⟩
          have n0 : (0 : Int) ≤ (N : Int) := by omega
          have n1 : (N : Int) ≤ (S.size : Int) := by omega
          have n2 : (la.length : Int) + (k : Int) = (N : Int) := by omega
          have n3 : IntKind.i64.wrap (N : Int) = (N : Int) := wrap_nat _ (by omega)
          have n4 : N ≤ S.size := by omega
          have kk : (k : Int) ≤ (lo.length : Int) := by omega
          clear a4 a5 a6 hBl hBS hNN hSs
          go_wp2_with (first
            | (go_at_call 12; (with_reducible refine (a4' _ _ wr (unhide HD2) zr2).mono ?_); rintro e w6 ⟨⟨gf, rfl, f6⟩, d6, b6⟩; have F6 := hide f6; have D6 := hide d6; have B6 := hide ((unhide HB2).trans b6); have z6 := (unhide B6).size; clear f6 d6 b6)
            | (go_at_call 13; (with_reducible refine (a5' _ _ w6 (unhide F6)).mono ?_); rintro e w7 ⟨⟨q7, c7, rfl, s7⟩, b7⟩; have S7 := hide s7; have F7 := hide ((unhide F6).below b7); have D7 := hide ((unhide D6).below b7); have B7 := hide ((unhide B6).trans (b7.mono z6)); have z7 := (unhide B7).size; clear s7 b7))
          have q7c : ∀ (d : Nat) (os : Array Obj), (convert 30 9 (.slice q7 N c7)).run Try.prog (grow (redrawn w7 d) os) = .ok (.string ⟨BS.toArray⟩) (grow (redrawn w7 d) os) := fun d os => by
            have := conv_sl ((unhide S7).below (below_regrown w7 d os))
            rw [unhide HBl] at this
            exact this
          have h14 := fun (d : Nat) (os : Array Obj) => a6' _ _ (grow (redrawn w7 d) os) ((unhide F7).below (below_regrown w7 d os))
          refine wp_region_quiet_below (by assumption) (by kernel_rfl) ?_
          repeat (go_big_quiet_step (first | (go_at_fn 14; refine Calls.regrown_of (h14 _ _))))
          refine wpQuiet_nil ?_
          intro _ hw'
          obtain ⟨⟨dq, osq⟩, hw''⟩ := hw'
          subst hw''
          go_wp2
          go_roundw
          case rel => exact ⟨k + 1, true, by omega, by go_num, hide ((unhide D7).below (below_regrown _ _ _)), hide ((unhide B7).trans ((below_regrown _ _ _).mono z7))⟩
          case measure => simp [intOf]; omega
        · obtain rfl : k = lo.length + 1 := by omega
          have kk : ¬ ((lo.length + 1 : Nat) : Int) ≤ (lo.length : Int) := by omega
          obtain ⟨N, hNN⟩ : ∃ N, keptN ⟨A, la.length⟩ ch = N := ⟨_, rfl⟩
          have hge := kept_ge A la.length ch
          have hle := kept_le (fl := ⟨A, la.length⟩) (by simp; omega) ch
          simp only at hle
          have a4' := a4 ch o (2 + lo.length)
          rw [hNN] at a4' hge hle
          obtain ⟨BS, hBS⟩ : ∃ BS, A.take N = BS := ⟨_, rfl⟩
          rw [hBS] at a4'
          have hBl : BS.length = N := by rw [← hBS, List.length_take]; omega
          have a5' := a5 BS N (by omega)
          rw [hBl] at a5'
          have hx := unhide HSX N
          rw [hBS] at hx
          have HBl := hide hBl
          have heq := eqlS ⟨BS.toArray⟩
          have n0 : (0 : Int) ≤ (N : Int) := by omega
          have n1 : (N : Int) ≤ (S.size : Int) := by omega
          have n2 : (la.length : Int) ≤ (N : Int) := by omega
          have n4 : N ≤ S.size := by omega
          clear a4 a5 a6 hBl hBS hNN hSs hge hle
          go_wp2_with (first
            | (go_at_call 12; (with_reducible refine (a4' _ _ wr (unhide HD2) zr2).mono ?_); rintro e w6 ⟨⟨gf, rfl, f6⟩, d6, b6⟩; have F6 := hide f6; have B6 := hide ((unhide HB2).trans b6); have z6 := (unhide B6).size; clear f6 d6 b6)
            | (go_at_call 13; (with_reducible refine (a5' _ _ w6 (unhide F6)).mono ?_); rintro e w7 ⟨⟨q7, c7, rfl, s7⟩, b7⟩; have S7 := hide s7; have B7 := hide ((unhide B6).trans (b7.mono z6)); have z7 := (unhide B7).size; clear s7 b7))
          have q7c : ∀ (d : Nat) (os : Array Obj), (convert 30 9 (.slice q7 N c7)).run Try.prog (grow (redrawn w7 d) os) = .ok (.string ⟨BS.toArray⟩) (grow (redrawn w7 d) os) := fun d os => by
            have := conv_sl ((unhide S7).below (below_regrown w7 d os))
            rw [unhide HBl] at this
            exact this
          refine wp_region_quiet_below (by assumption) (by kernel_rfl) ?_
          repeat (go_big_quiet_step (fail))
          refine wpQuiet_nil ?_
          intro _ hw'
          obtain ⟨⟨dq, osq⟩, hw''⟩ := hw'
          subst hw''
          go_wp2
          go_ret
          exact ⟨rfl, (unhide B1).trans (((unhide B7).trans ((below_regrown _ _ _).mono z7)).mono z1)⟩
end Go.Proofs.Ytakjbkgngmkpcaa

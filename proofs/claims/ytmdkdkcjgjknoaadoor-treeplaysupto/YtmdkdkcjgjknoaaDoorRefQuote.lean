/- What the reference's Quote and Decimal return: what the program's do. -/
import Derived.Test.YtmdkdkcjgjknoaaDoorText
import Derived.Lib.ItoaLen
namespace Go.Proofs.YtmdkdkcjgjknoaaDoor
open Go.RowKit


theorem esc_needs {c : UInt8} (h : needs c = true) : esc c = [92, c] := by unfold esc; rw [if_pos h]
theorem esc_prints {c : UInt8} (h : needs c = false) (hp : prints c = true) : esc c = [c] := by unfold esc; rw [if_neg (by simp [h]), if_pos hp]
theorem esc_hex {c : UInt8} (hp : prints c = false) : esc c = [92, 120, hexd (c.toNat / 16), hexd (c.toNat % 16)] := by
  have h : needs c = false := by
    rw [needs_eq]; rw [prints_eq] at hp
    simp at hp ⊢; omega
  unfold esc; rw [if_neg (by simp [h]), if_neg (by simp [hp])]
theorem row_one {B : Nat} {w : World} (hB : B ≤ w.heap.size) : Row B (w.alloc (.cells #[.int .u8 34] 5)) (.slice (some ⟨w.heap.size, 0, none⟩) 1 1) (34 :: escs []) := by
  refine ⟨rfl, .inr ⟨w.heap.size, 1, #[.int .u8 34], rfl, hB, heap_alloc_new _ _, Nat.le_refl _, by unfold maxLen; omega, rfl, rfl⟩⟩

theorem div_facts (c : UInt8) : (c.toNat : Int).tdiv 16 = (c.toNat : Int) / 16 ∧ (c.toNat : Int).tmod 16 = (c.toNat : Int) % 16 ∧ IntKind.u8.wrap ((c.toNat : Int) / 16) = (c.toNat : Int) / 16 ∧ IntKind.u8.wrap ((c.toNat : Int) % 16) = (c.toNat : Int) % 16 ∧ ((c.toNat : Int) / 16) % 256 = (c.toNat : Int) / 16 ∧ ((c.toNat : Int) % 16) % 256 = (c.toNat : Int) % 16 := by
  have := c.toNat_lt
  have e : (2 : Int) ^ IntKind.u8.bits = 256 := by decide
  refine ⟨Int.tdiv_eq_ediv_of_nonneg (by omega), Int.tmod_eq_emod_of_nonneg (by omega), ?_, ?_, by omega, by omega⟩
  · simp [IntKind.wrap, e, show IntKind.u8.signed = false from rfl]; omega
  · simp [IntKind.wrap, e, show IntKind.u8.signed = false from rfl]; omega

set_option maxRecDepth 100000 in
set_option maxHeartbeats 1000000 in
theorem refQuote_any (s : ByteArray) (w : World) (hs : s.size ≤ 1000000000000) :
    Calls Tryd.prog 86 #[.string s] w fun e w' => e = .returned (.string (quoteB s)) ∧ Below w.heap.size w w' := by
  obtain ⟨i0, hi, hz0, hz1, hz2⟩ := info_parts Tryd.info5
  have R := row_one (w := w) (Nat.le_refl _)
  go_enter Tryd.func86, Tryd.ntmps86
  go_wp2
  go_loopw [3, 4] (fun v i wr => ∃ k : Nat, k ≤ s.size ∧ i = .int .i64 k ∧ Row w.heap.size wr v (34 :: escs (s.data.toList.take k)) ∧ Below w.heap.size w wr) (fun _ i _ => s.size - (intOf i).toNat)
  case atStart => exact ⟨0, Nat.zero_le _, rfl, R, (Below.refl _ _).alloc (Nat.le_refl _) _⟩
  case round =>
    clear R
    obtain ⟨k, hk, rfl, hrow, hb⟩ := hrel
    have hle := escs_le (s.data.toList.take k)
    have hl : (s.data.toList.take k).length ≤ k := List.length_take_le _ _
    by_cases hlt : k < s.size
    · have hsn := hide (escs_snoc (s.data.toList.take k) s[k])
      have hts := hide (take_snoc s k hlt)
      have hlb : (34 :: escs (s.data.toList.take k)).length ≤ 5000000000000 := by simp; omega
      generalize hL : (34 :: escs (s.data.toList.take k)) = L at hrow hlb
      have HL := hide hL
      clear hL hle hl
      unfold Row at hrow
      have hBs := hb.size
      have hc := s[k].toNat_lt
      cases hp : prints s[k]
      · have he := hide (esc_hex hp)
        rw [prints_eq] at hp
        have hd := hide (And.intro (show 0 ≤ (s[k].toNat : Int) / 16 by omega) (And.intro (show (s[k].toNat : Int) / 16 < 16 by omega) (And.intro (show 0 ≤ (s[k].toNat : Int) % 16 by omega) (show (s[k].toNat : Int) % 16 < 16 by omega))))
        clear hc
        have hcase : (s[k].toNat : Int) < 32 ∨ (¬ (s[k].toNat : Int) < 32 ∧ (126 : Int) < s[k].toNat) := by simp at hp; omega
        clear hp
        rcases hcase with h32 | ⟨h32, h126⟩
        all_goals
          go_wp2
          obtain ⟨b1, b2, b3, b4⟩ := unhide hd
          clear hd
          obtain ⟨e1, e2, e3, e4, e5, e6⟩ := div_facts s[k]
          go_region_held3 (fun _ => True) (go_keep)
            ((refine step_append_lies _ (by rfl) _ _ _ (by rfl) w.heap.size 5 i0 (.int .u8 0) 1 1 Tryd.underlying55 hi hz0 hz1 hz2 (by rfl) (by decide) u3 L.length (L.map bv) (by rfl) (by exact (hrow.alloc _)) _ 4 4 _ (by rfl) (by rfl) (World.news_of_block (heap_alloc_new _ _)) (by simp [Value.oneCell']) (by decide) (by unfold maxLen; omega) (by omega) (by simp; omega) _ rfl ?_; intro g cap w1 hown1 hgrow hat hlt2))
        all_goals
          rw [hexAt, hexAt, show ((s[k].toNat : Int) / 16).toNat = s[k].toNat / 16 from by omega, show ((s[k].toNat : Int) % 16).toNat = s[k].toNat % 16 from by omega] at hown1
          have R2 := hide (And.intro (row_of (m := [92, 120, hexd (s[k].toNat / 16), hexd (s[k].toNat % 16)]) rfl hown1) (grown_row hrow hBs (((Below.refl _ _).alloc hBs _).drew) (by simp) hgrow))
          clear hown1 hgrow hat hlt2 e1 e2 e3 e4 e5 e6
          go_wp2
          go_roundw
          case rel => exact ⟨k + 1, by omega, by go_num, by rw [unhide hts, unhide hsn, ← List.cons_append, unhide HL, unhide he]; exact (unhide R2).1, hb.trans (unhide R2).2⟩
          case measure => simp [intOf]; omega
      · clear hc
        cases hn : needs s[k]
        · have he := hide (esc_prints hn hp)
          rw [prints_eq] at hp
          rw [needs_eq] at hn
          simp only [Bool.and_eq_true, decide_eq_true_eq, Bool.or_eq_false_iff] at hp hn
          obtain ⟨p1, p2⟩ := hp
          obtain ⟨n1, n2⟩ := hn
          go_wp2_with (at_builtin; go_must (refine wpList_append_own _ rfl _ _ 55 rfl w.heap.size 5 i0 (.int .u8 0) 1 1 Tryd.underlying55 hi hz0 hz1 hz2 rfl (by decide) _ _ _ rfl (hrow.alloc _) ⟨_, 0, none⟩ 1 1 [bv s[k]] rfl rfl news1 (bv_one [s[k]]) (by unfold maxLen; omega) (by omega) (by simp; omega) ?_); intro v2 w2 hown2 hgrow2 hn2; have R2 := hide (And.intro (row_of (m := [s[k]]) rfl hown2) (grown_row hrow hBs ((Below.refl _ _).alloc hBs _) (by simp) hgrow2)); clear hown2 hgrow2 hn2)
          go_roundw
          case rel => exact ⟨k + 1, by omega, by go_num, by rw [unhide hts, unhide hsn, ← List.cons_append, unhide HL, unhide he]; exact (unhide R2).1, hb.trans (unhide R2).2⟩
          case measure => simp [intOf]; omega
        · have he := hide (esc_needs hn)
          rw [prints_eq] at hp
          rw [needs_eq] at hn
          simp only [Bool.and_eq_true, decide_eq_true_eq] at hp
          obtain ⟨p1, p2⟩ := hp
          have hcase : ((s[k].toNat : Int) == 34) = true ∨ (((s[k].toNat : Int) == 34) = false ∧ ((s[k].toNat : Int) == 92) = true) := by
            cases h34 : ((s[k].toNat : Int) == 34)
            · right; rw [h34] at hn; simpa using hn
            · left; rfl
          clear hn
          rcases hcase with n1 | ⟨n1, n2⟩
          all_goals
            go_wp2_with (first
              | (at_builtin; refine wpList_append_own _ rfl (.tmp 37) (.tmp 38) 55 rfl w.heap.size 5 i0 (.int .u8 0) 1 1 Tryd.underlying55 hi hz0 hz1 hz2 rfl (by decide) _ _ _ rfl (hrow.alloc _) ⟨_, 0, none⟩ 1 1 [bv 92] rfl rfl news1 (bv_one [92]) (by unfold maxLen; omega) (by omega) (by simp; omega) ?_; intro v2 w2 hown2 hgrow2 hn2; have R2 := hide (And.intro (row_of (m := [92]) rfl hown2) (grown_row hrow hBs ((Below.refl _ _).alloc hBs _) (by simp) hgrow2)); clear hown2 hgrow2 hn2; have hBs2 : w.heap.size ≤ w2.heap.size := (by have := (unhide R2).2.size; omega); have hl2 : (L ++ [92]).length ≤ 5000000000001 := (by simp; omega); have hrow2 : w2.ownsRow w.heap.size 5 1 v2 (L ++ [92]).length ((L ++ [92]).map bv) := (unhide R2).1; generalize hM : L ++ [92] = M at hrow2 hl2; have HM := hide hM; clear hM)
              | (at_builtin; refine wpList_append_own _ rfl (.tmp 40) (.tmp 42) 55 rfl w.heap.size 5 i0 (.int .u8 0) 1 1 Tryd.underlying55 hi hz0 hz1 hz2 rfl (by decide) _ _ _ rfl (hrow2.alloc _) ⟨_, 0, none⟩ 1 1 [bv s[k]] rfl rfl news1 (bv_one [s[k]]) (by unfold maxLen; omega) (by omega) (by simp; omega) ?_; intro v3 w3 hown3 hgrow3 hn3; have R3 := hide (And.intro (row_of (m := [s[k]]) rfl hown3) (grown_row hrow2 hBs2 ((Below.refl _ _).alloc hBs2 _) (by simp) hgrow3)); clear hown3 hgrow3 hn3))
            go_roundw
            case rel => exact ⟨k + 1, by omega, by go_num, by rw [unhide hts, unhide hsn, ← List.cons_append, unhide HL, unhide he, show L ++ [92, s[k]] = (L ++ [92]) ++ [s[k]] by simp, unhide HM]; exact (unhide R3).1, (hb.trans (unhide R2).2).trans (unhide R3).2⟩
            case measure => simp [intOf]; omega
    · have hend := hide (List.take_of_length_le (l := s.data.toList) (i := k) (by simp; omega))
      unfold Row at hrow
      go_wp2_with (at_builtin; refine wpList_append_own _ rfl _ _ 55 rfl w.heap.size 5 i0 (.int .u8 0) 1 1 Tryd.underlying55 hi hz0 hz1 hz2 rfl (by decide) _ _ _ rfl (hrow.alloc _) ⟨_, 0, none⟩ 1 1 [bv 34] rfl rfl news1 (bv_one [34]) (by unfold maxLen; simp; omega) (by simp; omega) (by have := hb.size; simp; omega) ?_; intro v2 w2 hown2 hgrow2 hn2; have hcv := conv_row (row_of (m := [34]) rfl hown2) (by simp); have hB := hide (grown_row hrow hb.size ((Below.refl _ _).alloc hb.size _) (by simp) hgrow2); clear hown2 hgrow2 hn2 hrow)
      go_ret
      exact ⟨ret_str (by rw [unhide hend]; rfl), hb.trans (unhide hB)⟩


def emptyStr : Value → Nat
  | .string b => if b.size = 0 then 1 else 0
  | _ => 0
def dgt (U : Nat) : UInt8 := UInt8.ofNat (48 + U % 10)
theorem dec_step (U : Nat) : Lib.decDigits U = (if U / 10 = 0 then [] else Lib.decDigits (U / 10)) ++ [dgt U] := by
  conv => lhs; rw [Lib.decDigits]
  by_cases h : U < 10
  · rw [dif_pos h, if_pos (by omega)]
    simp [dgt, Nat.mod_eq_of_lt h]
  · rw [dif_neg h, if_neg (by omega)]; rfl
/-- What the loop keeps: the digits still to be written, and those that are. -/
def DecInv (U0 U : Nat) (t : ByteArray) : Prop := t.size ≤ 20 ∧ ((t.size = 0 ∧ U = U0) ∨ (0 < t.size ∧ Lib.decDigits U0 = (if U = 0 then [] else Lib.decDigits U) ++ t.data.toList))
theorem app_data (d : UInt8) (t : ByteArray) : ((⟨#[d]⟩ : ByteArray) ++ t).data.toList = d :: t.data.toList := by simp
theorem app_size (d : UInt8) (t : ByteArray) : ((⟨#[d]⟩ : ByteArray) ++ t).size = 1 + t.size := by
  rw [ByteArray.size_append]; rfl
theorem decInv_step {U0 U : Nat} {t : ByteArray} (hU0 : U0 < 18446744073709551616) (h : DecInv U0 U t) (hc : 0 < U ∨ t.size = 0) : DecInv U0 (U / 10) (⟨#[dgt U]⟩ ++ t) := by
  have key : Lib.decDigits U0 = (if U / 10 = 0 then [] else Lib.decDigits (U / 10)) ++ (dgt U :: t.data.toList) := by
    rcases h.2 with ⟨h1, rfl⟩ | ⟨h1, h2⟩
    · have : t.data.toList = [] := by rw [← List.length_eq_zero_iff]; simpa using h1
      rw [this, ← dec_step]
    · have hU : 0 < U := by omega
      rw [h2, if_neg (by omega), dec_step U, List.append_assoc]; rfl
  have hlen := congrArg List.length key
  rw [Lib.decDigits_length, List.length_append] at hlen
  have h20 := Lib.nDigits_le20 U0 hU0
  simp only [List.length_cons, Array.length_toList] at hlen
  have hs : t.data.size = t.size := rfl
  refine ⟨by rw [app_size]; omega, Or.inr ⟨by rw [app_size]; omega, by rw [app_data]; exact key⟩⟩
theorem decInv_end {U0 : Nat} {t : ByteArray} (h : DecInv U0 0 t) (ht : 0 < t.size) : t.data.toList = Lib.decDigits U0 := by
  rcases h.2 with ⟨h1, _⟩ | ⟨_, h2⟩
  · omega
  · rw [h2, if_pos rfl]; rfl

theorem conv_dgt (w : World) (U : Nat) : (convert 55 9 (.slice (some ⟨w.heap.size, 0, none⟩) 1 1)).run Tryd.prog (w.alloc (.cells #[.int .u8 (48 + (U : Int) % 10)] 5)) = .ok (.string ⟨#[dgt U]⟩) (w.alloc (.cells #[.int .u8 (48 + (U : Int) % 10)] 5)) := by
  refine run_convert_bytes_back _ 55 9 5 ⟨w.heap.size, 0, none⟩ 1 [dgt U] Tryd.underlying55 Tryd.underlying5 Tryd.underlying9 fun j hj => ?_
  simp only [List.length_singleton] at hj
  obtain rfl : j = 0 := by omega
  have e : ((dgt U).toNat : Int) = 48 + (U : Int) % 10 := by
    unfold dgt
    rw [UInt8.toNat_ofNat', Nat.mod_eq_of_lt (by omega)]
    omega
  simp [Addr.add, e]

theorem u64_neg (n : Int) (h0 : -9223372036854775808 ≤ n) (h1 : n < 0) : IntKind.u64.wrap (-IntKind.u64.wrap n) = ((n.natAbs : Nat) : Int) := by
  have e : (2 : Int) ^ IntKind.u64.bits = 18446744073709551616 := by decide
  simp only [IntKind.wrap, e, show IntKind.u64.signed = false from rfl, Bool.false_and, Bool.false_eq_true, if_false]
  omega
theorem u64_pos (n : Int) (h0 : 0 ≤ n) (h1 : n ≤ 9223372036854775807) : IntKind.u64.wrap n = ((n.toNat : Nat) : Int) := by
  have e : (2 : Int) ^ IntKind.u64.bits = 18446744073709551616 := by decide
  simp only [IntKind.wrap, e, show IntKind.u64.signed = false from rfl, Bool.false_and, Bool.false_eq_true, if_false]
  omega
theorem itoa_neg (n : Int) (t : ByteArray) (h : n < 0) (ht : t.data.toList = Lib.decDigits n.natAbs) : (⟨#[45]⟩ : ByteArray) ++ t = itoaB n := by
  apply WideShapes.bytes_inj
  rw [app_data, ht]
  unfold itoaB Lib.itoa
  rw [if_pos h]
theorem itoa_pos (n : Int) (t : ByteArray) (h : 0 ≤ n) (ht : t.data.toList = Lib.decDigits n.toNat) : t = itoaB n := by
  apply WideShapes.bytes_inj
  rw [ht]
  unfold itoaB Lib.itoa
  rw [if_neg (by omega)]

theorem ret_ba {a b : ByteArray} (h : a = b) : Ending.returned (.string a) = .returned (.string b) := by rw [h]
theorem empty_app (d : UInt8) (t : ByteArray) : emptyStr (.string (⟨#[d]⟩ ++ t)) = 0 := by
  unfold emptyStr
  simp only
  rw [if_neg (by rw [app_size]; omega)]
theorem empty_yes {t : ByteArray} (h : t.size = 0) : emptyStr (.string t) = 1 := by unfold emptyStr; simp only; rw [if_pos h]
theorem u64_div (U : Nat) (h : U < 18446744073709551616) : IntKind.u64.wrap ((U : Int) / 10) = ((U / 10 : Nat) : Int) := by
  have e : (2 : Int) ^ IntKind.u64.bits = 18446744073709551616 := by decide
  simp only [IntKind.wrap, e, show IntKind.u64.signed = false from rfl, Bool.false_and, Bool.false_eq_true, if_false]
  omega
theorem conv_zero (w : World) : (convert 55 9 (.slice (some ⟨w.heap.size, 0, none⟩) 1 1)).run Tryd.prog (w.alloc (.cells #[.int .u8 48] 5)) = .ok (.string ⟨#[dgt 0]⟩) (w.alloc (.cells #[.int .u8 48] 5)) := by
  have := conv_dgt w 0
  simpa using this
theorem u64_eq {a : Int} {b : Nat} (h : a = (b : Int)) : Value.int .u64 a = .int .u64 (b : Int) := by rw [h]
theorem meas_pos {U : Nat} {d : UInt8} {t : ByteArray} (h : U < 18446744073709551616) (h0 : 0 < U) : 2 * (intOf (.int .u64 (IntKind.u64.wrap ((U : Int) / 10)))).toNat + emptyStr (.string (⟨#[d]⟩ ++ t)) < 2 * (intOf (.int .u64 (U : Int))).toNat + emptyStr (.string t) := by
  rw [u64_div U h, empty_app]
  simp only [intOf]
  omega
theorem meas_zero {d : UInt8} {t : ByteArray} (ht : t.size = 0) : 2 * (intOf (.int .u64 0)).toNat + emptyStr (.string (⟨#[d]⟩ ++ t)) < 2 * (intOf (.int .u64 0)).toNat + emptyStr (.string t) := by
  rw [empty_app, empty_yes ht]
  simp only [intOf]
  omega

set_option maxRecDepth 100000 in
set_option maxHeartbeats 400000 in
theorem decimal_neg (n : Int) (w : World) (h0 : -9223372036854775808 ≤ n) (h1 : n < 0) :
    Calls Tryd.prog 81 #[.int .i64 n] w fun e w' => e = .returned (.string (itoaB n)) ∧ Below w.heap.size w w' := by
  obtain ⟨N, hN⟩ : ∃ N, N = n.natAbs := ⟨_, rfl⟩
  have H0 := hide (And.intro (u64_neg n h0 h1) (show N < 18446744073709551616 by omega))
  have H1 := hide (fun t => itoa_neg n t h1)
  have HN := hide hN
  clear h0 hN
  go_enter Tryd.func81, Tryd.ntmps81
  go_wp2
  go_loopw [3, 4] (fun u s wr => ∃ (U : Nat) (t : ByteArray), u = .int .u64 U ∧ s = .string t ∧ Below w.heap.size w wr ∧ DecInv N U t ∧ U ≤ N) (fun u s _ => 2 * (intOf u).toNat + emptyStr s)
  case atStart => exact ⟨N, ⟨#[]⟩, by rw [(unhide H0).1, unhide HN], rfl, Below.refl _ _, ⟨by decide, Or.inl ⟨rfl, rfl⟩⟩, Nat.le_refl _⟩
  case round =>
    obtain ⟨U, t, rfl, rfl, hb, hinv, hle⟩ := hrel
    have ht20 : t.size ≤ 20 := hinv.1
    have Hinv := hide (And.intro hinv hle)
    clear hinv hle
    have hadd := fun W => run_string_add_sum (P := Tryd.prog) W ⟨#[dgt U]⟩ t (by show 1 + t.size ≤ _; omega)
    by_cases hU : (0 : Int) < (U : Int)
    · have hcv := conv_dgt wr U
      have hst := hide (decInv_step (unhide H0).2 (unhide Hinv).1 (Or.inl (by omega)))
      have hlt := hide (show U < 18446744073709551616 by have h1 := (unhide H0).2; have h2 := (unhide Hinv).2; omega)
      go_wp2
      go_roundw
      case rel => exact ⟨U / 10, _, u64_eq (u64_div U (unhide hlt)), rfl, hb.alloc hb.size _, unhide hst, by have := (unhide Hinv).2; omega⟩
      case measure => exact meas_pos (unhide hlt) (by omega)
    · obtain rfl : U = 0 := by omega
      by_cases ht : t.size = 0
      · have hcv := conv_zero wr
        have hst := hide (decInv_step (unhide H0).2 (unhide Hinv).1 (Or.inr ht))
        have he : t.toList.isEmpty = true := (empty_iff t).2 ht
        have Hm := hide ht
        clear ht
        go_wp2
        go_roundw
        case rel => exact ⟨0, _, rfl, rfl, hb.alloc hb.size _, unhide hst, Nat.zero_le _⟩
        case measure => exact meas_zero (unhide Hm)
      · have he : t.toList.isEmpty = false := by cases h : t.toList.isEmpty; rfl; exact absurd ((empty_iff t).1 h) ht
        have hfin := hide (unhide H1 t (by rw [decInv_end (unhide Hinv).1 (by omega), unhide HN]))
        have hadd2 := fun W => run_string_add_sum (P := Tryd.prog) W ⟨#[45]⟩ t (by show 1 + t.size ≤ _; omega)
        clear hadd ht
        go_wp2
        go_ret
        exact ⟨ret_ba (unhide hfin), hb⟩

set_option maxRecDepth 100000 in
set_option maxHeartbeats 400000 in
theorem decimal_pos (n : Int) (w : World) (h0 : 0 ≤ n) (h1 : n ≤ 9223372036854775807) :
    Calls Tryd.prog 81 #[.int .i64 n] w fun e w' => e = .returned (.string (itoaB n)) ∧ Below w.heap.size w w' := by
  obtain ⟨N, hN⟩ : ∃ N, N = n.toNat := ⟨_, rfl⟩
  have H0 := hide (And.intro (u64_pos n h0 h1) (show N < 18446744073709551616 by omega))
  have H1 := hide (fun t => itoa_pos n t h0)
  have HN := hide hN
  clear h1 hN
  go_enter Tryd.func81, Tryd.ntmps81
  go_wp2
  go_loopw [3, 4] (fun u s wr => ∃ (U : Nat) (t : ByteArray), u = .int .u64 U ∧ s = .string t ∧ Below w.heap.size w wr ∧ DecInv N U t ∧ U ≤ N) (fun u s _ => 2 * (intOf u).toNat + emptyStr s)
  case atStart => exact ⟨N, ⟨#[]⟩, by rw [(unhide H0).1, unhide HN], rfl, Below.refl _ _, ⟨by decide, Or.inl ⟨rfl, rfl⟩⟩, Nat.le_refl _⟩
  case round =>
    obtain ⟨U, t, rfl, rfl, hb, hinv, hle⟩ := hrel
    have ht20 : t.size ≤ 20 := hinv.1
    have Hinv := hide (And.intro hinv hle)
    clear hinv hle
    have hadd := fun W => run_string_add_sum (P := Tryd.prog) W ⟨#[dgt U]⟩ t (by show 1 + t.size ≤ _; omega)
    by_cases hU : (0 : Int) < (U : Int)
    · have hcv := conv_dgt wr U
      have hst := hide (decInv_step (unhide H0).2 (unhide Hinv).1 (Or.inl (by omega)))
      have hlt := hide (show U < 18446744073709551616 by have h1 := (unhide H0).2; have h2 := (unhide Hinv).2; omega)
      go_wp2
      go_roundw
      case rel => exact ⟨U / 10, _, u64_eq (u64_div U (unhide hlt)), rfl, hb.alloc hb.size _, unhide hst, by have := (unhide Hinv).2; omega⟩
      case measure => exact meas_pos (unhide hlt) (by omega)
    · obtain rfl : U = 0 := by omega
      by_cases ht : t.size = 0
      · have hcv := conv_zero wr
        have hst := hide (decInv_step (unhide H0).2 (unhide Hinv).1 (Or.inr ht))
        have he : t.toList.isEmpty = true := (empty_iff t).2 ht
        have Hm := hide ht
        clear ht
        go_wp2
        go_roundw
        case rel => exact ⟨0, _, rfl, rfl, hb.alloc hb.size _, unhide hst, Nat.zero_le _⟩
        case measure => exact meas_zero (unhide Hm)
      · have he : t.toList.isEmpty = false := by cases h : t.toList.isEmpty; rfl; exact absurd ((empty_iff t).1 h) ht
        have hfin := hide (unhide H1 t (by rw [decInv_end (unhide Hinv).1 (by omega), unhide HN]))
        clear hadd ht
        go_wp2
        go_ret
        exact ⟨ret_ba (unhide hfin), hb⟩

theorem decimal_any (n : Int) (w : World) (h0 : -9223372036854775808 ≤ n) (h1 : n ≤ 9223372036854775807) :
    Calls Tryd.prog 81 #[.int .i64 n] w fun e w' => e = .returned (.string (itoaB n)) ∧ Below w.heap.size w w' := by
  by_cases h : n < 0
  · exact decimal_neg n w h0 h
  · exact decimal_pos n w (by omega) h1

end Go.Proofs.YtmdkdkcjgjknoaaDoor

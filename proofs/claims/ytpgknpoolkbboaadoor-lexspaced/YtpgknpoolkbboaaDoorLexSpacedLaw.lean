/- The law LexSpaced returns true, whatever the text and the numbers. -/
import Derived.Test.YtpgknpoolkbboaaDoorLexSpPlain
import Derived.Test.YtpgknpoolkbboaaDoorLexCoversLaw
namespace Go.Proofs.YtpgknpoolkbboaaDoor
open Go.RowKit

theorem wrap_small (n : Nat) (h : n ≤ 3) : IntKind.i64.wrap (n : Int) = n := by
  obtain rfl | rfl | rfl | rfl : n = 0 ∨ n = 1 ∨ n = 2 ∨ n = 3 := by omega
  all_goals decide
theorem wrap_small1 (n : Nat) (h : n ≤ 3) : IntKind.i64.wrap ((n : Int) + 1) = (n : Int) + 1 := by
  obtain rfl | rfl | rfl | rfl : n = 0 ∨ n = 1 ∨ n = 2 ∨ n = 3 := by omega
  all_goals decide
theorem and3 (b : Int) : ∃ n : Nat, n ≤ 3 ∧ bits .and .i64 b 3 = (n : Int) := by
  have h : ((BitVec.ofInt 64 b) &&& (BitVec.ofInt 64 3)).toNat ≤ 3 := by
    rw [BitVec.toNat_and]; exact Nat.le_trans Nat.and_le_right (by decide)
  refine ⟨_, h, ?_⟩
  exact wrap_small _ h
theorem ext4 (n : Nat) (h : n ≤ 3) : ((⟨#[32, 9, 10, 13]⟩ : ByteArray).extract n (n + 1)).data.toList = [blk4 (n : Int)] := by
  obtain rfl | rfl | rfl | rfl : n = 0 ∨ n = 1 ∨ n = 2 ∨ n = 3 := by omega
  all_goals rfl
/-- How a token is written. -/
def WrC (x : Tok) (y : ByteArray) : Prop :=
  (x.1 = 2 ∧ x.2.2.2.2 = ⟨#[]⟩ ∧ -2147483648 ≤ x.2.2.2.1 ∧ x.2.2.2.1 ≤ 2147483647 ∧ y.data.toList = Lib.itoa x.2.2.2.1) ∨ (x.1 = 3 ∧ x.2.2.2.1 = 0 ∧ x.2.2.2.2.size ≤ 64 ∧ y.data.toList = quoteL x.2.2.2.2.data.toList) ∨ ((x.1 = 1 ∨ x.1 = 4) ∧ x.2.2.2.1 = 0 ∧ y.data.toList = x.2.2.2.2.data.toList)
theorem ToGo.texts {s : ByteArray} : ∀ (l : List Tok) (k : Nat), ToGo s k l → ∃ ys : List (List UInt8), ys.length = l.length ∧ Each l ys ∧ (∀ (j : Nat) (x : Tok) (y : List UInt8), l[j]? = some x → ys[j]? = some y → WrC x ⟨y.toArray⟩) ∧ ∀ y ∈ ys, y.length ≤ s.size := by
  intro l
  induction l with
  | nil => intro k _; exact ⟨[], rfl, .nil, by simp, by simp⟩
  | cons x l ih =>
    intro k h
    obtain ⟨b, n, e1, e2, hn, hle, hbl, htk, hnx⟩ := h.next
    obtain ⟨ys, h1, h2, h3, h4⟩ := ih _ hnx
    have hsz : s.data.size = s.size := rfl
    have hlen : ((s.data.toList.drop (k + b)).take n).length = n := by simp; omega
    refine ⟨(s.data.toList.drop (k + b)).take n :: ys, by simp [h1], .cons ?_ h2, ?_, ?_⟩
    · have := tokL_take htk n (Nat.le_refl _)
      unfold Wr; rw [hlen]; exact this
    · intro j x' y' hx hy
      cases j with
      | zero =>
        simp only [List.getElem?_cons_zero, Option.some.injEq] at hx hy
        subst hx hy
        exact tok_cases htk
      | succ j =>
        simp only [List.getElem?_cons_succ] at hx hy
        exact h3 j x' y' hx hy
    · intro y hy
      rcases List.mem_cons.1 hy with rfl | hy
      · rw [hlen]; omega
      · exact h4 y hy
theorem sepL_len (bl : List Int) (i : Nat) : (sepL bl i).length ≤ 2 := by
  unfold sepL
  split <;> split <;> simp
theorem spc_len (bl : List Int) (C : Nat) : ∀ (ys : List (List UInt8)) (i : Nat), (∀ y ∈ ys, y.length ≤ C) → (spc bl i ys).length ≤ (C + 2) * ys.length := by
  intro ys
  induction ys with
  | nil => intro i _; simp [spc]
  | cons y ys ih =>
    intro i h
    have h1 := ih (i + 1) (fun y hy => h y (List.mem_cons_of_mem _ hy))
    have h2 := h y List.mem_cons_self
    have h3 := sepL_len bl i
    show (sepL bl i ++ y ++ spc bl (i + 1) ys).length ≤ _
    simp only [List.length_append, List.length_cons, Nat.mul_add, Nat.mul_one]
    omega
theorem sepL_00 {bl : List Int} {i : Nat} (hi : ¬ 0 < i) (h : ¬ i < bl.length) : sepL bl i = [] := by
  unfold sepL; rw [List.getElem?_eq_none (by omega), if_neg hi]; simp
theorem sepL_01 {bl : List Int} {i : Nat} {b : Int} (hi : ¬ 0 < i) (h : bl[i]? = some b) : sepL bl i = [blk4 b] := by
  unfold sepL; rw [h, if_neg hi]; simp
theorem sepL_10 {bl : List Int} {i : Nat} (hi : 0 < i) (h : ¬ i < bl.length) : sepL bl i = [32] := by
  unfold sepL; rw [List.getElem?_eq_none (by omega), if_pos hi]; simp
theorem sepL_11 {bl : List Int} {i : Nat} {b : Int} (hi : 0 < i) (h : bl[i]? = some b) : sepL bl i = [32, blk4 b] := by
  unfold sepL; rw [h, if_pos hi]; simp
theorem spc_cons (bl : List Int) (i : Nat) (x : List UInt8) (xs : List (List UInt8)) : spc bl i (x :: xs) = sepL bl i ++ x ++ spc bl (i + 1) xs := rfl
theorem app_bytes (a b : ByteArray) : (a ++ b).data.toList = a.data.toList ++ b.data.toList := by simp
/-- Numbers in memory. -/
def IntsOf (w : World) (q : Option Addr) (l : List Int) : Prop := l ≠ [] → ∃ b off, q = some ⟨b, off, none⟩ ∧ b < w.heap.size ∧ ∀ j x, l[j]? = some x → w.cell? ⟨b, off + j, none⟩ = some (.int .i64 x)
set_option maxHeartbeats 1000000 in
theorem lexSpaced_long (s : ByteArray) (v : Value) (w : World) (hG : G w) (hs : 4096 < s.size) : Calls Tryd.prog 6 #[.string s, v] w fun e w' => e = .returned (.bool true) ∧ Below w.heap.size w w' := by
  have hfx := fixed_any w hG
  have h1 := fun w => tokens_long s w hs
  go_enter Tryd.func6, Tryd.ntmps6
  go_wp2_with (first
    | (go_at_call 9; refine hfx.mono ?_; rintro e w0 ⟨rfl, b0⟩; have B0 := hide b0; clear b0)
    | (go_at_call 10; refine (h1 _).mono ?_; rintro e w' ⟨rfl, hw⟩; obtain rfl := hw.symm; clear hw))
  go_ret
  exact ⟨rfl, unhide B0⟩
set_option maxHeartbeats 1000000 in
theorem lexSpaced_bad (s : ByteArray) (v : Value) (w : World) (hG : G w) (hs : s.size ≤ 4096) (l : List Tok) (p : Nat) (h : toksL s.data.toList 0 = (l, some p)) : Calls Tryd.prog 6 #[.string s, v] w fun e w' => e = .returned (.bool true) ∧ Below w.heap.size w w' := by
  have hfx := fixed_any w hG
  have h1 := fun w hG => tokens_bad s hs l p h w hG
  clear h
  go_enter Tryd.func6, Tryd.ntmps6
  go_wp2_with (first
    | (go_at_call 9; refine hfx.mono ?_; rintro e w0 ⟨rfl, b0⟩; have B0 := hide b0; clear b0)
    | (go_at_call 10; refine (h1 _ (by exact G_below hG (unhide B0))).mono ?_; rintro e w1 ⟨rfl, b1⟩; have B1 := hide (below_sub (unhide B0) b1); clear b1))
  go_ret
  exact ⟨rfl, unhide B1⟩
set_option maxHeartbeats 4000000 in
theorem lexSpaced_ok (s : ByteArray) (qb : Option Addr) (capb : Nat) (bl : List Int) (w : World) (hG : G w) (hs : s.size ≤ 4096) (l : List Tok) (hl : l.length ≤ 4096) (h : toksL s.data.toList 0 = (l, none)) (hI : IntsOf w qb bl) :
    Calls Tryd.prog 6 #[.string s, .slice qb bl.length capb] w fun e w' => e = .returned (.bool true) ∧ Below w.heap.size w w' := by
  have hfx := fixed_any w hG
  have h1 := fun w hG => tokens_ok s hs l h w hG
  obtain ⟨ys, y1, y2, y3, y4⟩ := (ToGo.first h).texts
  obtain ⟨bs, Hbs⟩ : ∃ bs, bl.map (fun b => bits .and .i64 b 3) = bs := ⟨_, rfl⟩
  have hbsl : bs.length = bl.length := by rw [← Hbs]; simp
  obtain ⟨zs, z1, z2⟩ := spc_toks bs l ys 0 0 y2
  have ylen := spc_len bs 4096 ys 0 (fun y hy => Nat.le_trans (y4 y hy) hs)
  rw [y1] at ylen
  have ylen2 : (spc bs 0 ys).length ≤ 16785408 := Nat.le_trans ylen (by have := Nat.mul_le_mul_left 4098 hl; omega)
  have Y1 := hide y1
  have Y3 := hide y3
  have Z1 := hide z1
  have Z2 := hide z2
  have HI := hide hI
  clear h y1 y2 y3 y4 z1 z2 ylen hI
  go_enter Tryd.func6, Tryd.ntmps6
  go_wp2_with (first
    | (go_at_call 9; refine hfx.mono ?_; rintro e w0 ⟨rfl, b0⟩; have B0 := hide b0; clear b0)
    | (go_at_call 10; refine (h1 _ (by exact G_below hG (unhide B0))).mono ?_; rintro e w1 ⟨⟨q, cap, rfl, k1⟩, b1⟩; have B1 := hide (below_sub (unhide B0) b1); have K1 := hide k1; clear b1 k1))
  clear hfx h1
  go_loopw [8, 26] (fun v i wr => ∃ (x : ByteArray) (j : Nat), v = .string x ∧ i = .int .i64 j ∧ j ≤ l.length ∧ x.data.toList ++ spc bs j (ys.drop j) = spc bs 0 ys ∧ Below w1.heap.size w1 wr) (fun _ i _ => l.length - (intOf i).toNat)
  case atStart => exact ⟨⟨#[]⟩, 0, rfl, rfl, by omega, by simp, Below.refl _ _⟩
  case round =>
    obtain ⟨x, j, rfl, rfl, hj, hx, hbel⟩ := hrel
    obtain ⟨U, rfl⟩ : ∃ U, U = wr := ⟨_, rfl⟩
    have hxs : x.size ≤ 16785408 := by
      have := congrArg List.length hx
      simp only [List.length_append, Array.length_toList] at this
      have h2 : x.data.size = x.size := rfl
      omega
    by_cases hlt : j < l.length
    · obtain ⟨bb, off, rfl, hbb, hAt⟩ := unhide K1 (by omega)
      obtain ⟨tk, htk, hxd⟩ := get_at hlt
      clear hxd
      obtain ⟨y, hy, hyd⟩ := get_at (l := ys) (k := j) (by have := unhide Y1; omega)
      have ki0 : (0 : Int) ≤ (j : Int) := by omega
      have ki1 : (j : Int) < (l.length : Int) := by omega
      obtain ⟨g0, g1, g2, g3, g4⟩ := hAt.below hbel hbb j tk htk
      have hwc := unhide Y3 j tk y htk hy
      obtain ⟨x1, x2, x3, x4, x5⟩ := tk
      simp only [WrC] at g0 g1 g2 g3 g4 hwc
      have hwa := fun w hG => written_any x1 x2 x3 x4 x5 ⟨y.toArray⟩ w hG hwc
      have hyl : y.length ≤ 16785408 := by
        rw [drop_cons hy, spc_cons] at hx
        have := congrArg List.length hx
        simp only [List.length_append] at this
        omega
      rw [drop_cons hy, spc_cons] at hx
      have HX := hide hx
      have HB := hide hbel
      clear hx hbel htk hwc hy hyd hAt
      have hGU := G_alloc (G_below (G_below hG (unhide B1)) (unhide HB)) (.cells #[.int .i64 x1, .int .i64 x2, .int .i64 x3, .int .i64 x4, .string x5] 31)
      have HGU := hide hGU
      clear hGU
      by_cases hj0 : 0 < j
      · have e0 : (0 : Int) < (j : Int) := by omega
        by_cases hjb : j < bl.length
        · obtain ⟨b', off', rfl, hb', hIc⟩ := unhide HI (by intro h0; rw [h0] at hjb; simp at hjb)
          obtain ⟨bv, hbv, hbd⟩ := get_at hjb
          clear hbd
          have hc := ((unhide HB).cell (p := ⟨b', off' + j, none⟩) (by have := (unhide B1).size; show b' < _; omega)).trans (((unhide B1).cell (p := ⟨b', off' + j, none⟩) hb').trans (hIc j bv hbv))
          obtain ⟨bn, bn1, bn2⟩ := and3 bv
          have HS := hide (sepL_11 (bl := bs) (i := j) (b := bn) hj0 (by rw [← Hbs, List.getElem?_map, hbv]; simp [bn2]))
          have bi1 : (j : Int) < (bl.length : Int) := by omega
          have bi2 : (bn : Int) ≤ 3 := by omega
          have bi3 : (0 : Int) ≤ (bn : Int) := by omega
          have bi4 : (bn : Int) ≤ (bn : Int) + 1 := by omega
          have bi5 : (bn : Int) + 1 ≤ 4 := by omega
          have bi6 : IntKind.i64.wrap ((bn : Int) + 1) = (bn : Int) + 1 := wrap_small1 bn bn1
          have hq : ¬ 9223372036854775807 < x.size + 1 + 1 := by omega
          have HIc := hide hIc
          clear hIc hbv
          go_wp2
          go_region_held3 (fun w' => w'.cell? ⟨b', off' + j, none⟩ = some (.int .i64 bv)) (go_keep) (fail)
          go_wp2_with (go_at_call 15; refine (hwa _ (by exact G_below (unhide HGU) (Below.refl _ _).drew)).mono ?_; rintro e w3 ⟨rfl, hb⟩)
          exact ⟨⟨_, j + 1, rfl, by go_num, by omega, by rw [app_bytes, app_bytes, app_bytes, ext4 bn bn1, ← unhide HX, unhide HS]; simp, ((unhide HB).alloc (unhide HB).size _).drew.trans (hb.mono (by simp; have := (unhide HB).size; omega))⟩, by simp [intOf]; omega⟩
        · have HS := hide (sepL_10 (bl := bs) (i := j) hj0 (by omega))
          have bi1 : ¬ (j : Int) < (bl.length : Int) := by omega
          go_wp2_with (go_at_call 15; refine (hwa _ (by exact unhide HGU)).mono ?_; rintro e w3 ⟨rfl, hb⟩)
          exact ⟨⟨_, j + 1, rfl, by go_num, by omega, by rw [app_bytes, app_bytes, ← unhide HX, unhide HS]; simp, ((unhide HB).alloc (unhide HB).size _).trans (hb.mono (by simp; have := (unhide HB).size; omega))⟩, by simp [intOf]; omega⟩
      · have e0 : ¬ (0 : Int) < (j : Int) := by omega
        by_cases hjb : j < bl.length
        · obtain ⟨b', off', rfl, hb', hIc⟩ := unhide HI (by intro h0; rw [h0] at hjb; simp at hjb)
          obtain ⟨bv, hbv, hbd⟩ := get_at hjb
          clear hbd
          have hc := ((unhide HB).cell (p := ⟨b', off' + j, none⟩) (by have := (unhide B1).size; show b' < _; omega)).trans (((unhide B1).cell (p := ⟨b', off' + j, none⟩) hb').trans (hIc j bv hbv))
          obtain ⟨bn, bn1, bn2⟩ := and3 bv
          have HS := hide (sepL_01 (bl := bs) (i := j) (b := bn) hj0 (by rw [← Hbs, List.getElem?_map, hbv]; simp [bn2]))
          have bi1 : (j : Int) < (bl.length : Int) := by omega
          have bi2 : (bn : Int) ≤ 3 := by omega
          have bi3 : (0 : Int) ≤ (bn : Int) := by omega
          have bi4 : (bn : Int) ≤ (bn : Int) + 1 := by omega
          have bi5 : (bn : Int) + 1 ≤ 4 := by omega
          have bi6 : IntKind.i64.wrap ((bn : Int) + 1) = (bn : Int) + 1 := wrap_small1 bn bn1
          have hq : ¬ 9223372036854775807 < x.size + 1 := by omega
          have HIc := hide hIc
          clear hIc hbv
          go_wp2
          go_region_held3 (fun w' => w'.cell? ⟨b', off' + j, none⟩ = some (.int .i64 bv)) (go_keep) (fail)
          go_wp2_with (go_at_call 15; refine (hwa _ (by exact G_below (unhide HGU) (Below.refl _ _).drew)).mono ?_; rintro e w3 ⟨rfl, hb⟩)
          exact ⟨⟨_, j + 1, rfl, by go_num, by omega, by rw [app_bytes, app_bytes, ext4 bn bn1, ← unhide HX, unhide HS]; simp, ((unhide HB).alloc (unhide HB).size _).drew.trans (hb.mono (by simp; have := (unhide HB).size; omega))⟩, by simp [intOf]; omega⟩
        · have HS := hide (sepL_00 (bl := bs) (i := j) hj0 (by omega))
          have bi1 : ¬ (j : Int) < (bl.length : Int) := by omega
          go_wp2_with (go_at_call 15; refine (hwa _ (by exact unhide HGU)).mono ?_; rintro e w3 ⟨rfl, hb⟩)
          exact ⟨⟨_, j + 1, rfl, by go_num, by omega, by rw [app_bytes, ← unhide HX, unhide HS]; simp, ((unhide HB).alloc (unhide HB).size _).trans (hb.mono (by simp; have := (unhide HB).size; omega))⟩, by simp [intOf]; omega⟩
    · have ki1 : ¬ (j : Int) < (l.length : Int) := by omega
      rw [List.drop_of_length_le (by have := unhide Y1; omega)] at hx
      have hx2 : x.data.toList = spc bs 0 ys := by simpa [spc] using hx
      have HZ := unhide Z1
      rw [← hx2] at HZ
      have HB := hide hbel
      have HL := hide (Nat.le_trans hl (show 4096 ≤ 1000000000 by omega))
      clear hx hx2 hbel
      by_cases hxl : 4096 < x.size
      · have h2 := fun w => tokens_long x w hxl
        have e1 : (4096 : Int) < (x.size : Int) := by omega
        go_wp2_with (go_at_call 10; refine (h2 _).mono ?_; rintro e w' ⟨rfl, hw⟩; obtain rfl := hw.symm; clear hw)
        go_ret
        exact ⟨rfl, below_sub (unhide B1) (unhide HB)⟩
      · have h2 := fun w hG => tokens_ok x (by omega) zs HZ w hG
        have e1 : ¬ (4096 : Int) < (x.size : Int) := by omega
        have HGU := hide (G_below (G_below hG (unhide B1)) (unhide HB))
        have h3 := fun q q' cap cap' w (h : TksOf w q l) (h' : TksOf w q' zs) => same_loose q q' cap cap' l zs w (unhide HL) h h' (unhide Z2)
        clear HZ
        go_wp2_with (first
          | (go_at_call 10; refine (h2 _ (by exact unhide HGU)).mono ?_; rintro e w2 ⟨⟨q2, cap2, rfl, k2⟩, b2⟩; have B2 := hide (below_sub (unhide HB) b2); have K2 := hide k2; clear b2 k2)
          | (go_at_call 12; refine (h3 _ _ _ _ _ (by exact (unhide K1).below (unhide B2)) (unhide K2)).mono ?_; rintro e w4 ⟨rfl, b4⟩; have B4 := hide (below_sub (unhide B2) b4); clear b4))
        go_ret
        exact ⟨rfl, below_sub (unhide B1) (unhide B4)⟩
theorem lexSpaced_any (s : ByteArray) (qb : Option Addr) (capb : Nat) (bl : List Int) (w : World) (hG : G w) (hI : IntsOf w qb bl) : Calls Tryd.prog 6 #[.string s, .slice qb bl.length capb] w fun e w' => e = .returned (.bool true) ∧ Below w.heap.size w w' := by
  by_cases hs : 4096 < s.size
  · exact lexSpaced_long s _ w hG hs
  · cases h : toksL s.data.toList 0 with
    | mk l r =>
      cases r with
      | some p => exact lexSpaced_bad s _ w hG (by omega) l p h
      | none =>
        have := toksL_len s.data.toList.length s.data.toList 0 (Nat.le_refl _)
        rw [h] at this
        simp only [Array.length_toList] at this
        have h4 : s.data.size = s.size := rfl
        exact lexSpaced_ok s qb capb bl w hG (by omega) l (by omega) h hI
end Go.Proofs.YtpgknpoolkbboaaDoor

/- Sums behind bytes, heads, which change may be: what the program answers. -/
import Derived.Test.YtfigjfmldpfjkaaGreatEnc1
namespace Go.Proofs.YtfigjfmldpfjkaaGreat
open Go.RowKit Go.Sort

theorem wrap8 (n : Nat) : IntKind.u8.wrap (n : Int) = ((UInt8.ofNat n).toNat : Int) := by rw [low_byte, toNat_of]
/-- One slice of bytes in a new block. -/
theorem slQ {w : World} {x : Sl} : SlOf encQ 1 (w.alloc (.cells #[.slice x.1 x.2.2.length x.2.1] 40)) (some ⟨w.heap.size, 0, none⟩) 1 [x] := by
  refine ⟨(fun h => by cases h), Nat.le_refl _, by unfold maxLen; omega, LsOf.one (by simp) fun c hc => ?_⟩
  obtain rfl : c = 0 := by omega
  rw [cellA]; rfl

set_option maxHeartbeats 1000000 in
theorem seal_any (q : Option Addr) (c : Nat) (l : List UInt8) (w : World) (h : SlOf encB 1 w q c l) (hl : l.length ≤ 1000000000000000) :
    Calls Tryz.prog 117 #[.slice q l.length c] w fun e w' => ∃ W, Below w.heap.size w W ∧ e = .returned (.slice (some ⟨W.heap.size, 0, none⟩) 4 4) ∧ w' = W.alloc (.cells ((four (sumB l)).map bv).toArray 5) := by
  have hb1 : Below w.heap.size w (w.alloc (.cells #[.slice q l.length c] 40)) := (Below.refl _ _).alloc (Nat.le_refl _) _
  have hs := sum_any (some ⟨w.heap.size, 0, none⟩) 1 [(q, c, l)] _ (slQ (w := w) (x := (q, c, l))) (by simp) (fun x hx => by
    obtain rfl : x = (q, c, l) := by simpa using hx
    exact ⟨h.below hb1, hl⟩)
  rw [show allB [(q, c, l)] = l by simp [allB]] at hs
  have hlt := sumB_lt l
  generalize sumB l = S at hs hlt ⊢
  have e0 := wrap8 S
  have d1 : (S : Int) / 256 = ((S / 256 : Nat) : Int) := by omega
  have d2 : (S : Int) / 65536 = ((S / 65536 : Nat) : Int) := by omega
  have d3 : (S : Int) / 16777216 = ((S / 16777216 : Nat) : Int) := by omega
  have e1 := wrap8 (S / 256)
  have e2 := wrap8 (S / 65536)
  have e3 := wrap8 (S / 16777216)
  have HB1 := hide hb1
  unfold four
  generalize S / 256 = S1 at *
  generalize S / 65536 = S2 at *
  generalize S / 16777216 = S3 at *
  generalize UInt8.ofNat S = y0 at *
  generalize UInt8.ofNat S1 = y1 at *
  generalize UInt8.ofNat S2 = y2 at *
  generalize UInt8.ofNat S3 = y3 at *
  clear h hb1
  go_enter Tryz.func117, Tryz.ntmps117
  go_wp2_with (go_at_call 129; refine hs.mono ?_; rintro e w1 ⟨rfl, rfl⟩)
  go_ret
  exact ⟨_, unhide HB1, by simp, rfl⟩

set_option maxHeartbeats 1000000 in
theorem sealed_any (B : Nat) (q : Option Addr) (cap : Nat) (l : List UInt8) (w : World) (ho : OwnK encB 5 1 B w q cap l) (hB : B ≤ w.heap.size) (hl : l.length ≤ 100000000000000) :
    Calls Tryz.prog 100 #[.slice q l.length cap] w fun e w' => (∃ q' cap', e = .returned (.slice q' (sealB l).length cap') ∧ OwnK encB 5 1 B w' q' cap' (sealB l)) ∧ Below B w w' := by
  have hs := seal_any q cap l w ho.ls (by omega)
  have HO := hide ho
  clear ho
  go_enter Tryz.func100, Tryz.ntmps100
  go_wp2_with (first
    | (go_at_call 117; refine hs.mono ?_; rintro e w1 ⟨W, hW, rfl, rfl⟩; have HW := hide hW; have sW := hW.size; clear hW)
    | (at_builtin; refine wpList_app rowB rfl _ _ rfl B q cap l (some ⟨W.heap.size, 0, none⟩) 4 (four (sumB l)) l.length 4 (l.length + 4) rfl rfl rfl rfl rfl (((unhide HO).below (unhide HW)).grow _) (srcA _ _ _) (by unfold maxLen; omega) (by omega) (by simp; omega) ?_; intro q2 c2 w2 ho2 hb2 _ _; have O2 := hide ho2; have B2 := hide (((unhide HW).mono hB).trans (((Below.refl B W).alloc (by omega) _).trans hb2)); clear ho2 hb2))
  go_ret
  exact ⟨⟨q2, c2, by simp [sealB, four], unhide O2⟩, unhide B2⟩

set_option maxHeartbeats 400000 in
theorem next_any (n : Int) (w : World) : Calls Tryz.prog 101 #[.int .i64 n] w fun e w' => e = .returned (.bool (decide (1 ≤ n ∧ n ≤ 1099511627777))) ∧ w' = w := by
  by_cases h1 : 1 ≤ n
  · by_cases h2 : n ≤ 1099511627777
    · rw [decide_eq_true (⟨h1, h2⟩ : 1 ≤ n ∧ n ≤ 1099511627777)]
      go_enter Tryz.func101, Tryz.ntmps101
      go_wp2
      go_ret
      exact ⟨rfl, rfl⟩
    · rw [decide_eq_false (fun h => h2 h.2)]
      go_enter Tryz.func101, Tryz.ntmps101
      go_wp2
      go_ret
      exact ⟨rfl, rfl⟩
  · rw [decide_eq_false (fun h => h1 h.1)]
    go_enter Tryz.func101, Tryz.ntmps101
    go_wp2
    go_ret
    exact ⟨rfl, rfl⟩
/-- A head. -/
def headB (n : Nat) : List UInt8 := sealB (72 :: vint n)
set_option maxHeartbeats 1000000 in
theorem head_no (n : Int) (hn : ¬ (1 ≤ n ∧ n ≤ 1099511627777)) (w : World) :
    Calls Tryz.prog 71 #[.int .i64 n] w fun e w' => e = .returned (.tuple #[.slice none 0 0, .int .i64 2]) ∧ w' = w := by
  have h := next_any n w
  rw [decide_eq_false hn] at h
  go_enter Tryz.func71, Tryz.ntmps71
  go_wp2_with (go_at_call 101; refine h.mono ?_; rintro e w1 ⟨rfl, rfl⟩)
  refine bodyPost_ret (v := .tuple #[.slice none 0 0, .int .i64 2]) (by simp [results, Tryz.f71, go_sem]) rfl ?_
  exact ⟨rfl, rfl⟩
set_option maxHeartbeats 1000000 in
theorem head_yes (n : Nat) (h1 : 1 ≤ n) (h2 : n ≤ 1099511627777) (w : World) :
    Calls Tryz.prog 71 #[.int .i64 (n : Int)] w fun e w' => (∃ q c, e = .returned (.tuple #[.slice q (headB n).length c, .int .i64 0]) ∧ OwnK encB 5 1 w.heap.size w' q c (headB n)) ∧ Below w.heap.size w w' := by
  have h := next_any (n : Int) w
  rw [decide_eq_true (by omega : 1 ≤ (n : Int) ∧ (n : Int) ≤ 1099511627777)] at h
  have hv := vint_any w.heap.size _ _ [72] n _ (ownA w w.heap.size [72] (Nat.le_refl _) (by unfold maxLen; simp)) (by simp) (by simp) (by omega)
  have hl := vint_len9 n (by omega)
  go_enter Tryz.func71, Tryz.ntmps71
  go_wp2_with (first
    | (go_at_call 101; refine h.mono ?_; rintro e w1 ⟨rfl, hw1⟩; obtain rfl := hw1.symm)
    | (go_at_call 99; refine hv.mono ?_; rintro e w2 ⟨⟨q2, c2, rfl, o2⟩, b2⟩; have O2 := hide o2; have B2 := hide (((Below.refl w.heap.size w).alloc (Nat.le_refl _) _).trans b2); clear o2 b2)
    | (go_at_call 100; refine (sealed_any w.heap.size q2 c2 ([72] ++ vint n) w2 (unhide O2) (unhide B2).size (by simp; omega)).mono ?_; rintro e w3 ⟨⟨q3, c3, rfl, o3⟩, b3⟩; have O3 := hide o3; have B3 := hide ((unhide B2).trans b3); clear o3 b3))
  refine bodyPost_ret (v := .tuple #[.slice q3 (headB n).length c3, .int .i64 0]) (by simp [results, Tryz.f71, go_sem, headB]) rfl ?_
  exact ⟨⟨q3, c3, rfl, unhide O3⟩, unhide B3⟩
end Go.Proofs.YtfigjfmldpfjkaaGreat

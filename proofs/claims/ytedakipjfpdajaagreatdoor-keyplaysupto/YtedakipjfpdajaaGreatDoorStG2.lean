/- slices.symMergeCmpFunc: the search, where both runs are long. -/
import Derived.Test.YtedakipjfpdajaaGreatDoorZal
import Derived.Test.YtedakipjfpdajaaGreatDoorZae
namespace Go.Proofs.YtedakipjfpdajaaGreatDoor
open Go.RowKit Go.Sort Go.Shelf

set_option maxHeartbeats 1000000 in
set_option maxRecDepth 1000000 in
theorem symGen2 (B g cap a m b N : Nat) (P A C S : List Pr) (w : World) (h : OwnK encR 42 4 B w (some ⟨g, 0, none⟩) cap (P ++ A ++ C ++ S)) (hN : (P ++ A ++ C ++ S).length = N) (ha : P.length = a) (hm : a + A.length = m) (hb : m + C.length = b) (hA : Sd A) (hC : Sd C) (h2 : 1 < A.length) (h3 : 1 < C.length) (hl : N < 4611686018427387904) (hgt : ¬ (a + b) / 2 < m) (ih : ∀ (P' A' C' S' : List Pr) (a' m' b' : Nat) (w' : World), A'.length + C'.length < A.length + C.length → 0 < A'.length → 0 < C'.length → OwnK encR 42 4 B w' (some ⟨g, 0, none⟩) cap (P' ++ A' ++ C' ++ S') → (P' ++ A' ++ C' ++ S').length = N → P'.length = a' → a' + A'.length = m' → m' + C'.length = b' → Sd A' → Sd C' →
      Calls Tryz.prog 153 #[.slice (some ⟨g, 0, none⟩) N cap, .int .i64 a', .int .i64 m', .int .i64 b', .func (.func 66) #[] #[]] w' fun e w'' => e = .returned (.tuple #[]) ∧ ∃ D, Sd D ∧ Stb (A' ++ C') D ∧ OwnK encR 42 4 B w'' (some ⟨g, 0, none⟩) cap (P' ++ D ++ S') ∧ Below B w' w'') :
    Calls Tryz.prog 153 #[.slice (some ⟨g, 0, none⟩) N cap, .int .i64 a, .int .i64 m, .int .i64 b, .func (.func 66) #[] #[]] w fun e w' => e = .returned (.tuple #[]) ∧ ∃ D, Sd D ∧ Stb (A ++ C) D ∧ OwnK encR 42 4 B w' (some ⟨g, 0, none⟩) cap (P ++ D ++ S) ∧ Below B w w' := by
  have mixed : Tryz.prog.follows .mixedOrders = true := by kernel_rfl
  have e66 := enters66
  have hN' := hN
  simp only [List.length_append] at hN'
  obtain ⟨mid, hmd⟩ : ∃ mid, mid = (a + b) / 2 := ⟨_, rfl⟩
  rw [← hmd] at hgt
  have hmz : ((a : Int) + (b : Int)) / 2 = (mid : Int) := by omega
  obtain ⟨n, hn⟩ : ∃ n, n = mid + m := ⟨_, rfl⟩
  obtain ⟨p, hp⟩ : ∃ p, p + 1 = n := ⟨n - 1, by omega⟩
  have wn1 : IntKind.i64.wrap ((mid : Int) + (m : Int)) = (n : Int) := by rw [IntKind.wrap_i64]; omega
  have wn2 : (mid : Int) + (m : Int) = (n : Int) := by omega
  have wn3 : IntKind.i64.wrap (n : Int) = (n : Int) := by rw [IntKind.wrap_i64]; omega
  have wp1 : IntKind.i64.wrap ((n : Int) - 1) = (p : Int) := by rw [IntKind.wrap_i64]; omega
  have wp2 : (n : Int) - 1 = (p : Int) := by omega
  have wp3 : IntKind.i64.wrap (p : Int) = (p : Int) := by rw [IntKind.wrap_i64]; omega
  have wm : IntKind.i64.wrap ((m : Int) - (a : Int)) = (m : Int) - (a : Int) := by rw [IntKind.wrap_i64]; omega
  have wm' : ¬ (m : Int) - (a : Int) = 1 := by omega
  have wm2 : ((m : Int) - (a : Int) == 1) = false := by rw [beq_eq_false_iff_ne]; omega
  have wb : IntKind.i64.wrap ((b : Int) - (m : Int)) = (b : Int) - (m : Int) := by rw [IntKind.wrap_i64]; omega
  have wb' : ¬ (b : Int) - (m : Int) = 1 := by omega
  have wb2 : ((b : Int) - (m : Int) == 1) = false := by rw [beq_eq_false_iff_ne]; omega
  have haN : a ≤ N := by omega
  have hmN : m ≤ N := by omega
  have hbN : b ≤ N := by omega
  obtain ⟨d, hd⟩ : ∃ d, P ++ A ++ C ++ S = d := ⟨_, rfl⟩
  rw [hd] at h hN
  have HD := hide hd
  have HO := hide h
  have hgz : ¬ (mid : Int) < (m : Int) := by omega
  have HE := hide (show P.length = a ∧ a + A.length = m ∧ m + C.length = b ∧ mid = (a + b) / 2 ∧ n = mid + m ∧ p + 1 = n ∧ a = a ∧ ¬ mid < m ∧ d.length = N ∧ 1 < A.length ∧ 1 < C.length ∧ b ≤ N from ⟨ha, hm, hb, hmd, hn, hp, rfl, hgt, hN, h2, h3, hbN⟩)
  have hlr : a ≤ m := by omega
  have hrN : m ≤ N := by omega
  clear hN' hmd hn hp hd h hN ha hm hb h2 h3 hgt
  go_enter Tryz.func153, Tryz.ntmps153
  go_wp2
  go_loopw [20, 21] (fun vs vr wr => ∃ s r : Nat, vs = .int .i64 s ∧ vr = .int .i64 r ∧ a ≤ s ∧ s ≤ r ∧ r ≤ m ∧ Hid ((a < s → ∀ x y, d[n - s]? = some x → d[s - 1]? = some y → 0 ≤ cmpN x y) ∧ (r < m → ∀ x y, d[n - r - 1]? = some x → d[r]? = some y → cmpN x y < 0)) ∧ Hid (Below w.heap.size w wr)) (fun vs vr _ => (intOf vr).toNat - (intOf vs).toNat)
  case atStart => exact ⟨a, m, rfl, rfl, Nat.le_refl _, hlr, Nat.le_refl _, hide ⟨fun h => by omega, fun h => by omega⟩, hide (Below.refl _ _)⟩
  case round =>
    obtain ⟨s, r, rfl, rfl, hls, hsr, hr0, HBD, HB⟩ := hrel
    by_cases hlt : s < r
    · have hltz : (s : Int) < (r : Int) := by omega
      have hE := unhide HE
      obtain ⟨c, hc, hc1, hc2⟩ : ∃ c : Nat, ((s : Int) + (r : Int)) / 2 = (c : Int) ∧ s ≤ c ∧ c < r := ⟨(s + r) / 2, by omega, by omega, by omega⟩
      obtain ⟨pc, hpc⟩ : ∃ pc, pc + c = p := ⟨p - c, by omega⟩
      have wc1 : IntKind.i64.wrap ((p : Int) - (c : Int)) = (pc : Int) := by rw [IntKind.wrap_i64]; omega
      have wc2 : (p : Int) - (c : Int) = (pc : Int) := by omega
      have wc3 : IntKind.i64.wrap (pc : Int) = (pc : Int) := by rw [IntKind.wrap_i64]; omega
      obtain ⟨x, hx, _⟩ := get_at (l := d) (k := pc) (by omega)
      obtain ⟨y, hy, _⟩ := get_at (l := d) (k := c) (by omega)
      have hO := (unhide HO).below (unhide HB)
      have hgw := (geR hO).2.1
      obtain ⟨c0, c1, c2, c3⟩ := atR hO hx
      obtain ⟨y0, y1, y2, y3⟩ := atR hO hy
      have d0 := grown_all (a := ⟨g, pc * 4, none⟩) hgw c0
      have d1 := grown_all (a := ⟨g, pc * 4 + 1, none⟩) hgw c1
      have d2 := grown_all (a := ⟨g, pc * 4 + 2, none⟩) hgw c2
      have d3 := grown_all (a := ⟨g, pc * 4 + 3, none⟩) hgw c3
      have f0 := grown_all (a := ⟨g, c * 4, none⟩) hgw y0
      have f1 := grown_all (a := ⟨g, c * 4 + 1, none⟩) hgw y1
      have f2 := grown_all (a := ⟨g, c * 4 + 2, none⟩) hgw y2
      have f3 := grown_all (a := ⟨g, c * 4 + 3, none⟩) hgw y3
      have m1 : (pc : Int) < (N : Int) := by omega
      have m2 : (c : Int) < (N : Int) := by omega
      have HXY := hide (show d[pc]? = some x ∧ d[c]? = some y ∧ pc + c = p ∧ p + 1 = n from ⟨hx, hy, hpc, hE.2.2.2.2.2.1⟩)
      clear hO hgw hx hy c0 c1 c2 c3 y0 y1 y2 y3 hpc hE
      by_cases hlv : cmpN x y < 0
      · have hlb : decide (cmpN x y < 0) = true := decide_eq_true hlv
        go_wp2
        go_quiet_grown (first | (go_at_fn 66; refine Calls.grown_of (byNameG x y _)))
        go_wp2
        go_roundw
        case rel =>
          have hq := unhide HXY
          exact ⟨s, c, rfl, rfl, by omega, by omega, by omega, hide ⟨(unhide HBD).1, fun _ x' y' hx' hy' => (by
            rw [show n - c - 1 = pc by omega, hq.1] at hx'
            rw [hq.2.1] at hy'
            cases hx'; cases hy'; exact hlv)⟩, hide (below_grown_any (unhide HB) (unhide HB).size _ _)⟩
        case measure => simp [intOf]; omega
      · have hlb : decide (cmpN x y < 0) = false := decide_eq_false hlv
        have hlc : ¬ cmpN x y < 0 := hlv
        go_wp2
        go_quiet_grown (first | (go_at_fn 66; refine Calls.grown_of (byNameG x y _)))
        go_wp2
        go_roundw
        case rel =>
          have hq := unhide HXY
          exact ⟨c + 1, r, by go_num, rfl, by omega, by omega, by omega, hide ⟨fun _ x' y' hx' hy' => (by
            rw [show n - (c + 1) = pc by omega, hq.1] at hx'
            rw [Nat.add_sub_cancel, hq.2.1] at hy'
            cases hx'; cases hy'; omega), (unhide HBD).2⟩, hide (below_grown_any (unhide HB) (unhide HB).size _ _)⟩
        case measure => simp [intOf]; omega
    · obtain rfl : s = r := by omega
      have hE := unhide HE
      have hltz : ¬ (s : Int) < (s : Int) := by omega
      obtain ⟨e, he⟩ : ∃ e, e + s = n := ⟨n - s, by omega⟩
      have we1 : IntKind.i64.wrap ((n : Int) - (s : Int)) = (e : Int) := by rw [IntKind.wrap_i64]; omega
      have we2 : (n : Int) - (s : Int) = (e : Int) := by omega
      have we3 : IntKind.i64.wrap (e : Int) = (e : Int) := by rw [IntKind.wrap_i64]; omega
      have hdd := unhide HD
      obtain ⟨hin, l12, l21⟩ := cut_of (P := P) (A := A) (C := C) (S := S) (a := a) (m := m) (b := b) (lo0 := a) (r0 := m) (mid := mid) (s := s) (e := e) hE.1 hE.2.1 hE.2.2.1 hE.2.2.2.1 (by omega) hls hr0 (by omega) hA hC
        (fun h x y hx hy => (unhide HBD).1 h x y (by rw [← hdd, show n - s = e by omega]; exact hx) (by rw [← hdd]; exact hy)) (fun h x y hx hy => (unhide HBD).2 h x y (by rw [← hdd, show n - s - 1 = e - 1 by omega]; exact hx) (by rw [← hdd]; exact hy))
      have eA : A.take (s - a) ++ A.drop (s - a) = A := List.take_append_drop _ _
      have eC : C.take (e - m) ++ C.drop (e - m) = C := List.take_append_drop _ _
      have q1 : (A.take (s - a)).length = s - a := by rw [List.length_take]; omega
      have q2 : (A.drop (s - a)).length = m - s := by rw [List.length_drop]; omega
      have q3 : (C.take (e - m)).length = e - m := by rw [List.length_take]; omega
      have q4 : (C.drop (e - m)).length = b - e := by rw [List.length_drop]; omega
      generalize A.take (s - a) = A1 at l12 l21 eA q1
      generalize A.drop (s - a) = A2 at l12 l21 eA q2
      generalize C.take (e - m) = B1 at l12 l21 eC q3
      generalize C.drop (e - m) = B2 at l12 l21 eC q4
      have hA' := hA
      have hC' := hC
      rw [← eA] at hA'
      rw [← eC] at hC'
      have sA := sd_app.1 hA'
      have sC := sd_app.1 hC'
      have hNN : P.length + A1.length + B1.length + A2.length + B2.length + S.length = N := by
        have h0 := hE.2.2.2.2.2.2.2.2.1
        rw [← hdd, ← eA, ← eC] at h0
        simp only [List.length_append] at h0
        omega
      have FIN : Hid (∀ D1 D2, Sd D1 → Sd D2 → Stb (A1 ++ B1) D1 → Stb (A2 ++ B2) D2 → Sd (D1 ++ D2) ∧ Stb (A ++ C) (D1 ++ D2)) := hide fun D1 D2 c1 c2 s1 s2 => by
        have := halves hA' hC' l12 l21 c1 c2 s1 s2
        rw [eA, eC] at this
        exact this
      have hBw : B ≤ w.heap.size := by have := geR (unhide HO); omega
      have HBw := hide hBw
      have o0 : OwnK encR 42 4 B wr (some ⟨g, 0, none⟩) cap (P ++ A1 ++ A2 ++ B1 ++ (B2 ++ S)) := by
        have := (unhide HO).below (unhide HB)
        rw [← hdd, ← eA, ← eC] at this
        simpa using this
      have b0 := (unhide HB).mono hBw
      have HK1 : Hid (∀ W, a < s → s < mid → OwnK encR 42 4 B W (some ⟨g, 0, none⟩) cap (P ++ A1 ++ B1 ++ (A2 ++ B2 ++ S)) → Calls Tryz.prog 153 #[.slice (some ⟨g, 0, none⟩) N cap, .int .i64 a, .int .i64 s, .int .i64 mid, .func (.func 66) #[] #[]] W fun e w'' => e = .returned (.tuple #[]) ∧ ∃ D, Sd D ∧ Stb (A1 ++ B1) D ∧ OwnK encR 42 4 B w'' (some ⟨g, 0, none⟩) cap (P ++ D ++ (A2 ++ B2 ++ S)) ∧ Below B W w'') :=
        hide fun W z1 z2 hW => ih P A1 B1 (A2 ++ B2 ++ S) a s mid W (by omega) (by omega) (by omega) hW (by simp only [List.length_append]; omega) hE.1 (by omega) (by omega) sA.1 sC.1
      have HK2 : Hid (∀ D1 W, mid < e → e < b → D1.length = (A1 ++ B1).length → OwnK encR 42 4 B W (some ⟨g, 0, none⟩) cap (P ++ D1 ++ (A2 ++ B2 ++ S)) → Calls Tryz.prog 153 #[.slice (some ⟨g, 0, none⟩) N cap, .int .i64 mid, .int .i64 e, .int .i64 b, .func (.func 66) #[] #[]] W fun e w'' => e = .returned (.tuple #[]) ∧ ∃ D, Sd D ∧ Stb (A2 ++ B2) D ∧ OwnK encR 42 4 B w'' (some ⟨g, 0, none⟩) cap (P ++ D1 ++ D ++ S) ∧ Below B W w'') :=
        hide fun D1 W z1 z2 hD hW => by
          simp only [List.length_append] at hD
          exact ih (P ++ D1) A2 B2 S mid e b W (by omega) (by omega) (by omega) (by simpa using hW) (by simp only [List.length_append]; omega) (by simp only [List.length_append]; omega) (by omega) (by omega) sA.2.1 sC.2.1
      have HZ1 : Hid (¬ (a < s ∧ s < mid) → Sd (A1 ++ B1)) := hide fun hz => by
        by_cases z : a < s
        · obtain rfl := List.length_eq_zero_iff.1 (show B1.length = 0 by omega)
          simpa using sA.1
        · obtain rfl := List.length_eq_zero_iff.1 (show A1.length = 0 by omega)
          simpa using sC.1
      have HZ2 : Hid (¬ (mid < e ∧ e < b) → Sd (A2 ++ B2)) := hide fun hz => by
        by_cases z : mid < e
        · obtain rfl := List.length_eq_zero_iff.1 (show B2.length = 0 by omega)
          simpa using sA.2.1
        · obtain rfl := List.length_eq_zero_iff.1 (show A2.length = 0 by omega)
          simpa using sC.2.1
      have HR : Hid (s < m → m < e → Calls Tryz.prog 172 #[.slice (some ⟨g, 0, none⟩) N cap, .int .i64 s, .int .i64 m, .int .i64 e, .func (.func 66) #[] #[]] wr fun e w' => e = .returned (.tuple #[]) ∧ OwnK encR 42 4 B w' (some ⟨g, 0, none⟩) cap (P ++ A1 ++ B1 ++ A2 ++ (B2 ++ S)) ∧ Below B wr w') :=
        hide fun z1 z2 => rotate B g cap s m e N _ (P ++ A1) A2 B1 (B2 ++ S) wr o0 (by simp only [List.length_append]; omega) (by omega) (by omega) (by simp only [List.length_append]; omega) (by simp only [List.length_append]; omega) (by simp only [List.length_append]; omega) hl
      have HO1 : Hid (¬ (s < m ∧ m < e) → OwnK encR 42 4 B wr (some ⟨g, 0, none⟩) cap (P ++ A1 ++ B1 ++ (A2 ++ B2 ++ S))) := hide fun hz => by
        by_cases z : s < m
        · obtain rfl := List.length_eq_zero_iff.1 (show B1.length = 0 by omega)
          simpa using o0
        · obtain rfl := List.length_eq_zero_iff.1 (show A2.length = 0 by omega)
          simpa using o0
      have HB0 := hide b0
      have huv : (mid < e ↔ s < m) ∧ (m < e ↔ s < mid) := by omega
      clear ih o0 b0 hdd eA eC q1 q2 q3 q4 hA' hC' sA sC hNN l12 l21 hE he hBw
      by_cases hu : s < m <;> by_cases hv : s < mid <;> by_cases hx1 : a < s <;> by_cases hx2 : e < b
      · have z1 : (s : Int) < (m : Int) := by omega
        have z1b : decide ((s : Int) < (m : Int)) = true := decide_eq_true z1
        have z2 : (m : Int) < (e : Int) := by omega
        have z2b : decide ((m : Int) < (e : Int)) = true := decide_eq_true z2
        have z3 : (a : Int) < (s : Int) := by omega
        have z3b : decide ((a : Int) < (s : Int)) = true := decide_eq_true z3
        have z4 : (s : Int) < (mid : Int) := by omega
        have z4b : decide ((s : Int) < (mid : Int)) = true := decide_eq_true z4
        have z5 : (mid : Int) < (e : Int) := by omega
        have z5b : decide ((mid : Int) < (e : Int)) = true := decide_eq_true z5
        have z6 : (e : Int) < (b : Int) := by omega
        have z6b : decide ((e : Int) < (b : Int)) = true := decide_eq_true z6
        go_wp2_with (first | (go_at_call 153; refine (unhide HK2 D1 _ (by omega) (by omega) (unhide T1).1 (by simpa using unhide O2)).mono ?_; rintro e3 w3 ⟨rfl, D2, r1, r2, r3, r4⟩; have S2 := hide r1; have T2 := hide r2; have O3 := hide r3; have C3 := hide ((unhide C2).trans r4); clear r1 r2 r3 r4) | (go_at_call 153; refine (unhide HK1 _ (by omega) (by omega) (by simpa using unhide O1)).mono ?_; rintro e2 w2 ⟨rfl, D1, r1, r2, r3, r4⟩; have S1 := hide r1; have T1 := hide r2; have O2 := hide r3; have C2 := hide ((unhide C1).trans r4); clear r1 r2 r3 r4) | (go_at_call 172; refine (unhide HR (by omega) (by omega)).mono ?_; rintro e1 w1 ⟨rfl, r1, r2⟩; have O1 := hide r1; have C1 := hide ((unhide HB0).trans r2); clear r1 r2))
        go_end0
        exact ⟨rfl, D1 ++ D2, (unhide FIN D1 D2 (unhide S1) (unhide S2) (unhide T1) (unhide T2)).1, (unhide FIN D1 D2 (unhide S1) (unhide S2) (unhide T1) (unhide T2)).2, by simpa using unhide O3, unhide C3⟩
      · have z1 : (s : Int) < (m : Int) := by omega
        have z1b : decide ((s : Int) < (m : Int)) = true := decide_eq_true z1
        have z2 : (m : Int) < (e : Int) := by omega
        have z2b : decide ((m : Int) < (e : Int)) = true := decide_eq_true z2
        have z3 : (a : Int) < (s : Int) := by omega
        have z3b : decide ((a : Int) < (s : Int)) = true := decide_eq_true z3
        have z4 : (s : Int) < (mid : Int) := by omega
        have z4b : decide ((s : Int) < (mid : Int)) = true := decide_eq_true z4
        have z5 : (mid : Int) < (e : Int) := by omega
        have z5b : decide ((mid : Int) < (e : Int)) = true := decide_eq_true z5
        have z6 : ¬ (e : Int) < (b : Int) := by omega
        have z6b : decide ((e : Int) < (b : Int)) = false := decide_eq_false z6
        go_wp2_with (first | (go_at_call 153; refine (unhide HK1 _ (by omega) (by omega) (by simpa using unhide O1)).mono ?_; rintro e2 w2 ⟨rfl, D1, r1, r2, r3, r4⟩; have S1 := hide r1; have T1 := hide r2; have O2 := hide r3; have C2 := hide ((unhide C1).trans r4); clear r1 r2 r3 r4) | (go_at_call 172; refine (unhide HR (by omega) (by omega)).mono ?_; rintro e1 w1 ⟨rfl, r1, r2⟩; have O1 := hide r1; have C1 := hide ((unhide HB0).trans r2); clear r1 r2))
        go_end0
        exact ⟨rfl, D1 ++ (A2 ++ B2), (unhide FIN D1 (A2 ++ B2) (unhide S1) (unhide HZ2 (by omega)) (unhide T1) (Stb.refl _)).1, (unhide FIN D1 (A2 ++ B2) (unhide S1) (unhide HZ2 (by omega)) (unhide T1) (Stb.refl _)).2, by simpa using unhide O2, unhide C2⟩
      · have z1 : (s : Int) < (m : Int) := by omega
        have z1b : decide ((s : Int) < (m : Int)) = true := decide_eq_true z1
        have z2 : (m : Int) < (e : Int) := by omega
        have z2b : decide ((m : Int) < (e : Int)) = true := decide_eq_true z2
        have z3 : ¬ (a : Int) < (s : Int) := by omega
        have z3b : decide ((a : Int) < (s : Int)) = false := decide_eq_false z3
        have z4 : (s : Int) < (mid : Int) := by omega
        have z4b : decide ((s : Int) < (mid : Int)) = true := decide_eq_true z4
        have z5 : (mid : Int) < (e : Int) := by omega
        have z5b : decide ((mid : Int) < (e : Int)) = true := decide_eq_true z5
        have z6 : (e : Int) < (b : Int) := by omega
        have z6b : decide ((e : Int) < (b : Int)) = true := decide_eq_true z6
        go_wp2_with (first | (go_at_call 153; refine (unhide HK2 (A1 ++ B1) _ (by omega) (by omega) rfl (by simpa using unhide O2)).mono ?_; rintro e3 w3 ⟨rfl, D2, r1, r2, r3, r4⟩; have S2 := hide r1; have T2 := hide r2; have O3 := hide r3; have C3 := hide ((unhide C2).trans r4); clear r1 r2 r3 r4) | (go_at_call 172; refine (unhide HR (by omega) (by omega)).mono ?_; rintro e1 w1 ⟨rfl, r1, r2⟩; have O1 := hide r1; have C1 := hide ((unhide HB0).trans r2); have O2 := O1; have C2 := C1; clear r1 r2))
        go_end0
        exact ⟨rfl, (A1 ++ B1) ++ D2, (unhide FIN (A1 ++ B1) D2 (unhide HZ1 (by omega)) (unhide S2) (Stb.refl _) (unhide T2)).1, (unhide FIN (A1 ++ B1) D2 (unhide HZ1 (by omega)) (unhide S2) (Stb.refl _) (unhide T2)).2, by simpa using unhide O3, unhide C3⟩
      · have z1 : (s : Int) < (m : Int) := by omega
        have z1b : decide ((s : Int) < (m : Int)) = true := decide_eq_true z1
        have z2 : (m : Int) < (e : Int) := by omega
        have z2b : decide ((m : Int) < (e : Int)) = true := decide_eq_true z2
        have z3 : ¬ (a : Int) < (s : Int) := by omega
        have z3b : decide ((a : Int) < (s : Int)) = false := decide_eq_false z3
        have z4 : (s : Int) < (mid : Int) := by omega
        have z4b : decide ((s : Int) < (mid : Int)) = true := decide_eq_true z4
        have z5 : (mid : Int) < (e : Int) := by omega
        have z5b : decide ((mid : Int) < (e : Int)) = true := decide_eq_true z5
        have z6 : ¬ (e : Int) < (b : Int) := by omega
        have z6b : decide ((e : Int) < (b : Int)) = false := decide_eq_false z6
        go_wp2_with (first | (go_at_call 172; refine (unhide HR (by omega) (by omega)).mono ?_; rintro e1 w1 ⟨rfl, r1, r2⟩; have O1 := hide r1; have C1 := hide ((unhide HB0).trans r2); have O2 := O1; have C2 := C1; clear r1 r2))
        go_end0
        exact ⟨rfl, (A1 ++ B1) ++ (A2 ++ B2), (unhide FIN (A1 ++ B1) (A2 ++ B2) (unhide HZ1 (by omega)) (unhide HZ2 (by omega)) (Stb.refl _) (Stb.refl _)).1, (unhide FIN (A1 ++ B1) (A2 ++ B2) (unhide HZ1 (by omega)) (unhide HZ2 (by omega)) (Stb.refl _) (Stb.refl _)).2, by simpa using unhide O2, unhide C2⟩
      · have z1 : (s : Int) < (m : Int) := by omega
        have z1b : decide ((s : Int) < (m : Int)) = true := decide_eq_true z1
        have z2 : ¬ (m : Int) < (e : Int) := by omega
        have z2b : decide ((m : Int) < (e : Int)) = false := decide_eq_false z2
        have z3 : (a : Int) < (s : Int) := by omega
        have z3b : decide ((a : Int) < (s : Int)) = true := decide_eq_true z3
        have z4 : ¬ (s : Int) < (mid : Int) := by omega
        have z4b : decide ((s : Int) < (mid : Int)) = false := decide_eq_false z4
        have z5 : (mid : Int) < (e : Int) := by omega
        have z5b : decide ((mid : Int) < (e : Int)) = true := decide_eq_true z5
        have z6 : (e : Int) < (b : Int) := by omega
        have z6b : decide ((e : Int) < (b : Int)) = true := decide_eq_true z6
        have O1 := hide (unhide HO1 (by omega))
        have C1 := HB0
        have O2 := O1
        have C2 := C1
        go_wp2_with (first | (go_at_call 153; refine (unhide HK2 (A1 ++ B1) _ (by omega) (by omega) rfl (by simpa using unhide O2)).mono ?_; rintro e3 w3 ⟨rfl, D2, r1, r2, r3, r4⟩; have S2 := hide r1; have T2 := hide r2; have O3 := hide r3; have C3 := hide ((unhide C2).trans r4); clear r1 r2 r3 r4))
        go_end0
        exact ⟨rfl, (A1 ++ B1) ++ D2, (unhide FIN (A1 ++ B1) D2 (unhide HZ1 (by omega)) (unhide S2) (Stb.refl _) (unhide T2)).1, (unhide FIN (A1 ++ B1) D2 (unhide HZ1 (by omega)) (unhide S2) (Stb.refl _) (unhide T2)).2, by simpa using unhide O3, unhide C3⟩
      · have z1 : (s : Int) < (m : Int) := by omega
        have z1b : decide ((s : Int) < (m : Int)) = true := decide_eq_true z1
        have z2 : ¬ (m : Int) < (e : Int) := by omega
        have z2b : decide ((m : Int) < (e : Int)) = false := decide_eq_false z2
        have z3 : (a : Int) < (s : Int) := by omega
        have z3b : decide ((a : Int) < (s : Int)) = true := decide_eq_true z3
        have z4 : ¬ (s : Int) < (mid : Int) := by omega
        have z4b : decide ((s : Int) < (mid : Int)) = false := decide_eq_false z4
        have z5 : (mid : Int) < (e : Int) := by omega
        have z5b : decide ((mid : Int) < (e : Int)) = true := decide_eq_true z5
        have z6 : ¬ (e : Int) < (b : Int) := by omega
        have z6b : decide ((e : Int) < (b : Int)) = false := decide_eq_false z6
        have O1 := hide (unhide HO1 (by omega))
        have C1 := HB0
        have O2 := O1
        have C2 := C1
        go_wp2
        go_end0
        exact ⟨rfl, (A1 ++ B1) ++ (A2 ++ B2), (unhide FIN (A1 ++ B1) (A2 ++ B2) (unhide HZ1 (by omega)) (unhide HZ2 (by omega)) (Stb.refl _) (Stb.refl _)).1, (unhide FIN (A1 ++ B1) (A2 ++ B2) (unhide HZ1 (by omega)) (unhide HZ2 (by omega)) (Stb.refl _) (Stb.refl _)).2, by simpa using unhide O2, unhide C2⟩
      · have z1 : (s : Int) < (m : Int) := by omega
        have z1b : decide ((s : Int) < (m : Int)) = true := decide_eq_true z1
        have z2 : ¬ (m : Int) < (e : Int) := by omega
        have z2b : decide ((m : Int) < (e : Int)) = false := decide_eq_false z2
        have z3 : ¬ (a : Int) < (s : Int) := by omega
        have z3b : decide ((a : Int) < (s : Int)) = false := decide_eq_false z3
        have z4 : ¬ (s : Int) < (mid : Int) := by omega
        have z4b : decide ((s : Int) < (mid : Int)) = false := decide_eq_false z4
        have z5 : (mid : Int) < (e : Int) := by omega
        have z5b : decide ((mid : Int) < (e : Int)) = true := decide_eq_true z5
        have z6 : (e : Int) < (b : Int) := by omega
        have z6b : decide ((e : Int) < (b : Int)) = true := decide_eq_true z6
        have O1 := hide (unhide HO1 (by omega))
        have C1 := HB0
        have O2 := O1
        have C2 := C1
        go_wp2_with (first | (go_at_call 153; refine (unhide HK2 (A1 ++ B1) _ (by omega) (by omega) rfl (by simpa using unhide O2)).mono ?_; rintro e3 w3 ⟨rfl, D2, r1, r2, r3, r4⟩; have S2 := hide r1; have T2 := hide r2; have O3 := hide r3; have C3 := hide ((unhide C2).trans r4); clear r1 r2 r3 r4))
        go_end0
        exact ⟨rfl, (A1 ++ B1) ++ D2, (unhide FIN (A1 ++ B1) D2 (unhide HZ1 (by omega)) (unhide S2) (Stb.refl _) (unhide T2)).1, (unhide FIN (A1 ++ B1) D2 (unhide HZ1 (by omega)) (unhide S2) (Stb.refl _) (unhide T2)).2, by simpa using unhide O3, unhide C3⟩
      · have z1 : (s : Int) < (m : Int) := by omega
        have z1b : decide ((s : Int) < (m : Int)) = true := decide_eq_true z1
        have z2 : ¬ (m : Int) < (e : Int) := by omega
        have z2b : decide ((m : Int) < (e : Int)) = false := decide_eq_false z2
        have z3 : ¬ (a : Int) < (s : Int) := by omega
        have z3b : decide ((a : Int) < (s : Int)) = false := decide_eq_false z3
        have z4 : ¬ (s : Int) < (mid : Int) := by omega
        have z4b : decide ((s : Int) < (mid : Int)) = false := decide_eq_false z4
        have z5 : (mid : Int) < (e : Int) := by omega
        have z5b : decide ((mid : Int) < (e : Int)) = true := decide_eq_true z5
        have z6 : ¬ (e : Int) < (b : Int) := by omega
        have z6b : decide ((e : Int) < (b : Int)) = false := decide_eq_false z6
        have O1 := hide (unhide HO1 (by omega))
        have C1 := HB0
        have O2 := O1
        have C2 := C1
        go_wp2
        go_end0
        exact ⟨rfl, (A1 ++ B1) ++ (A2 ++ B2), (unhide FIN (A1 ++ B1) (A2 ++ B2) (unhide HZ1 (by omega)) (unhide HZ2 (by omega)) (Stb.refl _) (Stb.refl _)).1, (unhide FIN (A1 ++ B1) (A2 ++ B2) (unhide HZ1 (by omega)) (unhide HZ2 (by omega)) (Stb.refl _) (Stb.refl _)).2, by simpa using unhide O2, unhide C2⟩
      · have z1 : ¬ (s : Int) < (m : Int) := by omega
        have z1b : decide ((s : Int) < (m : Int)) = false := decide_eq_false z1
        have z2 : (m : Int) < (e : Int) := by omega
        have z2b : decide ((m : Int) < (e : Int)) = true := decide_eq_true z2
        have z3 : (a : Int) < (s : Int) := by omega
        have z3b : decide ((a : Int) < (s : Int)) = true := decide_eq_true z3
        have z4 : (s : Int) < (mid : Int) := by omega
        have z4b : decide ((s : Int) < (mid : Int)) = true := decide_eq_true z4
        have z5 : ¬ (mid : Int) < (e : Int) := by omega
        have z5b : decide ((mid : Int) < (e : Int)) = false := decide_eq_false z5
        have z6 : (e : Int) < (b : Int) := by omega
        have z6b : decide ((e : Int) < (b : Int)) = true := decide_eq_true z6
        have O1 := hide (unhide HO1 (by omega))
        have C1 := HB0
        go_wp2_with (first | (go_at_call 153; refine (unhide HK1 _ (by omega) (by omega) (by simpa using unhide O1)).mono ?_; rintro e2 w2 ⟨rfl, D1, r1, r2, r3, r4⟩; have S1 := hide r1; have T1 := hide r2; have O2 := hide r3; have C2 := hide ((unhide C1).trans r4); clear r1 r2 r3 r4))
        go_end0
        exact ⟨rfl, D1 ++ (A2 ++ B2), (unhide FIN D1 (A2 ++ B2) (unhide S1) (unhide HZ2 (by omega)) (unhide T1) (Stb.refl _)).1, (unhide FIN D1 (A2 ++ B2) (unhide S1) (unhide HZ2 (by omega)) (unhide T1) (Stb.refl _)).2, by simpa using unhide O2, unhide C2⟩
      · have z1 : ¬ (s : Int) < (m : Int) := by omega
        have z1b : decide ((s : Int) < (m : Int)) = false := decide_eq_false z1
        have z2 : (m : Int) < (e : Int) := by omega
        have z2b : decide ((m : Int) < (e : Int)) = true := decide_eq_true z2
        have z3 : (a : Int) < (s : Int) := by omega
        have z3b : decide ((a : Int) < (s : Int)) = true := decide_eq_true z3
        have z4 : (s : Int) < (mid : Int) := by omega
        have z4b : decide ((s : Int) < (mid : Int)) = true := decide_eq_true z4
        have z5 : ¬ (mid : Int) < (e : Int) := by omega
        have z5b : decide ((mid : Int) < (e : Int)) = false := decide_eq_false z5
        have z6 : ¬ (e : Int) < (b : Int) := by omega
        have z6b : decide ((e : Int) < (b : Int)) = false := decide_eq_false z6
        have O1 := hide (unhide HO1 (by omega))
        have C1 := HB0
        go_wp2_with (first | (go_at_call 153; refine (unhide HK1 _ (by omega) (by omega) (by simpa using unhide O1)).mono ?_; rintro e2 w2 ⟨rfl, D1, r1, r2, r3, r4⟩; have S1 := hide r1; have T1 := hide r2; have O2 := hide r3; have C2 := hide ((unhide C1).trans r4); clear r1 r2 r3 r4))
        go_end0
        exact ⟨rfl, D1 ++ (A2 ++ B2), (unhide FIN D1 (A2 ++ B2) (unhide S1) (unhide HZ2 (by omega)) (unhide T1) (Stb.refl _)).1, (unhide FIN D1 (A2 ++ B2) (unhide S1) (unhide HZ2 (by omega)) (unhide T1) (Stb.refl _)).2, by simpa using unhide O2, unhide C2⟩
      · have z1 : ¬ (s : Int) < (m : Int) := by omega
        have z1b : decide ((s : Int) < (m : Int)) = false := decide_eq_false z1
        have z2 : (m : Int) < (e : Int) := by omega
        have z2b : decide ((m : Int) < (e : Int)) = true := decide_eq_true z2
        have z3 : ¬ (a : Int) < (s : Int) := by omega
        have z3b : decide ((a : Int) < (s : Int)) = false := decide_eq_false z3
        have z4 : (s : Int) < (mid : Int) := by omega
        have z4b : decide ((s : Int) < (mid : Int)) = true := decide_eq_true z4
        have z5 : ¬ (mid : Int) < (e : Int) := by omega
        have z5b : decide ((mid : Int) < (e : Int)) = false := decide_eq_false z5
        have z6 : (e : Int) < (b : Int) := by omega
        have z6b : decide ((e : Int) < (b : Int)) = true := decide_eq_true z6
        have O1 := hide (unhide HO1 (by omega))
        have C1 := HB0
        have O2 := O1
        have C2 := C1
        go_wp2
        go_end0
        exact ⟨rfl, (A1 ++ B1) ++ (A2 ++ B2), (unhide FIN (A1 ++ B1) (A2 ++ B2) (unhide HZ1 (by omega)) (unhide HZ2 (by omega)) (Stb.refl _) (Stb.refl _)).1, (unhide FIN (A1 ++ B1) (A2 ++ B2) (unhide HZ1 (by omega)) (unhide HZ2 (by omega)) (Stb.refl _) (Stb.refl _)).2, by simpa using unhide O2, unhide C2⟩
      · have z1 : ¬ (s : Int) < (m : Int) := by omega
        have z1b : decide ((s : Int) < (m : Int)) = false := decide_eq_false z1
        have z2 : (m : Int) < (e : Int) := by omega
        have z2b : decide ((m : Int) < (e : Int)) = true := decide_eq_true z2
        have z3 : ¬ (a : Int) < (s : Int) := by omega
        have z3b : decide ((a : Int) < (s : Int)) = false := decide_eq_false z3
        have z4 : (s : Int) < (mid : Int) := by omega
        have z4b : decide ((s : Int) < (mid : Int)) = true := decide_eq_true z4
        have z5 : ¬ (mid : Int) < (e : Int) := by omega
        have z5b : decide ((mid : Int) < (e : Int)) = false := decide_eq_false z5
        have z6 : ¬ (e : Int) < (b : Int) := by omega
        have z6b : decide ((e : Int) < (b : Int)) = false := decide_eq_false z6
        have O1 := hide (unhide HO1 (by omega))
        have C1 := HB0
        have O2 := O1
        have C2 := C1
        go_wp2
        go_end0
        exact ⟨rfl, (A1 ++ B1) ++ (A2 ++ B2), (unhide FIN (A1 ++ B1) (A2 ++ B2) (unhide HZ1 (by omega)) (unhide HZ2 (by omega)) (Stb.refl _) (Stb.refl _)).1, (unhide FIN (A1 ++ B1) (A2 ++ B2) (unhide HZ1 (by omega)) (unhide HZ2 (by omega)) (Stb.refl _) (Stb.refl _)).2, by simpa using unhide O2, unhide C2⟩
      · have z1 : ¬ (s : Int) < (m : Int) := by omega
        have z1b : decide ((s : Int) < (m : Int)) = false := decide_eq_false z1
        have z2 : ¬ (m : Int) < (e : Int) := by omega
        have z2b : decide ((m : Int) < (e : Int)) = false := decide_eq_false z2
        have z3 : (a : Int) < (s : Int) := by omega
        have z3b : decide ((a : Int) < (s : Int)) = true := decide_eq_true z3
        have z4 : ¬ (s : Int) < (mid : Int) := by omega
        have z4b : decide ((s : Int) < (mid : Int)) = false := decide_eq_false z4
        have z5 : ¬ (mid : Int) < (e : Int) := by omega
        have z5b : decide ((mid : Int) < (e : Int)) = false := decide_eq_false z5
        have z6 : (e : Int) < (b : Int) := by omega
        have z6b : decide ((e : Int) < (b : Int)) = true := decide_eq_true z6
        have O1 := hide (unhide HO1 (by omega))
        have C1 := HB0
        have O2 := O1
        have C2 := C1
        go_wp2
        go_end0
        exact ⟨rfl, (A1 ++ B1) ++ (A2 ++ B2), (unhide FIN (A1 ++ B1) (A2 ++ B2) (unhide HZ1 (by omega)) (unhide HZ2 (by omega)) (Stb.refl _) (Stb.refl _)).1, (unhide FIN (A1 ++ B1) (A2 ++ B2) (unhide HZ1 (by omega)) (unhide HZ2 (by omega)) (Stb.refl _) (Stb.refl _)).2, by simpa using unhide O2, unhide C2⟩
      · have z1 : ¬ (s : Int) < (m : Int) := by omega
        have z1b : decide ((s : Int) < (m : Int)) = false := decide_eq_false z1
        have z2 : ¬ (m : Int) < (e : Int) := by omega
        have z2b : decide ((m : Int) < (e : Int)) = false := decide_eq_false z2
        have z3 : (a : Int) < (s : Int) := by omega
        have z3b : decide ((a : Int) < (s : Int)) = true := decide_eq_true z3
        have z4 : ¬ (s : Int) < (mid : Int) := by omega
        have z4b : decide ((s : Int) < (mid : Int)) = false := decide_eq_false z4
        have z5 : ¬ (mid : Int) < (e : Int) := by omega
        have z5b : decide ((mid : Int) < (e : Int)) = false := decide_eq_false z5
        have z6 : ¬ (e : Int) < (b : Int) := by omega
        have z6b : decide ((e : Int) < (b : Int)) = false := decide_eq_false z6
        have O1 := hide (unhide HO1 (by omega))
        have C1 := HB0
        have O2 := O1
        have C2 := C1
        go_wp2
        go_end0
        exact ⟨rfl, (A1 ++ B1) ++ (A2 ++ B2), (unhide FIN (A1 ++ B1) (A2 ++ B2) (unhide HZ1 (by omega)) (unhide HZ2 (by omega)) (Stb.refl _) (Stb.refl _)).1, (unhide FIN (A1 ++ B1) (A2 ++ B2) (unhide HZ1 (by omega)) (unhide HZ2 (by omega)) (Stb.refl _) (Stb.refl _)).2, by simpa using unhide O2, unhide C2⟩
      · have z1 : ¬ (s : Int) < (m : Int) := by omega
        have z1b : decide ((s : Int) < (m : Int)) = false := decide_eq_false z1
        have z2 : ¬ (m : Int) < (e : Int) := by omega
        have z2b : decide ((m : Int) < (e : Int)) = false := decide_eq_false z2
        have z3 : ¬ (a : Int) < (s : Int) := by omega
        have z3b : decide ((a : Int) < (s : Int)) = false := decide_eq_false z3
        have z4 : ¬ (s : Int) < (mid : Int) := by omega
        have z4b : decide ((s : Int) < (mid : Int)) = false := decide_eq_false z4
        have z5 : ¬ (mid : Int) < (e : Int) := by omega
        have z5b : decide ((mid : Int) < (e : Int)) = false := decide_eq_false z5
        have z6 : (e : Int) < (b : Int) := by omega
        have z6b : decide ((e : Int) < (b : Int)) = true := decide_eq_true z6
        have O1 := hide (unhide HO1 (by omega))
        have C1 := HB0
        have O2 := O1
        have C2 := C1
        go_wp2
        go_end0
        exact ⟨rfl, (A1 ++ B1) ++ (A2 ++ B2), (unhide FIN (A1 ++ B1) (A2 ++ B2) (unhide HZ1 (by omega)) (unhide HZ2 (by omega)) (Stb.refl _) (Stb.refl _)).1, (unhide FIN (A1 ++ B1) (A2 ++ B2) (unhide HZ1 (by omega)) (unhide HZ2 (by omega)) (Stb.refl _) (Stb.refl _)).2, by simpa using unhide O2, unhide C2⟩
      · have z1 : ¬ (s : Int) < (m : Int) := by omega
        have z1b : decide ((s : Int) < (m : Int)) = false := decide_eq_false z1
        have z2 : ¬ (m : Int) < (e : Int) := by omega
        have z2b : decide ((m : Int) < (e : Int)) = false := decide_eq_false z2
        have z3 : ¬ (a : Int) < (s : Int) := by omega
        have z3b : decide ((a : Int) < (s : Int)) = false := decide_eq_false z3
        have z4 : ¬ (s : Int) < (mid : Int) := by omega
        have z4b : decide ((s : Int) < (mid : Int)) = false := decide_eq_false z4
        have z5 : ¬ (mid : Int) < (e : Int) := by omega
        have z5b : decide ((mid : Int) < (e : Int)) = false := decide_eq_false z5
        have z6 : ¬ (e : Int) < (b : Int) := by omega
        have z6b : decide ((e : Int) < (b : Int)) = false := decide_eq_false z6
        have O1 := hide (unhide HO1 (by omega))
        have C1 := HB0
        have O2 := O1
        have C2 := C1
        go_wp2
        go_end0
        exact ⟨rfl, (A1 ++ B1) ++ (A2 ++ B2), (unhide FIN (A1 ++ B1) (A2 ++ B2) (unhide HZ1 (by omega)) (unhide HZ2 (by omega)) (Stb.refl _) (Stb.refl _)).1, (unhide FIN (A1 ++ B1) (A2 ++ B2) (unhide HZ1 (by omega)) (unhide HZ2 (by omega)) (Stb.refl _) (Stb.refl _)).2, by simpa using unhide O2, unhide C2⟩
end Go.Proofs.YtedakipjfpdajaaGreatDoor

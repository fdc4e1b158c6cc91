/- What the document's Common answers, for every list of numbers. -/
import Derived.Test.YtjclojeihjgnkaaDoorRefPath
namespace Go.Proofs.YtjclojeihjgnkaaDoor
open Go.RowKit

theorem comZ_bad' {xs : List Int} {k : Nat} {x : Int} (h : xs[k]? = some x) (hx : isNum x = false) : comZ xs = none := by
  cases xs with
  | nil => rfl
  | cons a r => exact comZ_bad h hx
theorem isNum_lo {x : Int} (h : x < -2147483648) : isNum x = false := by unfold isNum; simp; omega
theorem isNum_hi {x : Int} (h : 2147483647 < x) : isNum x = false := by unfold isNum; simp; omega
theorem isNum_yes {x : Int} (h1 : ¬ x < -2147483648) (h2 : ¬ 2147483647 < x) : isNum x = true := by unfold isNum; simp; omega
/-- The level behind the first k. -/
def lvK (x0 : Int) (xs : List Int) (k : Nat) : Nat := Lib.bitLen (unl (plc x0) ((xs.take k).map plc))
theorem small_take {x0 : Int} {xs : List Int} (h0 : isNum x0 = true) (hall : xs.all isNum = true) (k : Nat) : unl (plc x0) ((xs.take k).map plc) < 2 ^ 32 :=
  unl_small (plc_lt h0).1 fun y hy => by
    obtain ⟨z, hz, rfl⟩ := List.mem_map.1 hy
    exact (plc_lt (List.all_eq_true.1 hall z (List.mem_of_mem_take hz))).1
theorem lvK_le {x0 : Int} {xs : List Int} (h0 : isNum x0 = true) (hall : xs.all isNum = true) (k : Nat) : lvK x0 xs k ≤ 32 := Lib.bitLen_le _ 32 (by omega) (small_take h0 hall k)
theorem lvK_up {x0 : Int} {xs : List Int} (h0 : isNum x0 = true) (hall : xs.all isNum = true) {k : Nat} {x : Int} (hx : xs[k]? = some x) {l : Nat} (hl : lvK x0 xs k ≤ l) (hl2 : l ≤ 32) (he : plc x / 2 ^ l = plc x0 / 2 ^ l) : lvK x0 xs (k + 1) ≤ l := by
  have e32 : (2 : Nat) ^ 32 = 4294967296 := by decide
  have e64 : (2 : Nat) ^ 64 = 18446744073709551616 := by decide
  have hs := small_take h0 hall k
  refine Lib.bitLen_le _ l (by omega) ((unl_lt _ _ _).2 fun y hy => ?_)
  rw [List.take_add_one, hx] at hy
  simp only [Option.toList_some, List.map_append, List.map_cons, List.map_nil, List.mem_append, List.mem_singleton] at hy
  rcases hy with hy | hy
  · have h1 : unl (plc x0) ((xs.take k).map plc) < 2 ^ l := Nat.lt_of_lt_of_le (bitLen_up _ (by omega)) (Nat.pow_le_pow_right (by decide) hl)
    exact (unl_lt _ _ _).1 h1 y hy
  · rw [hy]; exact he
theorem lvK_down {x0 : Int} {xs : List Int} (h0 : isNum x0 = true) (hall : xs.all isNum = true) {k : Nat} {x : Int} (hx : xs[k]? = some x) {l : Nat} (hl : lvK x0 xs (k + 1) ≤ l) : plc x / 2 ^ l = plc x0 / 2 ^ l := by
  have e32 : (2 : Nat) ^ 32 = 4294967296 := by decide
  have e64 : (2 : Nat) ^ 64 = 18446744073709551616 := by decide
  have hs := small_take h0 hall (k + 1)
  have h1 : unl (plc x0) ((xs.take (k + 1)).map plc) < 2 ^ l := Nat.lt_of_lt_of_le (bitLen_up _ (by omega)) (Nat.pow_le_pow_right (by decide) hl)
  refine (unl_lt _ _ _).1 h1 _ ?_
  rw [List.take_add_one, hx]
  simp
theorem lvK_mono {x0 : Int} {xs : List Int} (h0 : isNum x0 = true) (hall : xs.all isNum = true) (k : Nat) : lvK x0 xs k ≤ lvK x0 xs (k + 1) := by
  have e32 : (2 : Nat) ^ 32 = 4294967296 := by decide
  have e64 : (2 : Nat) ^ 64 = 18446744073709551616 := by decide
  have hs := small_take h0 hall (k + 1)
  have hb := bitLen_up _ (show unl (plc x0) ((xs.take (k + 1)).map plc) < 2 ^ 64 by omega)
  refine Lib.bitLen_le _ _ (bitLen_le64 _ (by omega)) ((unl_lt _ _ _).2 fun y hy => (unl_lt _ _ _).1 hb y ?_)
  obtain ⟨z, hz, rfl⟩ := List.mem_map.1 hy
  refine List.mem_map.2 ⟨z, ?_, rfl⟩
  rw [List.take_add_one]
  exact List.mem_append_left _ hz
theorem ok_plc {x0 : Int} (h0 : isNum x0 = true) (l : Nat) (hl : l ≤ 32) : okN l (plc x0 / 2 ^ l) := by
  have := okN_ups (l := 0) (i := plc x0) ⟨32, rfl, (plc_lt h0).1⟩ l (by omega)
  rwa [Nat.zero_add] at this

set_option maxHeartbeats 2000000 in
theorem rcom_any (q : Option Addr) (cap : Nat) (xs : List Int) (w : World) (hl : xs.length ≤ 140737488355328) (hA : LsOf encI 1 w q xs) :
    Calls Tryd.prog 20 #[.slice q xs.length cap] w fun e w' => e = .returned (comV (comZ xs)) ∧ Below w.heap.size w w' := by
  have HA := hide hA
  obtain ⟨n, hn⟩ : ∃ n, xs.length = n := ⟨_, rfl⟩
  rw [hn] at hl ⊢
  have HN := hide hn
  clear hA hn
  go_enter Tryd.func20, Tryd.ntmps20
  go_wp2
  go_loopw [4] (fun i wr => ∃ k : Nat, k ≤ n ∧ i = .int .i64 k ∧ (xs.take k).all isNum = true ∧ Below w.heap.size w wr ∧ Bx wr w.heap.size) (fun i _ => n - (intOf i).toNat)
  case atStart => exact ⟨0, by omega, rfl, rfl, (Below.refl _ _).alloc (Nat.le_refl _) _, by simp, by simp, fun o => by simp, by simp⟩
  case round =>
    obtain ⟨k, hk, rfl, hall, bel0, hbx⟩ := hrel
    by_cases hlt : k < n
    · obtain ⟨x, hx, -⟩ := get_at (l := xs) (k := k) (by rw [unhide HN]; exact hlt)
      obtain ⟨b, off, rfl, hb, hc⟩ := LsOf.at ((unhide HA).below bel0) hx
      have gx : wr.cell? ⟨b, off + k, none⟩ = some (.int .i64 x) := by have := hc 0 (by omega); simpa [encI] using this
      have ki0 : (0 : Int) ≤ (k : Int) := by omega
      have ki1 : (k : Int) < (n : Int) := by omega
      have HX := hide hx
      have HALL := hide hall
      have HB := hide (And.intro bel0 hbx)
      obtain ⟨z0, z1, fr, sz⟩ := hbx
      clear hx hall hc
      by_cases c1 : x < -2147483648
      · go_wp2
        refine bodyPost_ret (v := .tuple #[.agg #[.int .i64 0, .int .i64 0], .bool false]) (by simp [results, Tryd.results20, go_sem, z0, z1]) rfl ⟨?_, (bel0.setCell (by simp) _).setCell (by simp) _⟩
        rw [comZ_bad' (unhide HX) (isNum_lo c1)]
        rfl
      · by_cases c2 : 2147483647 < x
        · go_wp2
          refine bodyPost_ret (v := .tuple #[.agg #[.int .i64 0, .int .i64 0], .bool false]) (by simp [results, Tryd.results20, go_sem, z0, z1]) rfl ⟨?_, (bel0.setCell (by simp) _).setCell (by simp) _⟩
          rw [comZ_bad' (unhide HX) (isNum_hi c2)]
          rfl
        · have hnum := isNum_yes c1 c2
          have hall1 := hide (all_take (unhide HALL) (unhide HX) hnum)
          go_wp2
          exact ⟨⟨k + 1, by omega, by simp, unhide hall1, (unhide HB).1, (unhide HB).2⟩, by simp [intOf]; omega⟩
    · obtain rfl : k = n := by omega
      have hall' : xs.all isNum = true := by
        rw [← unhide HN, List.take_length] at hall
        exact hall
      have ki1 : ¬ (k : Int) < (k : Int) := by omega
      rcases Nat.eq_zero_or_pos k with hk0 | hk0
      · subst hk0
        have hxs : xs = [] := List.length_eq_zero_iff.1 (unhide HN)
        have HXS := hide hxs
        obtain ⟨z0, z1, fr, sz⟩ := hbx
        clear hall hall' hxs
        go_wp2
        refine bodyPost_ret (v := .tuple #[.agg #[.int .i64 0, .int .i64 0], .bool false]) (by simp [results, Tryd.results20, go_sem, z0, z1]) rfl ⟨?_, (bel0.setCell (by simp) _).setCell (by simp) _⟩
        rw [unhide HXS]
        rfl
      · obtain ⟨x0, hx0, -⟩ := get_at (l := xs) (k := 0) (by rw [unhide HN]; exact hk0)
        obtain ⟨r, hxs⟩ : ∃ r, x0 :: r = xs := by
          cases xs with
          | nil => simp at hx0
          | cons a r => exact ⟨r, by simp at hx0; rw [hx0]⟩
        have hnum0 : isNum x0 = true := List.all_eq_true.1 hall' x0 (by rw [← hxs]; simp)
        obtain ⟨p3, p4⟩ := plc_lt hnum0
        have e1 : wrap64 (x0 + 2147483648) = (plc x0 : Int) := by unfold wrap64; omega
        obtain ⟨b, off, rfl, hb, hc⟩ := LsOf.at ((unhide HA).below bel0) hx0
        have g0 : wr.cell? ⟨b, off, none⟩ = some (.int .i64 x0) := by have := hc 0 (by omega); simpa [encI] using this
        have n0 : ((k : Int) == 0) = false := by simp; omega
        have n1 : (0 : Int) < (k : Int) := by omega
        have n2 : 0 < k := hk0
        have n3 : ¬ (k : Int) = 0 := by omega
        obtain ⟨X0, hX0⟩ : ∃ X0, plc x0 = X0 := ⟨_, rfl⟩
        rw [hX0] at e1
        have HP := hide (And.intro hX0 (And.intro hnum0 (And.intro hall' hxs)))
        obtain ⟨U, hU⟩ : ∃ U, U = wr := ⟨_, rfl⟩
        subst hU
        have HB := hide (And.intro bel0 hbx)
        have HE1 := hide e1
        clear hall hall' hx0 hnum0 p3 p4 hc hxs hX0 hk0 e1
        go_wp2
        rw [unhide HE1]
        obtain ⟨b5, hb5⟩ : ∃ b5, U.heap.size = b5 := ⟨_, rfl⟩
        have HB5 := hide hb5
        have HON := hide (One.new U 0 (X0 : Int))
        rw [hb5] at HON
        rw [hb5]
        obtain ⟨V0, hV0⟩ : ∃ V0, V0 = U.alloc (.cells #[.int .i64 0, .int .i64 (X0 : Int)] 23) := ⟨_, rfl⟩
        rw [← hV0] at HON
        rw [← hV0]
        have BV0 := hide (show Below U.heap.size U V0 by rw [hV0]; exact (Below.refl _ _).alloc (Nat.le_refl _) _)
        clear hV0 hb5
        go_loopw [6] (fun i wr => ∃ t : Nat, t ≤ k ∧ i = .int .i64 t ∧ One wr b5 (lvK x0 xs t : Nat) ((X0 / 2 ^ lvK x0 xs t : Nat) : Int) ∧ Below U.heap.size U wr) (fun i _ => k - (intOf i).toNat)
        case atStart =>
          refine ⟨0, by omega, rfl, ?_, unhide BV0⟩
          have e : lvK x0 xs 0 = 0 := by rfl
          rw [e]
          simpa using unhide HON
        case round =>
          obtain ⟨t, ht, rfl, hone, hUt⟩ := hrel
          obtain ⟨hX0, hnum0, hall, hxs⟩ := unhide HP
          by_cases htl : t < k
          · obtain ⟨x, hx, -⟩ := get_at (l := xs) (k := t) (by rw [unhide HN]; exact htl)
            have hxn : isNum x = true := List.all_eq_true.1 hall x (List.mem_of_getElem? hx)
            have hmono := lvK_mono (x0 := x0) hnum0 hall t
            have hle32 := lvK_le (x0 := x0) hnum0 hall (t + 1)
            have HG1 := hide (fun (l : Nat) => lvK_up (x0 := x0) hnum0 hall hx (l := l))
            have HG2 := hide (fun (l : Nat) => lvK_down (x0 := x0) hnum0 hall hx (l := l))
            rw [hX0] at HG1 HG2
            have hgx : ∀ W, Below U.heap.size U W → W.cell? ⟨b, off + t, none⟩ = some (.int .i64 x) := fun W hW => by
              obtain ⟨b', off', hq, _, hc⟩ := LsOf.at ((unhide HA).below (below_sub bel0 hW)) hx
              injection hq with hq
              injection hq with e1 e2
              subst e1 e2
              have := hc 0 (by omega)
              simpa [encI] using this
            have HGX := hide hgx
            obtain ⟨l0, hl0⟩ : ∃ l0, lvK x0 xs t = l0 := ⟨_, rfl⟩
            obtain ⟨l1, hl1⟩ : ∃ l1, lvK x0 xs (t + 1) = l1 := ⟨_, rfl⟩
            rw [hl0, hl1] at hmono
            rw [hl0, hl1] at HG1
            rw [hl1] at HG2 hle32
            rw [hl0] at hone
            have HL1 := hide hl1
            have HXN := hide hxn
            have ti0 : (0 : Int) ≤ (t : Int) := by omega
            have ti1 : (t : Int) < (k : Int) := by omega
            have HON1 := hide hone
            have HUT := hide hUt
            clear hx hxn hl0 hl1 hgx hall hxs hone hUt hbx
            go_wp2
            go_loopw [52] (fun _ wq => ∃ l : Nat, l0 ≤ l ∧ l ≤ l1 ∧ One wq b5 (l : Int) ((X0 / 2 ^ l : Nat) : Int) ∧ Below U.heap.size U wq) (fun _ wq => 33 - (match wq.cell? ⟨b5, 0, none⟩ with | some v => (intOf v).toNat | none => 0))
            case atStart => exact ⟨l0, Nat.le_refl _, hmono, unhide HON1, unhide HUT⟩
            case round =>
              obtain ⟨l, hla, hlb, hone, hUq⟩ := hrel
              have hok : okN l (X0 / 2 ^ l) := by rw [← hX0]; exact ok_plc hnum0 l (by omega)
              have h17 := rhas_good l (X0 / 2 ^ l) hok x
              rw [has_mem hok (unhide HXN)] at h17
              have gx := unhide HGX _ hUq
              have HON2 := hide hone
              have HUQ := hide hUq
              obtain ⟨o0, o1, fo, so⟩ := hone
              have bsz : b < wr.heap.size := Nat.lt_of_lt_of_le hb hUq.size
              obtain ⟨I, hI⟩ : ∃ I, X0 / 2 ^ l = I := ⟨_, rfl⟩
              have HI2 := hide hI
              by_cases he : plc x / 2 ^ l = X0 / 2 ^ l
              · have hll : l1 = l := Nat.le_antisymm (unhide HG1 l hla (by omega) he) hlb
                have HLL := hide hll
                rw [decide_eq_true he] at h17
                rw [hI] at h17 o1
                clear he hll hok hI hUq
                go_wp2
                go_region_held3 (fun w' => w'.cell? ⟨b5, 0, none⟩ = some (.int .i64 l) ∧ w'.cell? ⟨b5, 1, none⟩ = some (.int .i64 I) ∧ w'.cell? ⟨b, off + t, none⟩ = some (.int .i64 x))
                  (first | go_keep | exact ⟨(b3.cell (p := ⟨b5, 0, none⟩) (by exact so)).trans o0, (b3.cell (p := ⟨b5, 1, none⟩) (by exact so)).trans o1, (b3.cell (p := ⟨b, off + t, none⟩) (by exact bsz)).trans gx⟩)
                  ((go_at_call 17; refine (h17 _).mono ?_; rintro e w3 ⟨rfl, b3⟩))
                go_wp2
                have b3' := below_undrew b3
                refine ⟨⟨t + 1, by omega, by simp, ?_, below_sub (unhide HUQ) b3'⟩, by simp [intOf]; omega⟩
                rw [unhide HL1, unhide HLL]
                exact (unhide HON2).below b3'
              · have hlt1 : l < l1 := Nat.lt_of_not_le fun g => he (unhide HG2 l g)
                rw [decide_eq_false he] at h17
                have h13 := rparent_good l (X0 / 2 ^ l) hok (by omega)
                rw [up_div] at h13
                rw [hI] at h17 o1 h13
                obtain ⟨J1, hJ1⟩ : ∃ J1, X0 / 2 ^ (l + 1) = J1 := ⟨_, rfl⟩
                obtain ⟨m, hm⟩ : ∃ m, l + 1 = m := ⟨_, rfl⟩
                rw [hJ1, hm] at h13
                have HJ := hide (And.intro hJ1 hm)
                have hm2 : m ≤ 32 := by omega
                clear he hok hI hUq hJ1 hm
                go_wp2
                go_region_held3 (fun w' => w'.cell? ⟨b5, 0, none⟩ = some (.int .i64 l) ∧ w'.cell? ⟨b5, 1, none⟩ = some (.int .i64 I) ∧ w'.cell? ⟨b, off + t, none⟩ = some (.int .i64 x))
                  (first | go_keep | exact ⟨(b3.cell (p := ⟨b5, 0, none⟩) (by exact so)).trans o0, (b3.cell (p := ⟨b5, 1, none⟩) (by exact so)).trans o1, (b3.cell (p := ⟨b, off + t, none⟩) (by exact bsz)).trans gx⟩)
                  ((go_at_call 17; refine (h17 _).mono ?_; rintro e w3 ⟨rfl, b3⟩))
                have b3' := below_undrew b3
                have O3 := (unhide HON2).below b3'
                have HO3 := hide O3
                obtain ⟨y0, y1, yf, ys⟩ := O3
                rw [unhide HI2] at y1
                have HB3 := hide b3'
                clear b3 b3'
                go_wp2_with (go_at_call 13; refine (h13 _).mono ?_; rintro e w4 ⟨rfl, b4⟩; have v0 := (b4.cell (p := ⟨b5, 0, none⟩) (by exact ys)).trans y0; have v1 := (b4.cell (p := ⟨b5, 1, none⟩) (by exact ys)).trans y1; have vf : ∀ o, w4.frozen? ⟨b5, o, none⟩ = false := (fun o => (b4.frozen (p := ⟨b5, o, none⟩) (by exact ys)).trans (yf o)); have B4 := hide b4; clear b4)
                obtain ⟨hJ1, hm⟩ := unhide HJ
                have hO := ((unhide HO3).below (unhide B4)).put (m : Int) (J1 : Int)
                have hle : U.heap.size ≤ b5 := Nat.le_of_eq (unhide HB5)
                refine ⟨⟨l + 1, by omega, by omega, ?_, ((below_sub (below_sub (unhide HUQ) (unhide HB3)) (unhide B4)).setCell hle _).setCell hle _⟩, ?_⟩
                · rw [hJ1, hm]
                  exact hO
                · rw [hO.1, o0]
                  simp [intOf]
                  omega
          · obtain rfl : t = k := by omega
            have hcom := comZ_good hxs hall
            rw [hX0] at hcom
            have e : lvK x0 xs t = Lib.bitLen (unl X0 (xs.map plc)) := by
              unfold lvK
              rw [← unhide HN, List.take_length, hX0]
            rw [← e] at hcom
            have HCM := hide hcom
            obtain ⟨L, hL⟩ : ∃ L, lvK x0 xs t = L := ⟨_, rfl⟩
            have HLL := hide hL
            rw [hL] at hone
            obtain ⟨J, hJ⟩ : ∃ J, X0 / 2 ^ L = J := ⟨_, rfl⟩
            have HJJ := hide hJ
            rw [hJ] at hone
            obtain ⟨z0, z1, fr, sz⟩ := hbx.below hUt
            obtain ⟨o0, o1, fo, so⟩ := hone
            have ti1 : ¬ (t : Int) < (t : Int) := by omega
            clear hcom e hL hJ hall hxs
            go_wp2
            refine bodyPost_ret (v := .tuple #[.agg #[.int .i64 L, .int .i64 J], .bool true]) (by simp [results, Tryd.results20, go_sem, z0, z1]) rfl ⟨?_, ((below_sub bel0 hUt).setCell (by simp) _).setCell (by simp) _⟩
            have h := unhide HCM
            rw [unhide HLL, unhide HJJ] at h
            rw [h]
            rfl
end Go.Proofs.YtjclojeihjgnkaaDoor

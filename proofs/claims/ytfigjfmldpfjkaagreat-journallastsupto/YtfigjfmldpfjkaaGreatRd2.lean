/- The reader in memory: bytes are taken. -/
import Derived.Test.YtfigjfmldpfjkaaGreatRd1
namespace Go.Proofs.YtfigjfmldpfjkaaGreat
open Go.RowKit Go.Sort

theorem Rd.drew {w : World} {g : Nat} {q : Option Addr} {cap : Nat} {l : List UInt8} {a : Nat} {t : Bool} (h : Rd w g q cap l a t) : Rd w.drew g q cap l a t := h
set_option maxHeartbeats 1000000 in
theorem take_yes (g : Nat) (q : Option Addr) (cap : Nat) (l : List UInt8) (a n : Nat) (w : World) (h : Rd w g q cap l a false) (hl : l.length ≤ 1000000000000000) (hn : a + n ≤ l.length) :
    Calls Tryz.prog 125 #[.pointer (some ⟨g, 0, none⟩), .int .i64 (n : Int)] w fun e w' => e = .returned (.slice (cutA q cap a) n (cap - a)) ∧ Rd w' g q cap l (a + n) false ∧ w.grownBy w' (some g) := by
  have hcap := h.2.1.2.1
  have hb := behind_any g q cap l a false
  have hnd := fun (W : World) (H : Rd W g q cap l a false) => need_any g q cap l a false true W H
  obtain ⟨m, hm⟩ : ∃ m, l.length - a = m := ⟨_, rfl⟩
  obtain ⟨cp, hcp⟩ : ∃ cp, cap - a = cp := ⟨_, rfl⟩
  rw [hm, hcp] at hb
  rw [hcp]
  have hnm : (n : Int) ≤ (m : Int) := by omega
  have hnc : (n : Int) ≤ (cp : Int) := by omega
  have hw1 : IntKind.i64.wrap ((a : Int) + (n : Int)) = ((a + n : Nat) : Int) := by
    rw [show (a : Int) + (n : Int) = ((a + n : Nat) : Int) by omega]; exact wrap_nat _ (by omega)
  have H := hide h
  have HN := hide hn
  clear h hm hcp hcap
  go_enter Tryz.func125, Tryz.ntmps125
  go_wp2_with (first
    | (go_at_call 141; have tst := unhide H2; clear tst; refine (hb _ (unhide H2)).mono ?_; rintro e w3 ⟨rfl, rfl⟩)
    | (go_at_call 141; refine (hb _ (unhide H)).mono ?_; rintro e w1 ⟨rfl, rfl⟩)
    | (go_at_call 121; refine (hnd _ (unhide H).drew).mono ?_; rintro e w2 ⟨⟨v2, rfl⟩, r2, g2⟩; obtain ⟨d0, d1, d2⟩ := r2.cells; have f1 := r2.free 1; have H2 := hide r2; have G2 := hide (grown_trans (grown_drew w (some g)) g2); clear r2 g2))
  go_ret
  exact ⟨rfl, (unhide H2).drew.setA (a + n) (unhide HN), grown_trans (unhide G2) (grown_trans (grown_drew _ _) (grown_set _ _ _ _))⟩
set_option maxHeartbeats 1000000 in
theorem take_no (g : Nat) (q : Option Addr) (cap : Nat) (l : List UInt8) (a : Nat) (t : Bool) (n : Nat) (w : World) (h : Rd w g q cap l a t) (hn : ¬ (t = false ∧ a + n ≤ l.length)) :
    Calls Tryz.prog 125 #[.pointer (some ⟨g, 0, none⟩), .int .i64 (n : Int)] w fun e w' => e = .returned (.slice none 0 0) ∧ Rd w' g q cap l a true ∧ w.grownBy w' (some g) := by
  have hal := h.2.2
  have hb := behind_any g q cap l a t
  obtain ⟨m, hm⟩ : ∃ m, l.length - a = m := ⟨_, rfl⟩
  rw [hm] at hb
  obtain ⟨ok, hok⟩ : ∃ ok, decide ((n : Int) ≤ (m : Int)) = ok := ⟨_, rfl⟩
  have hok2 : decide (n ≤ m) = ok := by rw [← hok]; exact decide_eq_decide.2 (by omega)
  have hor : (t || !ok) = true := by
    cases t
    · have : ¬ n ≤ m := fun h1 => hn ⟨rfl, by omega⟩
      rw [← hok2, decide_eq_false this]; rfl
    · rfl
  have hnd := fun (W : World) (H : Rd W g q cap l a t) => need_any g q cap l a t ok W H
  rw [hor] at hnd
  have H := hide h
  clear h hm hn hor hal
  go_enter Tryz.func125, Tryz.ntmps125
  go_wp2_with (first
    | (go_at_call 141; refine (hb _ (unhide H)).mono ?_; rintro e w1 ⟨rfl, rfl⟩)
    | (go_at_call 121; refine (hnd _ (unhide H).drew).mono ?_; rintro e w2 ⟨⟨v2, rfl⟩, r2, g2⟩; obtain ⟨d0, d1, d2⟩ := r2.cells; have f1 := r2.free 1; have H2 := hide r2; have G2 := hide (grown_trans (grown_drew w (some g)) g2); clear r2 g2))
  go_ret
  exact ⟨rfl, unhide H2, unhide G2⟩
/-- A byte is read: the byte, where the reader stands then, whether it is torn. -/
def st1 (l : List UInt8) (a : Nat) (t : Bool) : UInt8 × Nat × Bool := match t, l[a]? with
  | false, some x => (x, a + 1, false)
  | _, _ => (0, a, true)
theorem st1_yes {l : List UInt8} {a : Nat} {x : UInt8} (h : l[a]? = some x) : st1 l a false = (x, a + 1, false) := by unfold st1; rw [h]
theorem st1_torn (l : List UInt8) (a : Nat) : st1 l a true = (0, a, true) := rfl
theorem st1_end {l : List UInt8} {a : Nat} (t : Bool) (h : l.length ≤ a) : st1 l a t = (0, a, true) := by
  cases t
  · unfold st1; rw [List.getElem?_eq_none h]
  · rfl
set_option maxHeartbeats 1000000 in
theorem one_any (g : Nat) (q : Option Addr) (cap : Nat) (l : List UInt8) (a : Nat) (t : Bool) (w : World) (h : Rd w g q cap l a t) (hl : l.length ≤ 1000000000000000) :
    Calls Tryz.prog 122 #[.pointer (some ⟨g, 0, none⟩)] w fun e w' => e = .returned (.int .u8 ((st1 l a t).1.toNat : Int)) ∧ Rd w' g q cap l (st1 l a t).2.1 (st1 l a t).2.2 ∧ w.grownBy w' (some g) := by
  have H := hide h
  by_cases hc : t = false ∧ a + 1 ≤ l.length
  · obtain ⟨rfl, hlt⟩ := hc
    obtain ⟨x, hx, _⟩ := get_at (show a < l.length by omega)
    rw [st1_yes hx]
    have ht := take_yes g q cap l a 1 w h hl hlt
    have hcs := fun (W : World) (hW : Rd W g q cap l (a + 1) false) => byteAt (cut_sl hW.2.1 a 1 hlt) (j := 0) (x := x) (by rw [List.getElem?_take_of_lt (by omega), List.getElem?_drop]; exact hx)
    obtain ⟨cp, hcp⟩ : ∃ cp, cap - a = cp := ⟨_, rfl⟩
    rw [hcp] at ht
    obtain ⟨Z, hZ⟩ : ∃ Z, cutA q cap a = Z := ⟨_, rfl⟩
    rw [hZ] at ht hcs
    clear h hZ hcp hx
    go_enter Tryz.func122, Tryz.ntmps122
    go_wp2_with (go_at_call 125; refine ht.mono ?_; rintro e w1 ⟨rfl, r1, g1⟩; obtain ⟨d0, d1, d2⟩ := r1.cells; obtain ⟨b, off, rfl, _, y0⟩ := hcs _ r1; rw [Nat.add_zero] at y0; have H1 := hide r1; have G1 := hide g1; clear r1 g1)
    go_ret
    exact ⟨rfl, unhide H1, unhide G1⟩
  · have he : st1 l a t = (0, a, true) := by
      cases t
      · exact st1_end _ (by have : ¬ a + 1 ≤ l.length := fun h => hc ⟨rfl, h⟩
                            omega)
      · rfl
    rw [he]
    have ht := take_no g q cap l a t 1 w h hc
    clear h hc he
    go_enter Tryz.func122, Tryz.ntmps122
    go_wp2_with (go_at_call 125; refine ht.mono ?_; rintro e w1 ⟨rfl, r1, g1⟩; obtain ⟨d0, d1, d2⟩ := r1.cells; have H1 := hide r1; have G1 := hide g1; clear r1 g1)
    go_ret
    exact ⟨rfl, unhide H1, unhide G1⟩
set_option maxHeartbeats 1000000 in
theorem mark_any (g : Nat) (q : Option Addr) (cap : Nat) (l : List UInt8) (a : Nat) (t : Bool) (y : UInt8) (w : World) (h : Rd w g q cap l a t) (hl : l.length ≤ 1000000000000000) :
    Calls Tryz.prog 107 #[.pointer (some ⟨g, 0, none⟩), .int .u8 (y.toNat : Int)] w fun e w' => (∃ v, e = .returned v) ∧ Rd w' g q cap l (st1 l a t).2.1 ((st1 l a t).2.2 || !(((st1 l a t).1.toNat : Int) == (y.toNat : Int))) ∧ w.grownBy w' (some g) := by
  have h1 := one_any g q cap l a t w h hl
  clear h
  generalize st1 l a t = s at h1 ⊢
  obtain ⟨x, a', t'⟩ := s
  simp only at h1 ⊢
  have hnd := fun (W : World) (H : Rd W g q cap l a' t') => need_any g q cap l a' t' ((x.toNat : Int) == (y.toNat : Int)) W H
  generalize hok : ((x.toNat : Int) == (y.toNat : Int)) = ok at hnd ⊢
  go_enter Tryz.func107, Tryz.ntmps107
  go_wp2_with (first
    | (go_at_call 122; refine h1.mono ?_; rintro e w1 ⟨rfl, r1, g1⟩; have H1 := hide r1; have G1 := hide g1; clear r1 g1)
    | (go_at_call 121; refine (hnd _ (unhide H1)).mono ?_; rintro e w2 ⟨⟨v2, rfl⟩, r2, g2⟩; have H2 := hide r2; have G2 := hide (grown_trans (unhide G1) g2); clear r2 g2))
  go_end0
  exact ⟨⟨_, rfl⟩, unhide H2, unhide G2⟩
end Go.Proofs.YtfigjfmldpfjkaaGreat

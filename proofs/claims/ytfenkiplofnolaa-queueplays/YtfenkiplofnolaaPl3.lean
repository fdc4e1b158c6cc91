/- same: does a queue tell what the document's holds? -/
import Derived.Test.YtfenkiplofnolaaPl2
import Derived.Deep.Cut
namespace Go.Proofs.Ytfenkiplofnolaa
open Go.RowKit Go.Sort Go.Shelf

/-- What is written over lies in the row alone. -/
theorem over_below {B : Nat} {w w2 w4 : World} {q1 : Option Addr} {c1 n : Nat} {l : List Int} (ho : OwnK encI 3 1 w.heap.size w2 q1 c1 l) (_hn : l.length = n) (hg : w2.grownBy w4 (Value.slice q1 n c1).ownBlock) (hb : Below B w w2) (hB : B ≤ w.heap.size) : Below B w w4 :=
  hb.trans ⟨hg.os, hg.tape, hg.output, hg.size, fun i hi => hg.block i (by have := hb.size; omega) (fun e => by
    rw [own_block] at e
    have := (ho.blk e.symm).1
    omega)⟩
theorem over_keep {w1 w2 w4 : World} {C D : Nat} {q1 q2 : Option Addr} {c1 c2 n : Nat} {l l2 : List Int} (h1 : OwnK encI 3 1 C w1 q1 c1 l) (h2 : OwnK encI 3 1 w1.heap.size w2 q2 c2 l2) (_hn : l.length = n) (hg : w2.grownBy w4 (Value.slice q1 n c1).ownBlock) (_hD : D = D) : OwnK encI 3 1 w1.heap.size w4 q2 c2 l2 :=
  h2.keep fun i hi => hg.block i (h2.blk hi).2 (fun e => by
    rw [own_block] at e
    have := (h1.blk e.symm).2
    have := (h2.blk hi).1
    omega)
/-- What Peek tells of a list. -/
def pk (l : List Int) : Int := (l.head?).getD 0
theorem peekP (L : Nat) (q : Option Addr) (cap m : Nat) (l : List Int) (w : World) (h : QIn encI 3 1 51 w L q cap m l) :
    Calls Try.prog 31 #[.pointer (some ⟨L, 0, none⟩)] w fun e w' => e = .returned (.tuple #[.int .i64 (pk l), .bool (decide (0 < l.length))]) ∧ Below w.heap.size w w' := by
  refine (peekI L q cap m l w h).mono ?_
  rintro e w' ⟨h1, h2⟩
  refine ⟨?_, h2⟩
  rw [h1]
  cases l with
  | nil => rfl
  | cons x r => simp [pk]
set_option maxHeartbeats 4000000 in
set_option maxRecDepth 100000 in
theorem same_any (g : Nat) (q : Option Addr) (c m : Nat) (l : List Int) (r : Nat) (p : Option Addr) (d : Nat) (w : World) (hQ : QIn encI 3 1 51 w g q c m l) (hR : RIn w r p d m l) :
    Calls Try.prog 20 #[.pointer (some ⟨g, 0, none⟩), .pointer (some ⟨r, 0, none⟩)] w fun e w' => e = .returned (.bool true) ∧ Below w.heap.size w w' := by
  have mixed : Try.prog.follows .mixedOrders = true := by kernel_rfl
  have e14 : ∀ args w, (callFunc 14 args).run Try.prog w = .ok (.enter 14 args) w := enters_of Try.func14 (by kernel_rfl) rfl
  have e21 : ∀ args w, (callFunc 21 args).run Try.prog w = .ok (.enter 21 args) w := enters_of Try.func21 (by kernel_rfl) rfl
  have e22 : ∀ args w, (callFunc 22 args).run Try.prog w = .ok (.enter 22 args) w := enters_of Try.func22 (by kernel_rfl) rfl
  have hl16 : l.length ≤ 16 := by have := hQ.2.2.1; have := hQ.2.2.2.2; omega
  have hlm := hQ.2.2.1
  have hm16 := hQ.2.2.2.2
  have hall := fun (W : World) (hW : Below w.heap.size w W) => allI g q c m l W (hQ.below hW)
  have hpeek := fun (W : World) (hW : Below w.heap.size w W) => peekP g q c m l W (hQ.below hW)
  obtain ⟨nl, hnl⟩ : ∃ nl, l.length = nl := ⟨_, rfl⟩
  obtain ⟨e, he⟩ : ∃ e, l.length + e = m := ⟨m - l.length, by omega⟩
  have hroom := fun (W : World) (hW : Below w.heap.size w W) => roomB g q c m e l W (hQ.below hW) he
  have hlen := fun (W : World) (hW : Below w.heap.size w W) => lenB g q c m l W (hQ.below hW)
  have hsame := fun (W : World) (a : Option Addr) (ca : Nat) (ha : SlOf encI 1 W a ca l) (hW : Below w.heap.size w W) => memEqI a ca l p d l W ha (hR.2.1.below hW) (by omega)
  have hcell := fun (W : World) (hW : Below w.heap.size w W) => cells2 ((hR.below hW).1)
  have hsub : (m : Int) - (nl : Int) = (e : Int) := by omega
  have hwe := wrap_nat e (by omega)
  simp only [hnl, decide_eq_true] at hall hpeek hlen hsame hcell
  have hx0 : ∀ W, Below w.heap.size w W → 0 < nl → ∃ b off, p = some ⟨b, off, none⟩ ∧ W.cell? ⟨b, off, none⟩ = some (.int .i64 (pk l)) := fun W hW h0 => by
    cases l with
    | nil => simp at hnl; omega
    | cons x rr =>
      obtain ⟨b, off, h1, _, h3⟩ := intAt (hR.2.1.below hW) (j := 0) (x := x) rfl
      exact ⟨b, off, h1, h3⟩
  have hpk0 : nl = 0 → pk l = 0 := fun h0 => by obtain rfl : l = [] := List.length_eq_zero_iff.1 (by omega)
                                                rfl
  have b1 : ((nl : Int) == (nl : Int)) = true := by simp
  have b2 : ((e : Int) == (e : Int)) = true := by simp
  have HALL := hide hall
  have HPEEK := hide hpeek
  have HROOM := hide hroom
  have HLEN := hide hlen
  have HSAME := hide hsame
  have HCELL := hide hcell
  have HX0 := hide hx0
  have HNL := hide hnl
  have HW := hide (Below.refl w.heap.size w)
  generalize pk l = x at *
  have b3' : (x == x) = true := by simp
  clear hall hpeek hroom hlen hsame hcell hx0 hnl he hQ hR
  go_enter Try.func20, Try.ntmps20
  by_cases h0 : 0 < nl
  · have hb0 : decide (0 < nl) = true := decide_eq_true h0
    have h0i : (0 : Int) < (nl : Int) := by omega
    rw [hb0] at HPEEK
    clear hpk0
    go_upto_region 5 with (first
      | (go_at_call 30; have tst := unhide O1; clear tst; refine (unhide HALL _ (unhide B1)).mono ?_; rintro e w2 ⟨⟨q2, c2, rfl, o2⟩, b2'⟩; have O2 := hide o2; have B2 := hide ((unhide B1).trans (b2'.mono (unhide B1).size)); have O12 := hide ((unhide O1).below b2'); have S12 := hide b2'.size; clear o2 b2')
      | (go_at_call 30; refine (unhide HALL _ (unhide HW)).mono ?_; rintro e w1 ⟨⟨q1, c1, rfl, o1⟩, b1'⟩; have O1 := hide o1; have B1 := hide b1'; clear o1 b1')
      | (go_at_call 16; refine (overI w.heap.size q1 nl c1 w2 (by omega) (unhide B2).size (by have := (unhide O12).rawI; rw [unhide HNL] at this; exact this)).mono ?_; rintro e w4 ⟨rfl, g4⟩; have B4 := hide (over_below (unhide O12) (unhide HNL) g4 (unhide B2) (Nat.le_refl _)); have O4 := hide (over_keep (D := 0) (unhide O1) (unhide O2) (unhide HNL) g4 rfl); clear g4)
      | (go_at_call 31; refine (unhide HPEEK _ (unhide B4)).mono ?_; rintro e w5 ⟨rfl, b5'⟩; have B5 := hide ((unhide B4).trans (b5'.mono (unhide B4).size)); have O5 := hide ((unhide O4).below b5'); clear b5'))
    obtain ⟨b, off, hp, hcx⟩ := unhide HX0 w5 (unhide B5) h0
    subst hp
    obtain ⟨y0, y1, _⟩ := unhide HCELL w5 (unhide B5)
    go_wp2
    have f14 := fun (V : World) (hV : Below w5.heap.size w5 V) => unhide HSAME V q2 c2 ((unhide O5).ls.below hV) ((unhide B5).trans (hV.mono (unhide B5).size))
    have f21 := fun (V : World) (hV : Below w5.heap.size w5 V) => unhide HROOM V ((unhide B5).trans (hV.mono (unhide B5).size))
    have f22 := fun (V : World) (hV : Below w5.heap.size w5 V) => unhide HLEN V ((unhide B5).trans (hV.mono (unhide B5).size))
    have g1 := cell_regrown y0
    have g2 := cell_regrown y1
    refine wp_region_quiet_below (by assumption) (by kernel_rfl) ?_
    repeat (go_big_quiet_step (first | (go_at_fn 14; refine Calls.regrown_of (f14 _ (below_regrown _ _ _))) | (go_at_fn 21; refine Calls.regrown_of (f21 _ (below_regrown _ _ _))) | (go_at_fn 22; refine Calls.regrown_of (f22 _ (below_regrown _ _ _)))))
    refine wpQuiet_nil ?_
    intro _ hw'
    obtain ⟨⟨dq, osq⟩, hw''⟩ := hw'
    subst hw''
    go_wp2
    go_ret
    exact ⟨rfl, (unhide B5).trans ((below_regrown _ _ _).mono (unhide B5).size)⟩
  · have hb0 : decide (0 < nl) = false := decide_eq_false h0
    have h0i : ¬ (0 : Int) < (nl : Int) := by omega
    rw [hb0] at HPEEK
    have hxz := hpk0 (by omega)
    subst hxz
    clear hpk0
    go_upto_region 5 with (first
      | (go_at_call 30; have tst := unhide O1; clear tst; refine (unhide HALL _ (unhide B1)).mono ?_; rintro e w2 ⟨⟨q2, c2, rfl, o2⟩, b2'⟩; have O2 := hide o2; have B2 := hide ((unhide B1).trans (b2'.mono (unhide B1).size)); have O12 := hide ((unhide O1).below b2'); have S12 := hide b2'.size; clear o2 b2')
      | (go_at_call 30; refine (unhide HALL _ (unhide HW)).mono ?_; rintro e w1 ⟨⟨q1, c1, rfl, o1⟩, b1'⟩; have O1 := hide o1; have B1 := hide b1'; clear o1 b1')
      | (go_at_call 16; refine (overI w.heap.size q1 nl c1 w2 (by omega) (unhide B2).size (by have := (unhide O12).rawI; rw [unhide HNL] at this; exact this)).mono ?_; rintro e w4 ⟨rfl, g4⟩; have B4 := hide (over_below (unhide O12) (unhide HNL) g4 (unhide B2) (Nat.le_refl _)); have O4 := hide (over_keep (D := 0) (unhide O1) (unhide O2) (unhide HNL) g4 rfl); clear g4)
      | (go_at_call 31; refine (unhide HPEEK _ (unhide B4)).mono ?_; rintro e w5 ⟨rfl, b5'⟩; have B5 := hide ((unhide B4).trans (b5'.mono (unhide B4).size)); have O5 := hide ((unhide O4).below b5'); clear b5'))
    obtain ⟨y0, y1, _⟩ := unhide HCELL w5 (unhide B5)
    go_wp2
    have f14 := fun (V : World) (hV : Below w5.heap.size w5 V) => unhide HSAME V q2 c2 ((unhide O5).ls.below hV) ((unhide B5).trans (hV.mono (unhide B5).size))
    have f21 := fun (V : World) (hV : Below w5.heap.size w5 V) => unhide HROOM V ((unhide B5).trans (hV.mono (unhide B5).size))
    have f22 := fun (V : World) (hV : Below w5.heap.size w5 V) => unhide HLEN V ((unhide B5).trans (hV.mono (unhide B5).size))
    have g1 := cell_regrown y0
    have g2 := cell_regrown y1
    refine wp_region_quiet_below (by assumption) (by kernel_rfl) ?_
    repeat (go_big_quiet_step (first | (go_at_fn 14; refine Calls.regrown_of (f14 _ (below_regrown _ _ _))) | (go_at_fn 21; refine Calls.regrown_of (f21 _ (below_regrown _ _ _))) | (go_at_fn 22; refine Calls.regrown_of (f22 _ (below_regrown _ _ _)))))
    refine wpQuiet_nil ?_
    intro _ hw'
    obtain ⟨⟨dq, osq⟩, hw''⟩ := hw'
    subst hw''
    go_wp2
    go_ret
    exact ⟨rfl, (unhide B5).trans ((below_regrown _ _ _).mono (unhide B5).size)⟩
end Go.Proofs.Ytfenkiplofnolaa

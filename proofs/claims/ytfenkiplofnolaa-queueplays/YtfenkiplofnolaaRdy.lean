/- ready: has each queue an item for each time that it stands there? -/
import Derived.Test.YtfenkiplofnolaaMp
import Derived.Shelf.Abstract
namespace Go.Proofs.Ytfenkiplofnolaa
open Go.RowKit Go.Sort Go.Shelf

theorem ptrAt {w : World} {q : Option Addr} {c : Nat} {l : List Nat} {j : Nat} {x : Nat} (h : SlOf encG 1 w q c l) (hj : l[j]? = some x) : ∃ b off, q = some ⟨b, off, none⟩ ∧ b < w.heap.size ∧ w.cell? ⟨b, off + j, none⟩ = some (.pointer (some ⟨x, 0, none⟩)) := by
  obtain ⟨b, off, hq, hb, hc⟩ := h.2.2.2.at hj
  exact ⟨b, off, hq, hb, by have := hc 0 (by omega); rw [Nat.mul_one] at this; exact this⟩
/-- The queue at g holds so many. -/
def LenAt (w : World) (g n : Nat) : Prop := ∃ b c, w.heap[g]? = some (.cells #[.int .i64 (n : Int), b, c] 51 (0, 0))
theorem LenAt.below {w w' : World} {g n : Nat} (h : LenAt w g n) (hb : Below w.heap.size w w') : LenAt w' g n := by
  obtain ⟨b, c, h⟩ := h
  exact ⟨b, c, (hb.block g (Array.getElem?_eq_some_iff.1 h).1).trans h⟩
theorem LenAt.cel {w : World} {g n : Nat} (h : LenAt w g n) : Cel w g := by obtain ⟨b, c, h⟩ := h; exact ⟨_, _, h⟩
theorem LenAt.len {w : World} {g n : Nat} (h : LenAt w g n) : Calls Try.prog 22 #[.pointer (some ⟨g, 0, none⟩)] w fun e w' => e = .returned (.int .i64 (n : Int)) ∧ Below w.heap.size w w' := by
  obtain ⟨b, c, h⟩ := h
  exact (lenQ g b c 51 w _ h).mono fun _ _ ⟨h1, h2⟩ => ⟨h1, by rw [h2]; exact Below.refl _ _⟩
theorem count_snoc {l : List Nat} {k x : Nat} (h : l[k]? = some x) : (fun g => (l.take (k + 1)).count g) = upN (fun g => (l.take k).count g) x ((l.take k).count x + 1) := by
  funext g
  rw [take_snoc_of h, List.count_append]
  unfold upN
  by_cases hg : g = x
  · subst hg; simp
  · rw [if_neg hg]; simp [Ne.symm hg]
theorem count_take_le (l : List Nat) (k g : Nat) : (l.take k).count g ≤ l.count g := (List.take_sublist k l).count_le g
theorem PM.congr {w : World} {b : Nat} {f f' : Nat → Nat} (h : PM w b f) (e : f' = f) : PM w b f' := e ▸ h
theorem grown_blw {w w' : World} {b C : Nat} (h : w.grownBy w' (some b)) (hb : C ≤ b) (hs : C ≤ w.heap.size) : Below C w w' := ⟨h.os, h.tape, h.output, h.size, fun i hi => h.block i (by omega) (fun e => by injection e with e; omega)⟩
set_option maxHeartbeats 4000000 in
set_option maxRecDepth 100000 in
theorem ready_any (p : Option Addr) (c : Nat) (gs : List Nat) (ln : Nat → Nat) (w : World) (hs : SlOf encG 1 w p c gs) (hq : ∀ g ∈ gs, LenAt w g (ln g)) (hl : gs.length ≤ 100000000000000) :
    Calls Try.prog 35 #[.slice p gs.length c] w fun e w' => e = .returned (.bool (decide (∀ g ∈ gs, gs.count g ≤ ln g))) ∧ Below w.heap.size w w' := by
  have mixed : Try.prog.follows .mixedOrders = true := by kernel_rfl
  have e22 : ∀ args w, (callFunc 22 args).run Try.prog w = .ok (.enter 22 args) w := enters_of Try.func22 (by kernel_rfl) rfl
  have hmm := @run_makeMap Try.prog
  have HS := hide hs
  have HQ := hide hq
  have n0 : (gs.length : Int) ≤ 100000000000000 := by omega
  clear hs hq
  go_enter Try.func35, Try.ntmps35
  go_wp2
  obtain ⟨b, hb⟩ : ∃ b, w.heap.size = b := ⟨_, rfl⟩
  have hP0 := PM.new w
  have hB0 : Below w.heap.size w (w.alloc (.map #[] 0)) := alloc_b _ _
  rw [hb] at hP0
  rw [hb]
  have HB := hide hb
  go_loopw [9] (fun i wr => ∃ k : Nat, k ≤ gs.length ∧ i = .int .i64 k ∧ Hid (PM wr b (fun g => (gs.take k).count g)) ∧ Hid (∀ g ∈ gs.take k, (gs.take k).count g ≤ ln g) ∧ Hid (Below w.heap.size w wr)) (fun i _ => gs.length - (intOf i).toNat)
  case atStart => exact ⟨0, by omega, rfl, hide (hP0.congr (by funext g; simp)), hide (by simp), hide hB0⟩
  case round =>
    obtain ⟨k, hk, rfl, HP, HC, HBw⟩ := hrel
    clear hP0 hB0 hb
    by_cases hlt : k < gs.length
    · obtain ⟨x, hx, _⟩ := get_at hlt
      obtain ⟨bq, off, hp, hbl, hcell⟩ := ptrAt ((unhide HS).below (unhide HBw)) hx
      subst hp
      have hxm : x ∈ gs := List.mem_of_getElem? hx
      have hlx := (unhide HQ x hxm).below (unhide HBw)
      have ki0 : (0 : Int) ≤ (k : Int) := by omega
      have ki1 : (k : Int) < (gs.length : Int) := by omega
      have hlk := (unhide HP).look hlx.cel
      obtain ⟨w2, hup, hP2, hg2⟩ := (unhide HP).put hlx.cel ((gs.take k).count x + 1)
      have hcnt : (gs.take k).count x ≤ k := Nat.le_trans List.count_le_length (by simp; omega)
      have hsn := count_snoc hx
      have hc1 : (gs.take (k + 1)).count x = (gs.take k).count x + 1 := by have := congrFun hsn x; simpa [upN] using this
      rw [← hsn] at hP2
      obtain ⟨n1, hn1⟩ : ∃ n1, (gs.take k).count x + 1 = n1 := ⟨_, rfl⟩
      rw [hn1] at hup hc1
      obtain ⟨n, hn⟩ : ∃ n, (gs.take k).count x = n := ⟨_, rfl⟩
      have hlk1 : (Instr.lookup 90 (.map (some b)) (.pointer (some ⟨x, 0, none⟩)) false).run Try.prog wr = .ok (.int .i64 (n : Int)) wr := by rw [← hn]; exact hlk
      have hadd : (n : Int) + 1 = (n1 : Int) := by omega
      have hwr := wrap_nat n1 (by omega)
      have hb2 : Below wr.heap.size wr w2 ∨ True := Or.inr trivial
      have hbw2 : Below w.heap.size w w2 := (unhide HBw).trans (grown_blw hg2 (Nat.le_of_eq (unhide HB)) (unhide HBw).size)
      have hl2 : LenAt w2 x (ln x) := (unhide HQ x hxm).below hbw2
      have hlk2 : ∀ V, Below w2.heap.size w2 V → (Instr.lookup 90 (.map (some b)) (.pointer (some ⟨x, 0, none⟩)) false).run Try.prog V = .ok (.int .i64 (n1 : Int)) V := fun V hV => by
        have := (hP2.below hV).look (hl2.below hV).cel
        rw [hc1] at this
        exact this
      have hlk3 := fun d os => hlk2 _ (below_regrown w2 d os)
      have hlen := fun (V : World) (hV : Below w2.heap.size w2 V) => (hl2.below hV).len
      have HP2 := hide hP2
      have HB2 := hide hbw2
      have HX := hide hx
      have HC1 := hide hc1
      have HXM := hide hxm
      clear hb2 hlk hlk2 hP2 hg2 hl2 hlx hsn hc1 hn hn1 hx hbw2 hxm
      by_cases hle : ln x < n1
      · have hgt : (ln x : Int) < (n1 : Int) := by omega
        have hfalse : ¬ ∀ g ∈ gs, gs.count g ≤ ln g := fun h => by
          have h1 := h x (unhide HXM)
          have h2 := count_take_le gs (k + 1) x
          have h3 := unhide HC1
          omega
        have HF := hide hfalse
        clear hfalse
        go_wp2
        refine wp_region_quiet_below (by assumption) (by kernel_rfl) ?_
        repeat (go_big_quiet_step (first | (go_at_fn 22; refine Calls.regrown_of (hlen _ (below_regrown _ _ _)))))
        refine wpQuiet_nil ?_
        intro _ hw'
        obtain ⟨⟨dq, osq⟩, hw''⟩ := hw'
        subst hw''
        go_wp2
        go_ret
        exact ⟨by rw [decide_eq_false (unhide HF)]; rfl, (unhide HB2).trans ((below_regrown _ _ _).mono (unhide HB2).size)⟩
      · have hgt : ¬ (ln x : Int) < (n1 : Int) := by omega
        have HN := hide (show ∀ g ∈ gs.take (k + 1), (gs.take (k + 1)).count g ≤ ln g from fun g hg => by
          have h3 := unhide HC1
          by_cases hgx : g = x
          · subst hgx; omega
          · rw [take_snoc_of (unhide HX)] at hg ⊢
            rcases List.mem_append.1 hg with h | h
            · have := unhide HC g h
              rw [List.count_append]
              have h0 : List.count g [x] = 0 := by simp [Ne.symm hgx]
              omega
            · exact absurd (List.mem_singleton.1 h) hgx)
        go_wp2
        refine wp_region_quiet_below (by assumption) (by kernel_rfl) ?_
        repeat (go_big_quiet_step (first | (go_at_fn 22; refine Calls.regrown_of (hlen _ (below_regrown _ _ _)))))
        refine wpQuiet_nil ?_
        intro _ hw'
        obtain ⟨⟨dq, osq⟩, hw''⟩ := hw'
        subst hw''
        go_wp2
        go_roundw
        case rel => exact ⟨k + 1, by omega, by go_num, hide ((unhide HP2).below (below_regrown _ _ _)), HN, hide ((unhide HB2).trans ((below_regrown _ _ _).mono (unhide HB2).size))⟩
        case measure => simp [intOf]; omega
    · obtain rfl : gs.length = k := by omega
      have ki1 : ¬ (gs.length : Int) < (gs.length : Int) := by omega
      have hc := unhide HC
      rw [List.take_length] at hc
      have HT := hide hc
      clear hc
      go_wp2
      go_ret
      exact ⟨by rw [decide_eq_true (unhide HT)]; rfl, unhide HBw⟩
end Go.Proofs.Ytfenkiplofnolaa

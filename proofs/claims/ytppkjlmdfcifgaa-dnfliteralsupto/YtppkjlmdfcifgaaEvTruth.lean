/- What eval.truth and eval.Eval return, for every tree and every event. -/
import Derived.Test.YtppkjlmdfcifgaaEvHolds
import Derived.Test.YtppkjlmdfcifgaaCheck
namespace Go.Proofs.Ytppkjlmdfcifgaa
open Go.RowKit Go.Sort

mutual
/-- The truth of a tree. -/
def truN (ev : List Pr) : Nd → Bool
  | .mk kind attr ints words lo hi op ks => if op = 2 then !(anyT ev ks) else if op = 3 then allT ev ks else if op = 4 then anyT ev ks else holdsB kind attr ints words lo hi ev
def anyT (ev : List Pr) : List Nd → Bool
  | [] => false
  | x :: xs => truN ev x || anyT ev xs
def allT (ev : List Pr) : List Nd → Bool
  | [] => true
  | x :: xs => truN ev x && allT ev xs
end
theorem anyT_eq (ev : List Pr) (l : List Nd) : anyT ev l = l.any (truN ev) := by induction l with
  | nil => simp [anyT]
  | cons x l ih => simp [anyT, ih]
theorem allT_eq (ev : List Pr) (l : List Nd) : allT ev l = !(l.any (fun x => !truN ev x)) := by induction l with
  | nil => simp [allT]
  | cons x l ih => simp [allT, ih]
theorem chkL_mem {l : List Nd} (h : chkL l = true) {x : Nd} (hx : x ∈ l) : chkN x = true := by
  cases hc : chkN x with
  | true => rfl
  | false => rw [chkL_no hx hc] at h; cases h
def TruP (ev : List Pr) (x : Nd) : Prop := ∀ (v : Nv) (w : World) (qe : Option Addr) (ce : Nat), NdIn w v x → SlOf encP 4 w qe ce ev → chkN x = true → wtN x ≤ 1000000000 →
    Calls Try.prog 74 #[v.val, .slice qe ev.length ce] w fun e w' => e = .returned (.bool (truN ev x)) ∧ Below w.heap.size w w'
theorem closT (b : Bool) (v : Nv) (n ce : Nat) (g : Nat) (qe : Option Addr) (w : World) (hcw : w.cell? ⟨g, 0, none⟩ = some (.slice qe n ce)) (hg : g < w.heap.size)
    (hT : ∀ W, Below w.heap.size w W → Calls Try.prog 74 #[v.val, .slice qe n ce] W fun e w' => e = .returned (.bool b) ∧ Below W.heap.size W w') :
    Calls Try.prog 113 #[v.val, .pointer (some ⟨g, 0, none⟩)] w fun e w' => e = .returned (.bool (b)) ∧ Below w.heap.size w w' := by
  have hne : ¬ g = w.heap.size := by omega
  have hh := hT _ ((Below.refl _ _).alloc (Nat.le_refl _) (.cells #[.int .i64 v.kind, .string v.attr, .slice v.qi v.ni v.ci, .slice v.qw v.nw v.cw, .int .i64 v.lo, .int .i64 v.hi, .int .i64 v.op, .slice v.qk v.nk v.ck] 31))
  clear hT
  simp only [Nv.val] at hh ⊢
  go_enter Try.func113, Try.ntmps113
  go_wp2_with (go_at_call 74; refine hh.mono ?_; rintro e w1 ⟨rfl, b1⟩; have B1 := hide (below_sub ((Below.refl w.heap.size w).alloc (Nat.le_refl _) _) b1); clear b1)
  go_ret
  exact ⟨rfl, unhide B1⟩
theorem closF (b : Bool) (v : Nv) (n ce : Nat) (g : Nat) (qe : Option Addr) (w : World) (hcw : w.cell? ⟨g, 0, none⟩ = some (.slice qe n ce)) (hg : g < w.heap.size)
    (hT : ∀ W, Below w.heap.size w W → Calls Try.prog 74 #[v.val, .slice qe n ce] W fun e w' => e = .returned (.bool b) ∧ Below W.heap.size W w') :
    Calls Try.prog 114 #[v.val, .pointer (some ⟨g, 0, none⟩)] w fun e w' => e = .returned (.bool (!b)) ∧ Below w.heap.size w w' := by
  have hne : ¬ g = w.heap.size := by omega
  have hh := hT _ ((Below.refl _ _).alloc (Nat.le_refl _) (.cells #[.int .i64 v.kind, .string v.attr, .slice v.qi v.ni v.ci, .slice v.qw v.nw v.cw, .int .i64 v.lo, .int .i64 v.hi, .int .i64 v.op, .slice v.qk v.nk v.ck] 31))
  clear hT
  simp only [Nv.val] at hh ⊢
  go_enter Try.func114, Try.ntmps114
  go_wp2_with (go_at_call 74; refine hh.mono ?_; rintro e w1 ⟨rfl, b1⟩; have B1 := hide (below_sub ((Below.refl w.heap.size w).alloc (Nat.le_refl _) _) b1); clear b1)
  go_ret
  exact ⟨rfl, unhide B1⟩
set_option maxRecDepth 100000 in
set_option maxHeartbeats 2000000 in
theorem indexT (ev : List Pr) (g : Nat) (qe : Option Addr) (ce : Nat) (q : Option Addr) (c : Nat) (kids : List Nd) (w : World) (h : NdsOf w q c kids) (hc : w.cell? ⟨g, 0, none⟩ = some (.slice qe ev.length ce)) (hg : g < w.heap.size) (he : SlOf encP 4 w qe ce ev) (ih : ∀ x ∈ kids, TruP ev x) (hk : chkL kids = true) (hwt : wtL kids ≤ 1000000000) :
    Calls Try.prog 143 #[.slice q kids.length c, .func (.func 113) #[] #[.pointer (some ⟨g, 0, none⟩)]] w fun e w' => (∃ n : Int, e = .returned (.int .i64 n) ∧ decide (0 ≤ n) = kids.any (fun x => truN ev x)) ∧ Below w.heap.size w w' := by
  have HA := hide h
  have HC := hide hc
  have HE := hide he
  have HI := hide ih
  have HK := hide hk
  have hlen := Nat.le_trans (Nat.le_trans (len_size kids) (sizeL_wt kids)) hwt
  have HWT := hide hwt
  have a0 : (kids.length : Int) ≤ 1000000000 := by omega
  clear h hc he ih hk hwt
  go_enter Try.func143, Try.ntmps143
  go_wp2
  go_loopw [8] (fun i wr => ∃ k : Nat, k ≤ kids.length ∧ i = .int .i64 k ∧ Below w.heap.size w wr ∧ (∀ (j : Nat) (x : Nd), j < k → kids[j]? = some x → (truN ev x) = false)) (fun i _ => kids.length - (intOf i).toNat)
  case atStart => exact ⟨0, by omega, rfl, Below.refl _ _, fun j x hj => by omega⟩
  case round =>
    obtain ⟨k, hk, rfl, hbel, hno⟩ := hrel
    have HNo := hide hno
    clear hno
    by_cases hlt : k < kids.length
    · obtain ⟨x, hx, hd⟩ := get_at hlt
      clear hd
      obtain ⟨bb, off, v, hq0, hin, g0, g1, g2, g3, g4, g5, g6, g7⟩ := (unhide HA).on hx hbel
      subst hq0
      have hxm : x ∈ kids := List.mem_of_getElem? hx
      have ki0 : (0 : Int) ≤ (k : Int) := by omega
      have ki1 : (k : Int) < (kids.length : Int) := by omega
      have hcw : wr.cell? ⟨g, 0, none⟩ = some (.slice qe ev.length ce) := (hbel.cell (p := ⟨g, 0, none⟩) (by exact hg)).trans (unhide HC)
      have hgr : g < wr.heap.size := Nat.lt_of_lt_of_le hg hbel.size
      have hne : ¬ g = wr.heap.size := by omega
      have hT := fun (W : World) (hb : Below wr.heap.size wr W) => unhide HI x hxm v W qe ce (hin.keep hb) ((unhide HE).below (below_sub hbel hb)) (chkL_mem (unhide HK) hxm) (Nat.le_trans (wtL_mem hxm) (unhide HWT))
      have Hx := hide hx
      have HB := hide hbel
      clear hx hxm hin hbel
      have hC := closT _ v _ _ g qe wr hcw hgr hT
      simp only [Nv.val] at hC
      clear hT
      cases hq : truN ev x with
      | true =>
        rw [hq] at hC
        go_wp2_with (go_at_call 113; refine hC.mono ?_; rintro e w1 ⟨rfl, b1⟩; have B1 := hide b1; clear b1)
        go_ret
        exact ⟨⟨_, rfl, by rw [show kids.any (fun x => truN ev x) = true from any_yes (unhide Hx) (by simp [hq])]; simp⟩, below_sub (unhide HB) (unhide B1)⟩
      | false =>
        rw [hq] at hC
        go_wp2_with (go_at_call 113; refine hC.mono ?_; rintro e w1 ⟨rfl, b1⟩; have B1 := hide b1; clear b1)
        go_roundw
        case rel => exact ⟨k + 1, by omega, by go_num, below_sub (unhide HB) (unhide B1), fun j y hj hy => by
          by_cases e : j = k
          · subst e; rw [unhide Hx] at hy; cases hy; simp [hq]
          · exact unhide HNo j y (by omega) hy⟩
        case measure => simp [intOf]; omega
    · have ki1 : ¬ (k : Int) < (kids.length : Int) := by omega
      have HZ := hide (show kids.any (fun x => truN ev x) = false from any_none (fun j x hj hx => unhide HNo j x (by omega) hx))
      go_wp2
      go_ret
      exact ⟨⟨_, rfl, by rw [unhide HZ]; decide⟩, hbel⟩
set_option maxRecDepth 100000 in
set_option maxHeartbeats 2000000 in
theorem indexF (ev : List Pr) (g : Nat) (qe : Option Addr) (ce : Nat) (q : Option Addr) (c : Nat) (kids : List Nd) (w : World) (h : NdsOf w q c kids) (hc : w.cell? ⟨g, 0, none⟩ = some (.slice qe ev.length ce)) (hg : g < w.heap.size) (he : SlOf encP 4 w qe ce ev) (ih : ∀ x ∈ kids, TruP ev x) (hk : chkL kids = true) (hwt : wtL kids ≤ 1000000000) :
    Calls Try.prog 143 #[.slice q kids.length c, .func (.func 114) #[] #[.pointer (some ⟨g, 0, none⟩)]] w fun e w' => (∃ n : Int, e = .returned (.int .i64 n) ∧ decide (0 ≤ n) = kids.any (fun x => !truN ev x)) ∧ Below w.heap.size w w' := by
  have HA := hide h
  have HC := hide hc
  have HE := hide he
  have HI := hide ih
  have HK := hide hk
  have hlen := Nat.le_trans (Nat.le_trans (len_size kids) (sizeL_wt kids)) hwt
  have HWT := hide hwt
  have a0 : (kids.length : Int) ≤ 1000000000 := by omega
  clear h hc he ih hk hwt
  go_enter Try.func143, Try.ntmps143
  go_wp2
  go_loopw [8] (fun i wr => ∃ k : Nat, k ≤ kids.length ∧ i = .int .i64 k ∧ Below w.heap.size w wr ∧ (∀ (j : Nat) (x : Nd), j < k → kids[j]? = some x → (!truN ev x) = false)) (fun i _ => kids.length - (intOf i).toNat)
  case atStart => exact ⟨0, by omega, rfl, Below.refl _ _, fun j x hj => by omega⟩
  case round =>
    obtain ⟨k, hk, rfl, hbel, hno⟩ := hrel
    have HNo := hide hno
    clear hno
    by_cases hlt : k < kids.length
    · obtain ⟨x, hx, hd⟩ := get_at hlt
      clear hd
      obtain ⟨bb, off, v, hq0, hin, g0, g1, g2, g3, g4, g5, g6, g7⟩ := (unhide HA).on hx hbel
      subst hq0
      have hxm : x ∈ kids := List.mem_of_getElem? hx
      have ki0 : (0 : Int) ≤ (k : Int) := by omega
      have ki1 : (k : Int) < (kids.length : Int) := by omega
      have hcw : wr.cell? ⟨g, 0, none⟩ = some (.slice qe ev.length ce) := (hbel.cell (p := ⟨g, 0, none⟩) (by exact hg)).trans (unhide HC)
      have hgr : g < wr.heap.size := Nat.lt_of_lt_of_le hg hbel.size
      have hne : ¬ g = wr.heap.size := by omega
      have hT := fun (W : World) (hb : Below wr.heap.size wr W) => unhide HI x hxm v W qe ce (hin.keep hb) ((unhide HE).below (below_sub hbel hb)) (chkL_mem (unhide HK) hxm) (Nat.le_trans (wtL_mem hxm) (unhide HWT))
      have Hx := hide hx
      have HB := hide hbel
      clear hx hxm hin hbel
      have hC := closF _ v _ _ g qe wr hcw hgr hT
      simp only [Nv.val] at hC
      clear hT
      cases hq : truN ev x with
      | true =>
        rw [hq] at hC
        go_wp2_with (go_at_call 114; refine hC.mono ?_; rintro e w1 ⟨rfl, b1⟩; have B1 := hide b1; clear b1)
        go_roundw
        case rel => exact ⟨k + 1, by omega, by go_num, below_sub (unhide HB) (unhide B1), fun j y hj hy => by
          by_cases e : j = k
          · subst e; rw [unhide Hx] at hy; cases hy; simp [hq]
          · exact unhide HNo j y (by omega) hy⟩
        case measure => simp [intOf]; omega
      | false =>
        rw [hq] at hC
        go_wp2_with (go_at_call 114; refine hC.mono ?_; rintro e w1 ⟨rfl, b1⟩; have B1 := hide b1; clear b1)
        go_ret
        exact ⟨⟨_, rfl, by rw [show kids.any (fun x => !truN ev x) = true from any_yes (unhide Hx) (by simp [hq])]; simp⟩, below_sub (unhide HB) (unhide B1)⟩
    · have ki1 : ¬ (k : Int) < (kids.length : Int) := by omega
      have HZ := hide (show kids.any (fun x => !truN ev x) = false from any_none (fun j x hj hx => unhide HNo j x (by omega) hx))
      go_wp2
      go_ret
      exact ⟨⟨_, rfl, by rw [unhide HZ]; decide⟩, hbel⟩
theorem contFT (ev : List Pr) (g : Nat) (qe : Option Addr) (ce : Nat) (q : Option Addr) (c : Nat) (kids : List Nd) (w : World) (h : NdsOf w q c kids) (hc : w.cell? ⟨g, 0, none⟩ = some (.slice qe ev.length ce)) (hg : g < w.heap.size) (he : SlOf encP 4 w qe ce ev) (ih : ∀ x ∈ kids, TruP ev x) (hk : chkL kids = true) (hwt : wtL kids ≤ 1000000000) :
    Calls Try.prog 115 #[.slice q kids.length c, .func (.func 113) #[] #[.pointer (some ⟨g, 0, none⟩)]] w fun e w' => e = .returned (.bool (kids.any (fun x => truN ev x))) ∧ Below w.heap.size w w' := by
  have hi := indexT ev g qe ce q c kids w h hc hg he ih hk hwt
  clear h hc he ih
  go_enter Try.func115, Try.ntmps115
  go_wp2_with (go_at_call 143; refine hi.mono ?_; rintro e w1 ⟨⟨n, rfl, hn⟩, b1⟩; have HN := hide hn; have B1 := hide b1; clear hn b1)
  all_goals
    go_ret
    exact ⟨ret_bool (by rw [← unhide HN]), unhide B1⟩
theorem contFF (ev : List Pr) (g : Nat) (qe : Option Addr) (ce : Nat) (q : Option Addr) (c : Nat) (kids : List Nd) (w : World) (h : NdsOf w q c kids) (hc : w.cell? ⟨g, 0, none⟩ = some (.slice qe ev.length ce)) (hg : g < w.heap.size) (he : SlOf encP 4 w qe ce ev) (ih : ∀ x ∈ kids, TruP ev x) (hk : chkL kids = true) (hwt : wtL kids ≤ 1000000000) :
    Calls Try.prog 115 #[.slice q kids.length c, .func (.func 114) #[] #[.pointer (some ⟨g, 0, none⟩)]] w fun e w' => e = .returned (.bool (kids.any (fun x => !truN ev x))) ∧ Below w.heap.size w w' := by
  have hi := indexF ev g qe ce q c kids w h hc hg he ih hk hwt
  clear h hc he ih
  go_enter Try.func115, Try.ntmps115
  go_wp2_with (go_at_call 143; refine hi.mono ?_; rintro e w1 ⟨⟨n, rfl, hn⟩, b1⟩; have HN := hide hn; have B1 := hide b1; clear hn b1)
  all_goals
    go_ret
    exact ⟨ret_bool (by rw [← unhide HN]), unhide B1⟩
end Go.Proofs.Ytppkjlmdfcifgaa

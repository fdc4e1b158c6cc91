/- eval.truth: its closures and loops. -/
import Derived.Test.YtimklglliffpcaaGreatQZae
import Derived.Test.YtimklglliffpcaaGreatQZaf
namespace Go.Proofs.YtimklglliffpcaaGreat
open Go.RowKit Go.Sort

def TruP (ev : List Pr) (x : Nd) : Prop := ∀ (v : Nv) (w : World) (qe : Option Addr) (ce : Nat), NdIn w v x → SlOf encP 4 w qe ce ev → chkN x = true → wtN x ≤ 1000000000 →
    Calls Tryz.prog 92 #[v.val, .slice qe ev.length ce] w fun e w' => e = .returned (.bool (truN ev x)) ∧ Below w.heap.size w w'
theorem closT (b : Bool) (v : Nv) (n ce : Nat) (g : Nat) (qe : Option Addr) (w : World) (hcw : w.cell? ⟨g, 0, none⟩ = some (.slice qe n ce)) (hg : g < w.heap.size)
    (hT : ∀ W, Below w.heap.size w W → Calls Tryz.prog 92 #[v.val, .slice qe n ce] W fun e w' => e = .returned (.bool b) ∧ Below W.heap.size W w') :
    Calls Tryz.prog 145 #[v.val, .pointer (some ⟨g, 0, none⟩)] w fun e w' => e = .returned (.bool (b)) ∧ Below w.heap.size w w' := by
  have hne : ¬ g = w.heap.size := by omega
  have hh := hT _ ((Below.refl _ _).alloc (Nat.le_refl _) (.cells #[.int .i64 v.kind, .string v.attr, .slice v.qi v.ni v.ci, .slice v.qw v.nw v.cw, .int .i64 v.lo, .int .i64 v.hi, .int .i64 v.op, .slice v.qk v.nk v.ck] 56))
  clear hT
  simp only [Nv.val] at hh ⊢
  go_enter Tryz.func145, Tryz.ntmps145
  go_wp2_with (go_at_call 92; refine hh.mono ?_; rintro e w1 ⟨rfl, b1⟩; have B1 := hide (below_sub ((Below.refl w.heap.size w).alloc (Nat.le_refl _) _) b1); clear b1)
  go_ret
  exact ⟨rfl, unhide B1⟩
theorem closF (b : Bool) (v : Nv) (n ce : Nat) (g : Nat) (qe : Option Addr) (w : World) (hcw : w.cell? ⟨g, 0, none⟩ = some (.slice qe n ce)) (hg : g < w.heap.size)
    (hT : ∀ W, Below w.heap.size w W → Calls Tryz.prog 92 #[v.val, .slice qe n ce] W fun e w' => e = .returned (.bool b) ∧ Below W.heap.size W w') :
    Calls Tryz.prog 146 #[v.val, .pointer (some ⟨g, 0, none⟩)] w fun e w' => e = .returned (.bool (!b)) ∧ Below w.heap.size w w' := by
  have hne : ¬ g = w.heap.size := by omega
  have hh := hT _ ((Below.refl _ _).alloc (Nat.le_refl _) (.cells #[.int .i64 v.kind, .string v.attr, .slice v.qi v.ni v.ci, .slice v.qw v.nw v.cw, .int .i64 v.lo, .int .i64 v.hi, .int .i64 v.op, .slice v.qk v.nk v.ck] 56))
  clear hT
  simp only [Nv.val] at hh ⊢
  go_enter Tryz.func146, Tryz.ntmps146
  go_wp2_with (go_at_call 92; refine hh.mono ?_; rintro e w1 ⟨rfl, b1⟩; have B1 := hide (below_sub ((Below.refl w.heap.size w).alloc (Nat.le_refl _) _) b1); clear b1)
  go_ret
  exact ⟨rfl, unhide B1⟩
set_option maxRecDepth 100000 in
set_option maxHeartbeats 2000000 in
theorem indexT (ev : List Pr) (g : Nat) (qe : Option Addr) (ce : Nat) (q : Option Addr) (c : Nat) (kids : List Nd) (w : World) (h : NdsOf w q c kids) (hc : w.cell? ⟨g, 0, none⟩ = some (.slice qe ev.length ce)) (hg : g < w.heap.size) (he : SlOf encP 4 w qe ce ev) (ih : ∀ x ∈ kids, TruP ev x) (hk : chkL kids = true) (hwt : wtL kids ≤ 1000000000) :
    Calls Tryz.prog 180 #[.slice q kids.length c, .func (.func 145) #[] #[.pointer (some ⟨g, 0, none⟩)]] w fun e w' => (∃ n : Int, e = .returned (.int .i64 n) ∧ decide (0 ≤ n) = kids.any (fun x => truN ev x)) ∧ Below w.heap.size w w' := by
  have HA := hide h
  have HC := hide hc
  have HE := hide he
  have HI := hide ih
  have HK := hide hk
  have hlen := Nat.le_trans (Nat.le_trans (len_size kids) (sizeL_wt kids)) hwt
  have HWT := hide hwt
  have a0 : (kids.length : Int) ≤ 1000000000 := by omega
  clear h hc he ih hk hwt
  go_enter Tryz.func180, Tryz.ntmps180
  go_wp2
  go_loopw [8] (fun i wr => ∃ k : Nat, k ≤ kids.length ∧ i = .int .i64 k ∧ Below w.heap.size w wr ∧ (∀ (j : Nat) (x : Nd), j < k → kids[j]? = some x → (truN ev x) = false)) (fun i _ => kids.length - (intOf i).toNat)
  case atStart => exact ⟨0, by omega, rfl, Below.refl _ _, fun j x hj => by omega⟩
  case round =>
    obtain ⟨k, hk, rfl, hbel, hno⟩ := hrel
    have HNo := hide hno
    clear hno
    by_cases hlt : k < kids.length
    · obtain ⟨x, hx, hd⟩ := get_at hlt
      clear hd
      obtain ⟨bb, off, v, hq0, hin, g0, g1, g2, g3, g4, g5, g6, g7⟩ := (unhide HA).on hx hbel
      subst hq0
      have hxm : x ∈ kids := List.mem_of_getElem? hx
      have ki0 : (0 : Int) ≤ (k : Int) := by omega
      have ki1 : (k : Int) < (kids.length : Int) := by omega
      have hcw : wr.cell? ⟨g, 0, none⟩ = some (.slice qe ev.length ce) := (hbel.cell (p := ⟨g, 0, none⟩) (by exact hg)).trans (unhide HC)
      have hgr : g < wr.heap.size := Nat.lt_of_lt_of_le hg hbel.size
      have hne : ¬ g = wr.heap.size := by omega
      have hT := fun (W : World) (hb : Below wr.heap.size wr W) => unhide HI x hxm v W qe ce (hin.keep hb) ((unhide HE).below (below_sub hbel hb)) (chkL_mem (unhide HK) hxm) (Nat.le_trans (wtL_mem hxm) (unhide HWT))
      have Hx := hide hx
      have HB := hide hbel
      clear hx hxm hin hbel
      have hC := closT _ v _ _ g qe wr hcw hgr hT
      simp only [Nv.val] at hC
      clear hT
      cases hq : truN ev x with
      | true =>
        rw [hq] at hC
        go_wp2_with (go_at_call 145; refine hC.mono ?_; rintro e w1 ⟨rfl, b1⟩; have B1 := hide b1; clear b1)
        go_ret
        exact ⟨⟨_, rfl, by rw [show kids.any (fun x => truN ev x) = true from any_yes (unhide Hx) (by simp [hq])]; simp⟩, below_sub (unhide HB) (unhide B1)⟩
      | false =>
        rw [hq] at hC
        go_wp2_with (go_at_call 145; refine hC.mono ?_; rintro e w1 ⟨rfl, b1⟩; have B1 := hide b1; clear b1)
        go_roundw
        case rel => exact ⟨k + 1, by omega, by go_num, below_sub (unhide HB) (unhide B1), fun j y hj hy => by
          by_cases e : j = k
          · subst e; rw [unhide Hx] at hy; cases hy; simp [hq]
          · exact unhide HNo j y (by omega) hy⟩
        case measure => simp [intOf]; omega
    · have ki1 : ¬ (k : Int) < (kids.length : Int) := by omega
      have HZ := hide (show kids.any (fun x => truN ev x) = false from any_none (fun j x hj hx => unhide HNo j x (by omega) hx))
      go_wp2
      go_ret
      exact ⟨⟨_, rfl, by rw [unhide HZ]; decide⟩, hbel⟩
set_option maxRecDepth 100000 in
set_option maxHeartbeats 2000000 in
theorem indexF (ev : List Pr) (g : Nat) (qe : Option Addr) (ce : Nat) (q : Option Addr) (c : Nat) (kids : List Nd) (w : World) (h : NdsOf w q c kids) (hc : w.cell? ⟨g, 0, none⟩ = some (.slice qe ev.length ce)) (hg : g < w.heap.size) (he : SlOf encP 4 w qe ce ev) (ih : ∀ x ∈ kids, TruP ev x) (hk : chkL kids = true) (hwt : wtL kids ≤ 1000000000) :
    Calls Tryz.prog 180 #[.slice q kids.length c, .func (.func 146) #[] #[.pointer (some ⟨g, 0, none⟩)]] w fun e w' => (∃ n : Int, e = .returned (.int .i64 n) ∧ decide (0 ≤ n) = kids.any (fun x => !truN ev x)) ∧ Below w.heap.size w w' := by
  have HA := hide h
  have HC := hide hc
  have HE := hide he
  have HI := hide ih
  have HK := hide hk
  have hlen := Nat.le_trans (Nat.le_trans (len_size kids) (sizeL_wt kids)) hwt
  have HWT := hide hwt
  have a0 : (kids.length : Int) ≤ 1000000000 := by omega
  clear h hc he ih hk hwt
  go_enter Tryz.func180, Tryz.ntmps180
  go_wp2
  go_loopw [8] (fun i wr => ∃ k : Nat, k ≤ kids.length ∧ i = .int .i64 k ∧ Below w.heap.size w wr ∧ (∀ (j : Nat) (x : Nd), j < k → kids[j]? = some x → (!truN ev x) = false)) (fun i _ => kids.length - (intOf i).toNat)
  case atStart => exact ⟨0, by omega, rfl, Below.refl _ _, fun j x hj => by omega⟩
  case round =>
    obtain ⟨k, hk, rfl, hbel, hno⟩ := hrel
    have HNo := hide hno
    clear hno
    by_cases hlt : k < kids.length
    · obtain ⟨x, hx, hd⟩ := get_at hlt
      clear hd
      obtain ⟨bb, off, v, hq0, hin, g0, g1, g2, g3, g4, g5, g6, g7⟩ := (unhide HA).on hx hbel
      subst hq0
      have hxm : x ∈ kids := List.mem_of_getElem? hx
      have ki0 : (0 : Int) ≤ (k : Int) := by omega
      have ki1 : (k : Int) < (kids.length : Int) := by omega
      have hcw : wr.cell? ⟨g, 0, none⟩ = some (.slice qe ev.length ce) := (hbel.cell (p := ⟨g, 0, none⟩) (by exact hg)).trans (unhide HC)
      have hgr : g < wr.heap.size := Nat.lt_of_lt_of_le hg hbel.size
      have hne : ¬ g = wr.heap.size := by omega
      have hT := fun (W : World) (hb : Below wr.heap.size wr W) => unhide HI x hxm v W qe ce (hin.keep hb) ((unhide HE).below (below_sub hbel hb)) (chkL_mem (unhide HK) hxm) (Nat.le_trans (wtL_mem hxm) (unhide HWT))
      have Hx := hide hx
      have HB := hide hbel
      clear hx hxm hin hbel
      have hC := closF _ v _ _ g qe wr hcw hgr hT
      simp only [Nv.val] at hC
      clear hT
      cases hq : truN ev x with
      | true =>
        rw [hq] at hC
        go_wp2_with (go_at_call 146; refine hC.mono ?_; rintro e w1 ⟨rfl, b1⟩; have B1 := hide b1; clear b1)
        go_roundw
        case rel => exact ⟨k + 1, by omega, by go_num, below_sub (unhide HB) (unhide B1), fun j y hj hy => by
          by_cases e : j = k
          · subst e; rw [unhide Hx] at hy; cases hy; simp [hq]
          · exact unhide HNo j y (by omega) hy⟩
        case measure => simp [intOf]; omega
      | false =>
        rw [hq] at hC
        go_wp2_with (go_at_call 146; refine hC.mono ?_; rintro e w1 ⟨rfl, b1⟩; have B1 := hide b1; clear b1)
        go_ret
        exact ⟨⟨_, rfl, by rw [show kids.any (fun x => !truN ev x) = true from any_yes (unhide Hx) (by simp [hq])]; simp⟩, below_sub (unhide HB) (unhide B1)⟩
    · have ki1 : ¬ (k : Int) < (kids.length : Int) := by omega
      have HZ := hide (show kids.any (fun x => !truN ev x) = false from any_none (fun j x hj hx => unhide HNo j x (by omega) hx))
      go_wp2
      go_ret
      exact ⟨⟨_, rfl, by rw [unhide HZ]; decide⟩, hbel⟩
theorem contFT (ev : List Pr) (g : Nat) (qe : Option Addr) (ce : Nat) (q : Option Addr) (c : Nat) (kids : List Nd) (w : World) (h : NdsOf w q c kids) (hc : w.cell? ⟨g, 0, none⟩ = some (.slice qe ev.length ce)) (hg : g < w.heap.size) (he : SlOf encP 4 w qe ce ev) (ih : ∀ x ∈ kids, TruP ev x) (hk : chkL kids = true) (hwt : wtL kids ≤ 1000000000) :
    Calls Tryz.prog 147 #[.slice q kids.length c, .func (.func 145) #[] #[.pointer (some ⟨g, 0, none⟩)]] w fun e w' => e = .returned (.bool (kids.any (fun x => truN ev x))) ∧ Below w.heap.size w w' := by
  have hi := indexT ev g qe ce q c kids w h hc hg he ih hk hwt
  clear h hc he ih
  go_enter Tryz.func147, Tryz.ntmps147
  go_wp2_with (go_at_call 180; refine hi.mono ?_; rintro e w1 ⟨⟨n, rfl, hn⟩, b1⟩; have HN := hide hn; have B1 := hide b1; clear hn b1)
  all_goals
    go_ret
    exact ⟨ret_bool (by rw [← unhide HN]), unhide B1⟩
theorem contFF (ev : List Pr) (g : Nat) (qe : Option Addr) (ce : Nat) (q : Option Addr) (c : Nat) (kids : List Nd) (w : World) (h : NdsOf w q c kids) (hc : w.cell? ⟨g, 0, none⟩ = some (.slice qe ev.length ce)) (hg : g < w.heap.size) (he : SlOf encP 4 w qe ce ev) (ih : ∀ x ∈ kids, TruP ev x) (hk : chkL kids = true) (hwt : wtL kids ≤ 1000000000) :
    Calls Tryz.prog 147 #[.slice q kids.length c, .func (.func 146) #[] #[.pointer (some ⟨g, 0, none⟩)]] w fun e w' => e = .returned (.bool (kids.any (fun x => !truN ev x))) ∧ Below w.heap.size w w' := by
  have hi := indexF ev g qe ce q c kids w h hc hg he ih hk hwt
  clear h hc he ih
  go_enter Tryz.func147, Tryz.ntmps147
  go_wp2_with (go_at_call 180; refine hi.mono ?_; rintro e w1 ⟨⟨n, rfl, hn⟩, b1⟩; have HN := hide hn; have B1 := hide b1; clear hn b1)
  all_goals
    go_ret
    exact ⟨ret_bool (by rw [← unhide HN]), unhide B1⟩
end Go.Proofs.YtimklglliffpcaaGreat
namespace Go.Proofs.YtimklglliffpcaaGreat
open Go.RowKit Go.Sort

set_option maxRecDepth 100000 in
set_option maxHeartbeats 2000000 in
theorem truth_and (kind : Int) (attr : ByteArray) (qi : Option Addr) (ci : Nat) (ints : List Int) (qw : Option Addr) (cw : Nat) (words : List ByteArray) (lo hi op : Int) (qk : Option Addr) (ck : Nat) (kids : List Nd) (qe : Option Addr) (ce : Nat) (ev : List Pr) (w : World) (h3 : SlOf encP 4 w qe ce ev) (hop : op = 3) (hk : NdsOf w qk ck kids) (ih : ∀ x ∈ kids, TruP ev x) (hc : chkL kids = true) (hwt : wtL kids ≤ 1000000000) :
    Calls Tryz.prog 92 #[.agg #[.int .i64 kind, .string attr, .slice qi ints.length ci, .slice qw words.length cw, .int .i64 lo, .int .i64 hi, .int .i64 op, .slice qk kids.length ck], .slice qe ev.length ce] w fun e w' => e = .returned (.bool (!(kids.any (fun x => !truN ev x)))) ∧ Below w.heap.size w w' := by
  obtain ⟨X, HX⟩ : ∃ X, (w.alloc (.cells #[.int .i64 kind, .string attr, .slice qi ints.length ci, .slice qw words.length cw, .int .i64 lo, .int .i64 hi, .int .i64 op, .slice qk kids.length ck] 56)).alloc (.cells #[.slice qe ev.length ce] 40) = X := ⟨_, rfl⟩
  obtain ⟨x8, xe, bX, sX⟩ := two HX
  obtain ⟨c0, c1, c2, c3, c4, c5, c6, c7⟩ := of8' x8
  have ce0 := of1' xe
  have hgX := heap_lt xe
  have BX := hide bX
  have HE := hide (h3.below bX)
  clear h3 bX
  have hC := contFF ev (w.heap.size + 1) qe ce qk ck kids X (hk.below (unhide BX)) ce0 hgX (unhide HE) ih hc hwt
  clear hk ih
  subst hop
  generalize kids.any (fun x => !truN ev x) = r at hC ⊢
  go_enter Tryz.func92, Tryz.ntmps92
  go_wp2_with (go_at_call 147; refine hC.mono ?_; rintro e w1 ⟨rfl, b1⟩; have B1 := hide b1; clear b1)
  go_ret
  exact ⟨rfl, below_sub (unhide BX) (unhide B1)⟩
set_option maxRecDepth 100000 in
set_option maxHeartbeats 2000000 in
theorem truth_or (kind : Int) (attr : ByteArray) (qi : Option Addr) (ci : Nat) (ints : List Int) (qw : Option Addr) (cw : Nat) (words : List ByteArray) (lo hi op : Int) (qk : Option Addr) (ck : Nat) (kids : List Nd) (qe : Option Addr) (ce : Nat) (ev : List Pr) (w : World) (h3 : SlOf encP 4 w qe ce ev) (hop : op = 4) (hk : NdsOf w qk ck kids) (ih : ∀ x ∈ kids, TruP ev x) (hc : chkL kids = true) (hwt : wtL kids ≤ 1000000000) :
    Calls Tryz.prog 92 #[.agg #[.int .i64 kind, .string attr, .slice qi ints.length ci, .slice qw words.length cw, .int .i64 lo, .int .i64 hi, .int .i64 op, .slice qk kids.length ck], .slice qe ev.length ce] w fun e w' => e = .returned (.bool (kids.any (fun x => truN ev x))) ∧ Below w.heap.size w w' := by
  obtain ⟨X, HX⟩ : ∃ X, (w.alloc (.cells #[.int .i64 kind, .string attr, .slice qi ints.length ci, .slice qw words.length cw, .int .i64 lo, .int .i64 hi, .int .i64 op, .slice qk kids.length ck] 56)).alloc (.cells #[.slice qe ev.length ce] 40) = X := ⟨_, rfl⟩
  obtain ⟨x8, xe, bX, sX⟩ := two HX
  obtain ⟨c0, c1, c2, c3, c4, c5, c6, c7⟩ := of8' x8
  have ce0 := of1' xe
  have hgX := heap_lt xe
  have BX := hide bX
  have HE := hide (h3.below bX)
  clear h3 bX
  have hC := contFT ev (w.heap.size + 1) qe ce qk ck kids X (hk.below (unhide BX)) ce0 hgX (unhide HE) ih hc hwt
  clear hk ih
  subst hop
  generalize kids.any (fun x => truN ev x) = r at hC ⊢
  go_enter Tryz.func92, Tryz.ntmps92
  go_wp2_with (go_at_call 147; refine hC.mono ?_; rintro e w1 ⟨rfl, b1⟩; have B1 := hide b1; clear b1)
  go_ret
  exact ⟨rfl, below_sub (unhide BX) (unhide B1)⟩
set_option maxRecDepth 100000 in
set_option maxHeartbeats 2000000 in
theorem truth_pred (kind : Int) (attr : ByteArray) (qi : Option Addr) (ci : Nat) (ints : List Int) (qw : Option Addr) (cw : Nat) (words : List ByteArray) (lo hi op : Int) (qk : Option Addr) (ck : Nat) (kids : List Nd) (qe : Option Addr) (ce : Nat) (ev : List Pr) (w : World) (h3 : SlOf encP 4 w qe ce ev) (hop : op = 1) (h1 : SlOf encI 1 w qi ci ints) (h2 : SlOf encS 1 w qw cw words) (l1 : ints.length ≤ 100000000000000) (l2 : words.length ≤ 100000000000000) (l3 : ev.length ≤ 100000000000000) :
    Calls Tryz.prog 92 #[.agg #[.int .i64 kind, .string attr, .slice qi ints.length ci, .slice qw words.length cw, .int .i64 lo, .int .i64 hi, .int .i64 op, .slice qk kids.length ck], .slice qe ev.length ce] w fun e w' => e = .returned (.bool (holdsB kind attr ints words lo hi ev)) ∧ Below w.heap.size w w' := by
  obtain ⟨X, HX⟩ : ∃ X, (w.alloc (.cells #[.int .i64 kind, .string attr, .slice qi ints.length ci, .slice qw words.length cw, .int .i64 lo, .int .i64 hi, .int .i64 op, .slice qk kids.length ck] 56)).alloc (.cells #[.slice qe ev.length ce] 40) = X := ⟨_, rfl⟩
  obtain ⟨x8, xe, bX, sX⟩ := two HX
  obtain ⟨c0, c1, c2, c3, c4, c5, c6, c7⟩ := of8' x8
  have ce0 := of1' xe
  have hgX := heap_lt xe
  have BX := hide bX
  have HE := hide (h3.below bX)
  clear h3 bX
  have hC := holds_any kind attr qi ci ints qw cw words lo hi qe ce ev X (h1.below (unhide BX)) (h2.below (unhide BX)) (unhide HE) l1 l2 l3
  clear h1 h2
  subst hop
  generalize holdsB kind attr ints words lo hi ev = r at hC ⊢
  go_enter Tryz.func92, Tryz.ntmps92
  go_wp2_with (go_at_call 37; refine hC.mono ?_; rintro e w1 ⟨rfl, b1⟩; have B1 := hide b1; clear b1)
  go_ret
  exact ⟨rfl, below_sub (unhide BX) (unhide B1)⟩
set_option maxRecDepth 100000 in
set_option maxHeartbeats 2000000 in
theorem truth_not (kind : Int) (attr : ByteArray) (qi : Option Addr) (ci : Nat) (ints : List Int) (qw : Option Addr) (cw : Nat) (words : List ByteArray) (lo hi op : Int) (qk : Option Addr) (ck : Nat) (kids : List Nd) (qe : Option Addr) (ce : Nat) (ev : List Pr) (w : World) (h3 : SlOf encP 4 w qe ce ev) (x : Nd) (hop : op = 2) (hks : kids = [x]) (hk : NdsOf w qk ck kids) (ih : ∀ x ∈ kids, TruP ev x) (hc : chkL kids = true) (hwt : wtL kids ≤ 1000000000) :
    Calls Tryz.prog 92 #[.agg #[.int .i64 kind, .string attr, .slice qi ints.length ci, .slice qw words.length cw, .int .i64 lo, .int .i64 hi, .int .i64 op, .slice qk kids.length ck], .slice qe ev.length ce] w fun e w' => e = .returned (.bool (!(truN ev x))) ∧ Below w.heap.size w w' := by
  obtain ⟨X, HX⟩ : ∃ X, (w.alloc (.cells #[.int .i64 kind, .string attr, .slice qi ints.length ci, .slice qw words.length cw, .int .i64 lo, .int .i64 hi, .int .i64 op, .slice qk kids.length ck] 56)).alloc (.cells #[.slice qe ev.length ce] 40) = X := ⟨_, rfl⟩
  obtain ⟨x8, xe, bX, sX⟩ := two HX
  obtain ⟨c0, c1, c2, c3, c4, c5, c6, c7⟩ := of8' x8
  have ce0 := of1' xe
  have hgX := heap_lt xe
  have BX := hide bX
  have HE := hide (h3.below bX)
  clear h3 bX
  subst hks
  obtain ⟨b, off, v, hq, hin, g0, g1, g2, g3, g4, g5, g6, g7⟩ := hk.on (j := 0) rfl (unhide BX)
  subst hq
  rw [Nat.zero_mul, Nat.add_zero] at g0 g1 g2 g3 g4 g5 g6 g7
  have hxm : x ∈ [x] := by simp
  have hC := closF _ v _ _ (w.heap.size + 1) qe X ce0 hgX (fun W hb => ih x hxm v W qe ce (hin.keep hb) ((unhide HE).below hb) (chkL_mem hc hxm) (Nat.le_trans (wtL_mem hxm) hwt))
  simp only [Nv.val] at hC
  clear hk ih hin
  subst hop
  generalize truN ev x = r at hC ⊢
  simp only [List.length_cons, List.length_nil, Nat.zero_add] at c7 HX ⊢
  go_enter Tryz.func92, Tryz.ntmps92
  go_wp2_with (go_at_call 146; refine hC.mono ?_; rintro e w1 ⟨rfl, b1⟩; have B1 := hide b1; clear b1)
  go_ret
  exact ⟨rfl, below_sub (unhide BX) (unhide B1)⟩
theorem truth_any (ev : List Pr) (l3 : ev.length ≤ 100000000000000) : ∀ t, TruP ev t := by
  intro t
  induction t using Nd.ind with
  | h kind attr ints words lo hi op kids ih =>
    intro v w qe ce hin he hch hwt
    obtain ⟨qi, ci, qw, cw, qk, ck, rfl, h1, h2, hk⟩ := hin.parts
    obtain ⟨l1, l2, l4⟩ := wtN_parts hwt
    simp only [chkN, Bool.and_eq_true] at hch
    obtain ⟨hn, hc⟩ := hch
    simp only [truN, Nv.val]
    unfold nodeB at hn
    by_cases o1 : op = 1
    · rw [if_neg (by omega), if_neg (by omega), if_neg (by omega)]
      exact truth_pred kind attr qi ci ints qw cw words lo hi op qk ck kids qe ce ev w he o1 h1 h2 (by omega) (by omega) l3
    · rw [if_neg o1] at hn
      by_cases o2 : op = 2
      · rw [if_pos o2] at hn
        rw [if_pos o2]
        rw [Bool.and_eq_true] at hn
        obtain ⟨x, rfl⟩ := List.length_eq_one_iff.1 (of_decide_eq_true hn.2)
        simp only [anyT, Bool.or_false]
        exact truth_not kind attr qi ci ints qw cw words lo hi op qk ck [x] qe ce ev w he x o2 rfl hk ih hc l4
      · rw [if_neg o2] at hn
        rw [if_neg o2]
        by_cases o3 : op = 3
        · rw [if_pos o3, allT_eq]
          exact truth_and kind attr qi ci ints qw cw words lo hi op qk ck kids qe ce ev w he o3 hk ih hc l4
        · rw [if_neg o3]
          by_cases o4 : op = 4
          · rw [if_pos o4, anyT_eq]
            exact truth_or kind attr qi ci ints qw cw words lo hi op qk ck kids qe ce ev w he o4 hk ih hc l4
          · rw [if_neg (by omega)] at hn; cases hn
set_option maxRecDepth 100000 in
set_option maxHeartbeats 2000000 in
theorem eval_of (t : Nd) (v : Nv) (qe : Option Addr) (ce : Nat) (ev : List Pr) (w : World)
    (hC : ∀ W, Below w.heap.size w W → Calls Tryz.prog 91 #[v.val] W fun e w' => e = .returned (.int .i64 (code (chkN t))) ∧ Below W.heap.size W w')
    (hT : chkN t = true → ∀ W, Below w.heap.size w W → Calls Tryz.prog 92 #[v.val, .slice qe ev.length ce] W fun e w' => e = .returned (.bool (truN ev t)) ∧ Below W.heap.size W w') :
    Calls Tryz.prog 39 #[v.val, .slice qe ev.length ce] w fun e w' => e = .returned (.bool (evalN ev t)) ∧ Below w.heap.size w w' := by
  unfold evalN
  simp only [Nv.val] at hC hT ⊢
  obtain ⟨X, HX⟩ : ∃ X, w.alloc (.cells #[.int .i64 v.kind, .string v.attr, .slice v.qi v.ni v.ci, .slice v.qw v.nw v.cw, .int .i64 v.lo, .int .i64 v.hi, .int .i64 v.op, .slice v.qk v.nk v.ck] 56) = X := ⟨_, rfl⟩
  have x8 : X.heap[w.heap.size]? = some (.cells #[.int .i64 v.kind, .string v.attr, .slice v.qi v.ni v.ci, .slice v.qw v.nw v.cw, .int .i64 v.lo, .int .i64 v.hi, .int .i64 v.op, .slice v.qk v.nk v.ck] 56 (0, 0)) := by rw [← HX]; exact box_nw _ _
  have bX : Below w.heap.size w X := by rw [← HX]; exact (Below.refl _ _).alloc (Nat.le_refl _) _
  obtain ⟨c0, c1, c2, c3, c4, c5, c6, c7⟩ := of8' x8
  have hC1 := hC X bX
  have X8 := hide x8
  have BX := hide bX
  clear hC x8 bX
  cases hch : chkN t with
  | false =>
    rw [hch] at hC1
    clear hT
    simp only [code, Bool.false_eq_true, if_false] at hC1
    go_enter Tryz.func39, Tryz.ntmps39
    go_wp2_with (go_at_call 91; refine hC1.mono ?_; rintro e w1 ⟨rfl, b1⟩; have B1 := hide b1; clear b1)
    go_ret
    exact ⟨rfl, below_sub (unhide BX) (unhide B1)⟩
  | true =>
    rw [hch] at hC1
    have hT1 := hT hch
    clear hT
    simp only [code, if_true] at hC1
    obtain ⟨r, hr⟩ : ∃ r, truN ev t = r := ⟨_, rfl⟩
    rw [hr] at hT1 ⊢
    clear hr
    go_enter Tryz.func39, Tryz.ntmps39
    go_wp2_with (first
      | (go_at_call 91; refine hC1.mono ?_; rintro e w1 ⟨rfl, b1⟩; obtain ⟨d0, d1, d2, d3, d4, d5, d6, d7⟩ := of8' ((b1.block _ (heap_lt (unhide X8))).trans (unhide X8)); have B1 := hide (below_sub (unhide BX) b1); clear b1)
      | (go_at_call 92; refine (hT1 _ (unhide B1)).mono ?_; rintro e w2 ⟨rfl, b2⟩; have B2 := hide (below_sub (unhide B1) b2); clear b2))
    go_ret
    exact ⟨ret_bool (by simp), unhide B2⟩
theorem eval_any (t : Nd) (v : Nv) (qe : Option Addr) (ce : Nat) (ev : List Pr) (w : World) (hin : NdIn w v t) (he : SlOf encP 4 w qe ce ev) (hwt : wtN t ≤ 1000000000) (l3 : ev.length ≤ 100000000000000) :
    Calls Tryz.prog 39 #[v.val, .slice qe ev.length ce] w fun e w' => e = .returned (.bool (evalN ev t)) ∧ Below w.heap.size w w' :=
  eval_of t v qe ce ev w (fun W hb => checkT_any t v W (hin.keep hb) hwt) (fun hc W hb => truth_any ev l3 t v W qe ce (hin.keep hb) (he.below hb) hc hwt)
end Go.Proofs.YtimklglliffpcaaGreat
namespace Go.Proofs.YtimklglliffpcaaGreat
open Go.RowKit Go.Sort

/-- A list of events in memory. -/
def EvsOf (w : World) (q : Option Addr) (c : Nat) (evs : List (List Pr)) : Prop := ∃ us : List (Option Addr × Nat × Nat), SlOf encQ 1 w q c us ∧ us.length = evs.length ∧ ∀ (j : Nat) (u : Option Addr × Nat × Nat) (ev : List Pr), us[j]? = some u → evs[j]? = some ev → u.2.1 = ev.length ∧ SlOf encP 4 w u.1 u.2.2 ev
theorem EvsOf.below {w w' : World} {q : Option Addr} {c : Nat} {evs : List (List Pr)} (h : EvsOf w q c evs) (hb : Below w.heap.size w w') : EvsOf w' q c evs := by
  obtain ⟨us, h1, h2, h3⟩ := h
  exact ⟨us, h1.below hb, h2, fun j u ev hj he => ⟨(h3 j u ev hj he).1, (h3 j u ev hj he).2.below hb⟩⟩
theorem EvsOf.at {w : World} {q : Option Addr} {c : Nat} {evs : List (List Pr)} {j : Nat} {ev : List Pr} (h : EvsOf w q c evs) (hj : evs[j]? = some ev) :
    ∃ b off q1 c1, q = some ⟨b, off, none⟩ ∧ b < w.heap.size ∧ SlOf encP 4 w q1 c1 ev ∧ w.cell? ⟨b, off + j, none⟩ = some (.slice q1 ev.length c1) := by
  obtain ⟨us, h1, h2, h3⟩ := h
  have hl : j < evs.length := (List.getElem?_eq_some_iff.1 hj).1
  obtain ⟨u, hu, _⟩ := get_at (l := us) (k := j) (by omega)
  obtain ⟨b, off, hq, hb, hc⟩ := h1.2.2.2.at hu
  obtain ⟨e1, e2⟩ := h3 j u ev hu hj
  have h0 := hc 0 (by omega)
  rw [Nat.mul_one, Nat.add_zero] at h0
  refine ⟨b, off, u.1, u.2.2, hq, hb, e2, ?_⟩
  rw [← e1]; exact h0
end Go.Proofs.YtimklglliffpcaaGreat

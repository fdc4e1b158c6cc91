/- What slices.Values, slices.AppendSeq and slices.Collect do with a list of posts. -/
import Derived.Test.YtelgpmjafaopmaaBase
import Derived.Test.YtelgpmjafaopmaaPlain
import Derived.RangeFuncNested
import Derived.RangeFuncBound
import Derived.RangeFuncCalls
import Derived.RangeFuncLeaves
import Derived.RangeFuncBox
import Derived.Shelf.Abstract
import Derived.OwnWalkIn
import Derived.TacticsInMore
import Derived.LoopNIn
import Derived.LoopIn
namespace Go.Proofs.Ytelgpmjafaopmaa
open Go.RowKit Go.Sort Go.Shelf

attribute [local go_sem] Oper.semAt_some

theorem take_snoc_of {α : Type} {l : List α} {k : Nat} {x : α} (h : l[k]? = some x) : l.take (k + 1) = l.take k ++ [x] := by
  rw [List.take_add_one, h]; rfl
theorem postAt {w : World} {q : Option Addr} {c : Nat} {l : List Pt} {j : Nat} {x : Pt} (h : SlOf encP 2 w q c l) (hj : l[j]? = some x) : ∃ b off, q = some ⟨b, off, none⟩ ∧ b < w.heap.size ∧ w.cell? ⟨b, off + j * 2, none⟩ = some (.int .i64 x.1) ∧ w.cell? ⟨b, off + j * 2 + 1, none⟩ = some (.bool x.2) := by
  obtain ⟨b, off, hq, hb, hc⟩ := h.2.2.2.at hj
  obtain ⟨h1, h2⟩ := cells2 hc
  exact ⟨b, off, hq, hb, h1, h2⟩
def vP (x : Pt) : Value := .agg #[.int .i64 x.1, .bool x.2]

set_option maxRecDepth 100000 in
set_option maxHeartbeats 2000000 in
/-- The iterator over a list of posts. -/
theorem valP_in (F : Fence) (n : Nat) (h56 : F.fn 56) (hro : F.round = none) (hn : 1 ≤ n) (l Bs n₀ : Nat) (p : Option Addr) (c : Nat) (zs : List Pt) (hz : zs.length ≤ 100000000000000) (J Jx : List Pt → World → Prop)
    (W : World) (hJ : AbidesFrom W.heap.size J)
    (hY : ∀ pre x W, J pre W → pre.length < zs.length → YieldAt F (n - 1) Try.prog l #[.agg #[.int .i64 x.1, .bool x.2]] W fun e W' =>
      (e = .returned (.bool true) ∧ J (pre ++ [x]) W' ∧ Below n₀ W W') ∨ (e = .returned (.bool false) ∧ Jx (pre ++ [x]) W'))
    (hn₀ : n₀ ≤ W.heap.size) (hBs : W.cell? ⟨Bs, 0, none⟩ = some (.slice p zs.length c)) (hc : ∀ j x, zs[j]? = some x → ∃ b off, p = some ⟨b, off, none⟩ ∧ b < n₀ ∧ W.cell? ⟨b, off + j * 2, none⟩ = some (.int .i64 x.1) ∧ W.cell? ⟨b, off + j * 2 + 1, none⟩ = some (.bool x.2)) (h0 : J [] W) :
    CallsIn F n Try.prog 56 #[.func (.yield l) #[] #[], .pointer (some ⟨Bs, 0, none⟩)] W fun e W' => (∃ v, e = .returned v) ∧
      ((∃ ys, ys = zs ∧ J ys W') ∨ (∃ pre, pre <+: zs ∧ Jx pre W')) := by
  have hz0 : (zs.length : Int) ≤ 100000000000000 := by omega
  refine callsIn_of_wp Try.func56 rfl h56 ?_ hro
  simp only [Try.ntmps56, List.size_toArray, List.length_cons, List.length_nil, Nat.reduceAdd, Nat.reduceSub, Array.replicate_succ, Array.replicate_zero, List.push_toArray, List.append_toArray, List.nil_append, List.cons_append]
  gi_wp2
  gi_loopw [7] (fun i wr => ∃ k : Nat, k ≤ zs.length ∧ i = .int .i64 k ∧ J (zs.take k) wr ∧ Below n₀ W wr)
    (fun i _ => zs.length - (intOf i).toNat)
  case atStart => exact ⟨0, Nat.zero_le _, rfl, h0, Below.refl _ _⟩
  case round =>
    obtain ⟨k, hk, rfl, hJs, hnx⟩ := hrel
    by_cases hlt : k < zs.length
    · obtain ⟨x, hx, _⟩ := get_at hlt
      obtain ⟨b, off, hp, hb, c0, c1⟩ := hc k x hx
      have d0 := (hnx.cell (p := ⟨b, off + k * 2, none⟩) hb).trans c0
      have d1 := (hnx.cell (p := ⟨b, off + k * 2 + 1, none⟩) hb).trans c1
      have hJ1 : J (zs.take k) (wr.alloc (.cells #[.int .i64 x.1, .bool x.2] 43)) := hJ _ _ _ none hJs (World.grownBy_alloc wr _ none) (fun r e => by cases e)
      obtain ⟨fn, tmps, assign, body, hy, hR⟩ := hY _ x _ hJ1 (by rw [List.length_take]; omega)
      have hn1 := hide hnx
      have hsn := hnx.size
      have ki0 : (0 : Int) ≤ (k : Int) := by omega
      have ki1 : (k : Int) < (zs.length : Int) := by omega
      have HX := hide (take_snoc_of hx)
      subst hp
      clear c0 c1 hc hx hnx
      gi_wp2
      refine hR.mono ?_
      rintro e W3 (⟨rfl, hJ3, hk3⟩ | ⟨rfl, hJx3⟩)
      · gi_wp2
        go_roundw
        case rel => exact ⟨k + 1, by omega, by go_num, by rw [unhide HX]; exact hJ3, (unhide hn1).trans (((Below.refl n₀ wr).alloc (by omega) _).trans hk3)⟩
        case measure => simp [intOf]; omega
      · gi_wp2
        refine bodyPost_ret (results_none rfl _ _ _) rfl ?_
        exact ⟨⟨_, rfl⟩, .inr ⟨_, by rw [← unhide HX]; exact List.take_prefix _ _, hJx3⟩⟩
    · obtain rfl : k = zs.length := by omega
      have ki1 : ¬ (zs.length : Int) < (zs.length : Int) := by omega
      gi_wp2
      go_end0
      exact ⟨⟨_, rfl⟩, .inl (by rw [List.take_length] at hJs; exact hJs)⟩
theorem valP_stops (F : Fence) (n : Nat) (h56 : F.fn 56) (hro : F.round = none) (hn : 1 ≤ n) (Bs n₀ : Nat) (p : Option Addr) (c : Nat) (zs : List Pt) (hz : zs.length ≤ 100000000000000) (w : World) (hBs : Bs < w.heap.size) (hn₀ : n₀ ≤ w.heap.size)
    (hcell : w.cell? ⟨Bs, 0, none⟩ = some (.slice p zs.length c)) (hc : ∀ j x, zs[j]? = some x → ∃ b off, p = some ⟨b, off, none⟩ ∧ b < n₀ ∧ w.cell? ⟨b, off + j * 2, none⟩ = some (.int .i64 x.1) ∧ w.cell? ⟨b, off + j * 2 + 1, none⟩ = some (.bool x.2)) :
    SeqStopsK F n Try.prog 56 #[.pointer (some ⟨Bs, 0, none⟩)] (fun x : Pt => #[.agg #[.int .i64 x.1, .bool x.2]]) (Below n₀) (fun ys => ys = zs) (fun pre => pre <+: zs) zs.length w := fun l J Jx W hW hJ _ hY h0 => by
  refine valP_in F n h56 hro hn l Bs n₀ p c zs hz J Jx W hJ hY (Nat.le_trans hn₀ hW.size) ((hW.cell (p := ⟨Bs, 0, none⟩) hBs).trans hcell) (fun j x hj => ?_) h0
  obtain ⟨b, off, hp, hb, c0, c1⟩ := hc j x hj
  exact ⟨b, off, hp, hb, (hW.cell (p := ⟨b, off + j * 2, none⟩) (by exact Nat.lt_of_lt_of_le hb hn₀)).trans c0, (hW.cell (p := ⟨b, off + j * 2 + 1, none⟩) (by exact Nat.lt_of_lt_of_le hb hn₀)).trans c1⟩

/-- A block of cells abides what a loop turns. -/
theorem block_own {β : Type} (B : Nat) (t : TypeId) (f : β → Array Value) : Own (fun s W => W.heap[B]? = some (.cells (f s) t (0, 0))) := fun s X Y row hs hg hrow =>
  (hg.block B (Array.getElem?_eq_some_iff.1 hs).1 (fun e' => by obtain ⟨o, ho, hc⟩ := hrow B e'.symm; rw [hs] at ho; cases ho; cases hc)).trans hs
theorem cells_of_block {w : World} {b : Nat} {x : Pt} (h : w.heap[b]? = some (.cells #[.int .i64 x.1, .bool x.2] 43 (0, 0))) : w.cell? ⟨b, 0, none⟩ = some (.int .i64 x.1) ∧ w.cell? ⟨b, 1, none⟩ = some (.bool x.2) := by
  unfold World.cell?; simp [h]
theorem news_blk {w : World} {b : Nat} {x : Pt} (h : w.heap[b]? = some (.cells #[.int .i64 x.1, .bool x.2] 43 (0, 0))) : ∀ (j : Nat) (u : Value), [Value.int .i64 x.1, .bool x.2][j]? = some u → w.cell? ((⟨b, 0, none⟩ : Addr).add j) = some u := by
  intro j u hj
  rw [add_plain, Nat.zero_add]
  have hc : w.cell? ⟨b, j, none⟩ = (#[.int .i64 x.1, .bool x.2] : Array Value)[j]? := (by unfold World.cell?; simp [h])
  rw [hc]
  simpa using hj
theorem news_one (w : World) (x : Pt) : ∀ (j : Nat) (u : Value), [Value.int .i64 x.1, .bool x.2][j]? = some u → (w.alloc (.cells #[.int .i64 x.1, .bool x.2] 43)).cell? ((⟨w.heap.size, 0, none⟩ : Addr).add j) = some u := news_blk (World.alloc_heap_new w _)
theorem flat_oneP (x : Pt) : (flatK encP 2 [x].toArray).toList = [.int .i64 x.1, .bool x.2] := by
  apply List.ext_getElem?
  intro j
  by_cases hj : j < 2
  · have := flat_at (enc := encP) (k := 2) (l := [x]) (j := 0) (x := x) rfl j hj
    rw [Nat.zero_mul, Nat.zero_add] at this
    rw [this]
    have hm : j = 0 ∨ j = 1 := by omega
    rcases hm with e | e <;> rw [e] <;> rfl
  · rw [List.getElem?_eq_none (by simp [flatK]; omega), List.getElem?_eq_none (by simp; omega)]
theorem flat_snoc (l : List Pt) (x : Pt) : (flatK encP 2 (l ++ [x]).toArray).toList = (flatK encP 2 l.toArray).toList ++ [.int .i64 x.1, .bool x.2] := by rw [flat_app encP 2 (by decide), flat_oneP]

set_option maxRecDepth 100000 in
set_option maxHeartbeats 2000000 in
theorem appP_in (F : Fence) (n : Nat) (h63 : F.fn 63) (h56 : F.fn 56) (hro : F.round = none) (hn : 3 ≤ n) (Bs : Nat) (p : Option Addr) (c : Nat) (zs : List Pt) (hz : zs.length * 16 ≤ 140737488355328) (w : World) (hBs : Bs < w.heap.size)
    (hcell : w.cell? ⟨Bs, 0, none⟩ = some (.slice p zs.length c)) (hc : SlOf encP 2 w p c zs) :
    CallsIn F n Try.prog 63 #[.slice none 0 0, .func (.func 56) #[] #[.pointer (some ⟨Bs, 0, none⟩)]] w fun e w' => (∃ q cap, e = .returned (.slice q zs.length cap) ∧ OwnK encP 43 2 w.heap.size w' q cap zs) ∧ Below w.heap.size w w' := by
  have h1 : 1 ≤ n := by omega
  obtain ⟨i0, hi, hz0, hz1, hz2⟩ := info_parts Try.info43
  refine callsIn_of_wp_marks Try.func63 rfl h63 ?_ hro
  simp only [Try.ntmps63, List.size_toArray, List.length_cons, List.length_nil, Nat.reduceAdd, Nat.reduceSub, Array.replicate_succ, Array.replicate_zero, List.push_toArray, List.append_toArray, List.nil_append, List.cons_append]
  gi_wp2
  have bS := Boxed.new w 28 (.slice none 0 0)
  have hB0 : Below w.heap.size w (w.alloc (.cells #[.slice none 0 0] 28)) := (Below.refl _ w).alloc (Nat.le_refl _) _
  have hsz : (w.alloc (.cells #[.slice none 0 0] 28)).heap.size = w.heap.size + 1 := by simp
  have hcell' := (hB0.cell (p := ⟨Bs, 0, none⟩) hBs).trans hcell
  have hc' : ∀ j x, zs[j]? = some x → ∃ b off, p = some ⟨b, off, none⟩ ∧ b < w.heap.size ∧ (w.alloc (.cells #[.slice none 0 0] 28)).cell? ⟨b, off + j * 2, none⟩ = some (.int .i64 x.1) ∧ (w.alloc (.cells #[.slice none 0 0] 28)).cell? ⟨b, off + j * 2 + 1, none⟩ = some (.bool x.2) := fun j x hj => by
    obtain ⟨b, off, hp, hb, c0, c1⟩ := postAt hc hj
    exact ⟨b, off, hp, hb, (hB0.cell (p := ⟨b, off + j * 2, none⟩) hb).trans c0, (hB0.cell (p := ⟨b, off + j * 2 + 1, none⟩) hb).trans c1⟩
  obtain ⟨W0, hW0⟩ : ∃ W0, w.alloc (.cells #[.slice none 0 0] 28) = W0 := ⟨_, rfl⟩
  rw [hW0] at bS hB0 hsz hcell' hc' ⊢
  clear hW0 hcell hc
  refine wpIn_rangeFunc_ownH hro h1 (gf := 56) (lb := #[.pointer (some ⟨Bs, 0, none⟩)]) rfl h56 (enters_of Try.func56 (by kernel_rfl) rfl)
    (valP_stops F (n - 1) h56 hro (by omega) Bs w.heap.size p c zs (by omega) W0 (by omega) (by omega) hcell' hc') belowK_t (belowK_b (by omega)) (Below.refl _ _) (fun _ => rfl)
    (fun pre W => (∃ v, Boxed W w.heap.size 28 v ∧ W.ownsRow w.heap.size 43 2 v pre.length (flatK encP 2 pre.toArray).toList ∧ True) ∧ Below w.heap.size w W)
    (fun _ _ _ => False)
    (OwnFrom.and (Own.from (holdsRow_own w.heap.size w.heap.size 28 43 2 (fun pre : List Pt => pre.length) (fun pre => (flatK encP 2 pre.toArray).toList) (fun _ _ => True)) _) (ownFrom_below (Nat.le_refl _) (by omega)))
    (fun _ _ _ _ _ hs _ _ => hs)
    ⟨⟨_, bS, by simpa [flatK] using World.ownsRow_nil W0 w.heap.size 43 2, trivial⟩, hB0⟩
    (fun x a' W => ∃ Bx, W.heap[Bx]? = some (.cells #[.int .i64 x.1, .bool x.2] 43 (0, 0)) ∧ a' = { tmps := #[.slice none 0 0, .func (.func 56) #[] #[.pointer (some ⟨Bs, 0, none⟩)], .pointer (some ⟨w.heap.size, 0, none⟩), undef, .slice none 0 0, .pointer (some ⟨Bx, 0, none⟩), .func (.func 56) #[] #[.pointer (some ⟨Bs, 0, none⟩)], .agg #[.int .i64 x.1, .bool x.2], undef, undef, undef, undef, undef], defers := [] })
    (fun x a' _ X Y row hs hg hr => by obtain ⟨Bx, h2, h3⟩ := hs; exact ⟨Bx, block_own Bx 43 (fun (_ : Unit) => #[.int .i64 x.1, .bool x.2]) () X Y row h2 hg (fun r e => (hr r e).2), h3⟩)
    ?assign ?body ?done ?stop
  case assign =>
    rintro l pre x W K ⟨⟨v, bv, hrow, _⟩, hB1⟩ hK
    gi_wp2
    exact hK _ _ ((KeepsOthers.alloc _ _).from _) ((Below.refl _ W).alloc hB1.size _) ⟨⟨v, bv.alloc _, hrow.alloc _, trivial⟩, hB1.alloc hB1.size _⟩ ⟨W.heap.size, World.alloc_heap_new W _, rfl⟩
  case body =>
    rintro l pre x a' W hl ⟨r, hr⟩ ⟨⟨v, bv, hrow, _⟩, hB1⟩ ⟨Bx, hBx, rfl⟩ hlt
    have cB := bv.cell
    obtain ⟨c0, c1⟩ := cells_of_block hBx
    obtain ⟨q, cap, rfl, _⟩ := OwnK.shape hrow
    have hsW := hB1.size
    gi_wp2_with (gi_at_builtin; refine wpListIn_append_own _ rfl _ _ 28 rfl w.heap.size 43 i0 (.agg #[.int .i64 0, .bool false]) 2 16 Try.underlying28 hi hz0 hz1 hz2 rfl (by decide) _ _ _ rfl (hrow.alloc _) ⟨W.heap.size, 0, none⟩ 1 1 [.int .i64 x.1, .bool x.2] rfl rfl (news_one _ _) (by simp [Value.oneCell']) (by unfold maxLen; omega) (by omega) (by simp; omega) ?_; intro v' w1 hown' hgrow _; obtain ⟨g', cap', rfl⟩ := ownsRow_succ hown'; obtain ⟨hv1, hv2, hr2, hk2, hb2⟩ := bv.appended (by decide) hrow hB1.size (Nat.le_refl _) hown' hgrow; have hc1 := hv1.cell; have hf1 := hv1.frozen)
    exact ⟨hk2.from _, hb2, ⟨_, hv2, (by rw [flat_snoc, List.length_append]; exact hr2), trivial⟩, hB1.trans hb2⟩
  case done =>
    rintro D ys W hD rfl ⟨⟨v, bv, hrow, _⟩, hB1⟩ hK
    have cB := bv.cell
    obtain ⟨q, cap, rfl, _⟩ := OwnK.shape hrow
    gi_wp2
    refine ⟨by simp, .inl ⟨_, _, rfl, run_takeDeferred hK, ?_⟩⟩
    exact ⟨_, results_tmp rfl _ _ _, ⟨q, cap, rfl, ownsRow_putObj hrow _ hK rfl⟩, hB1.trans (belowK_b (w := w) (Nat.le_refl _) W D _ _ (by omega) hK rfl rfl)⟩
  case stop =>
    rintro D c pre W _ _ h _
    exact h.elim

/-- No fence. -/
def Fr : Fence := { fn := fun _ => True }
theorem appP (Bs : Nat) (p : Option Addr) (c : Nat) (zs : List Pt) (hz : zs.length * 16 ≤ 140737488355328) (w : World) (hBs : Bs < w.heap.size) (hcell : w.cell? ⟨Bs, 0, none⟩ = some (.slice p zs.length c)) (hc : SlOf encP 2 w p c zs) :
    Calls Try.prog 63 #[.slice none 0 0, .func (.func 56) #[] #[.pointer (some ⟨Bs, 0, none⟩)]] w fun e w' => (∃ q cap, e = .returned (.slice q zs.length cap) ∧ OwnK encP 43 2 w.heap.size w' q cap zs) ∧ Below w.heap.size w w' :=
  (appP_in Fr 5 trivial trivial rfl (by decide) Bs p c zs hz w hBs hcell hc).calls fun _ _ h => by cases h
end Go.Proofs.Ytelgpmjafaopmaa

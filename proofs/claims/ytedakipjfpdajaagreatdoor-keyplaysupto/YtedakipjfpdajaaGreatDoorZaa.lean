/- What slices.Values, slices.AppendSeq and slices.Collect do with a list of posts. -/
import Derived.Test.YtedakipjfpdajaaGreatDoorBase
import Derived.Test.YtedakipjfpdajaaGreatDoorPlain
import Derived.RangeFuncNested
import Derived.RangeFuncBound
import Derived.RangeFuncCalls
import Derived.RangeFuncLeaves
import Derived.RangeFuncBox
import Derived.Shelf.Abstract
import Derived.OwnWalkIn
import Derived.TacticsInMore
import Derived.LoopNIn
import Derived.LoopIn
import Derived.Shelf.Small.Strs
import Derived.Test.YtedakipjfpdajaaGreatDoorProg
namespace Go.Proofs.YtedakipjfpdajaaGreatDoor
open Go.RowKit Go.Sort Go.Shelf

attribute [local go_sem] Oper.semAt_some

theorem take_snoc_of {α : Type} {l : List α} {k : Nat} {x : α} (h : l[k]? = some x) : l.take (k + 1) = l.take k ++ [x] := by
  rw [List.take_add_one, h]; rfl
theorem postAt {w : World} {q : Option Addr} {c : Nat} {l : List Ky} {j : Nat} {x : Ky} (h : SlOf encK 5 w q c l) (hj : l[j]? = some x) : ∃ b off, q = some ⟨b, off, none⟩ ∧ b < w.heap.size ∧ w.cell? ⟨b, off + j * 5, none⟩ = some (.string x.attr) ∧ w.cell? ⟨b, off + j * 5 + 1, none⟩ = some (.int .i64 x.kind) ∧ w.cell? ⟨b, off + j * 5 + 2, none⟩ = some (.int .i64 x.level) ∧ w.cell? ⟨b, off + j * 5 + 3, none⟩ = some (.int .i64 x.num) ∧ w.cell? ⟨b, off + j * 5 + 4, none⟩ = some (.string x.word) := by
  obtain ⟨b, off, hq, hb, hc⟩ := h.2.2.2.at hj
  exact ⟨b, off, hq, hb, cells2 hc⟩
def vP (x : Ky) : Value := .agg #[.string x.attr, .int .i64 x.kind, .int .i64 x.level, .int .i64 x.num, .string x.word]

set_option maxRecDepth 100000 in
set_option maxHeartbeats 2000000 in
/-- The iterator over a list of posts. -/
theorem valP_in (F : Fence) (n : Nat) (h56 : F.fn 125) (hro : F.round = none) (hn : 1 ≤ n) (l Bs n₀ : Nat) (p : Option Addr) (c : Nat) (zs : List Ky) (hz : zs.length ≤ 100000000000000) (J Jx : List Ky → World → Prop)
    (W : World) (hJ : AbidesFrom W.heap.size J)
    (hY : ∀ pre x W, J pre W → pre.length < zs.length → YieldAt F (n - 1) Tryz.prog l #[.agg #[.string x.attr, .int .i64 x.kind, .int .i64 x.level, .int .i64 x.num, .string x.word]] W fun e W' =>
      (e = .returned (.bool true) ∧ J (pre ++ [x]) W' ∧ Below n₀ W W') ∨ (e = .returned (.bool false) ∧ Jx (pre ++ [x]) W'))
    (hn₀ : n₀ ≤ W.heap.size) (hBs : W.cell? ⟨Bs, 0, none⟩ = some (.slice p zs.length c)) (hc : ∀ j x, zs[j]? = some x → ∃ b off, p = some ⟨b, off, none⟩ ∧ b < n₀ ∧ W.cell? ⟨b, off + j * 5, none⟩ = some (.string x.attr) ∧ W.cell? ⟨b, off + j * 5 + 1, none⟩ = some (.int .i64 x.kind) ∧ W.cell? ⟨b, off + j * 5 + 2, none⟩ = some (.int .i64 x.level) ∧ W.cell? ⟨b, off + j * 5 + 3, none⟩ = some (.int .i64 x.num) ∧ W.cell? ⟨b, off + j * 5 + 4, none⟩ = some (.string x.word)) (h0 : J [] W) :
    CallsIn F n Tryz.prog 125 #[.func (.yield l) #[] #[], .pointer (some ⟨Bs, 0, none⟩)] W fun e W' => (∃ v, e = .returned v) ∧
      ((∃ ys, ys = zs ∧ J ys W') ∨ (∃ pre, pre <+: zs ∧ Jx pre W')) := by
  have hz0 : (zs.length : Int) ≤ 100000000000000 := by omega
  refine callsIn_of_wp Tryz.func125 rfl h56 ?_ hro
  simp only [Tryz.ntmps125, List.size_toArray, List.length_cons, List.length_nil, Nat.reduceAdd, Nat.reduceSub, Array.replicate_succ, Array.replicate_zero, List.push_toArray, List.append_toArray, List.nil_append, List.cons_append]
  gi_wp2
  gi_loopw [7] (fun i wr => ∃ k : Nat, k ≤ zs.length ∧ i = .int .i64 k ∧ J (zs.take k) wr ∧ Below n₀ W wr)
    (fun i _ => zs.length - (intOf i).toNat)
  case atStart => exact ⟨0, Nat.zero_le _, rfl, h0, Below.refl _ _⟩
  case round =>
    obtain ⟨k, hk, rfl, hJs, hnx⟩ := hrel
    by_cases hlt : k < zs.length
    · obtain ⟨x, hx, _⟩ := get_at hlt
      obtain ⟨b, off, hp, hb, c0, c1, c2, c3, c4⟩ := hc k x hx
      have d0 := (hnx.cell (p := ⟨b, off + k * 5, none⟩) hb).trans c0
      have d1 := (hnx.cell (p := ⟨b, off + k * 5 + 1, none⟩) hb).trans c1
      have d2 := (hnx.cell (p := ⟨b, off + k * 5 + 2, none⟩) hb).trans c2
      have d3 := (hnx.cell (p := ⟨b, off + k * 5 + 3, none⟩) hb).trans c3
      have d4 := (hnx.cell (p := ⟨b, off + k * 5 + 4, none⟩) hb).trans c4
      have hJ1 : J (zs.take k) (wr.alloc (.cells #[.string x.attr, .int .i64 x.kind, .int .i64 x.level, .int .i64 x.num, .string x.word] 46)) := hJ _ _ _ none hJs (World.grownBy_alloc wr _ none) (fun r e => by cases e)
      obtain ⟨fn, tmps, assign, body, hy, hR⟩ := hY _ x _ hJ1 (by rw [List.length_take]; omega)
      have hn1 := hide hnx
      have hsn := hnx.size
      have ki0 : (0 : Int) ≤ (k : Int) := by omega
      have ki1 : (k : Int) < (zs.length : Int) := by omega
      have HX := hide (take_snoc_of hx)
      subst hp
      clear c0 c1 c2 c3 c4 hc hx hnx
      gi_wp2
      refine hR.mono ?_
      rintro e W3 (⟨rfl, hJ3, hk3⟩ | ⟨rfl, hJx3⟩)
      · gi_wp2
        go_roundw
        case rel => exact ⟨k + 1, by omega, by go_num, by rw [unhide HX]; exact hJ3, (unhide hn1).trans (((Below.refl n₀ wr).alloc (by omega) _).trans hk3)⟩
        case measure => simp [intOf]; omega
      · gi_wp2
        refine bodyPost_ret (results_none rfl _ _ _) rfl ?_
        exact ⟨⟨_, rfl⟩, .inr ⟨_, by rw [← unhide HX]; exact List.take_prefix _ _, hJx3⟩⟩
    · obtain rfl : k = zs.length := by omega
      have ki1 : ¬ (zs.length : Int) < (zs.length : Int) := by omega
      gi_wp2
      go_end0
      exact ⟨⟨_, rfl⟩, .inl (by rw [List.take_length] at hJs; exact hJs)⟩
theorem valP_stops (F : Fence) (n : Nat) (h56 : F.fn 125) (hro : F.round = none) (hn : 1 ≤ n) (Bs n₀ : Nat) (p : Option Addr) (c : Nat) (zs : List Ky) (hz : zs.length ≤ 100000000000000) (w : World) (hBs : Bs < w.heap.size) (hn₀ : n₀ ≤ w.heap.size)
    (hcell : w.cell? ⟨Bs, 0, none⟩ = some (.slice p zs.length c)) (hc : ∀ j x, zs[j]? = some x → ∃ b off, p = some ⟨b, off, none⟩ ∧ b < n₀ ∧ w.cell? ⟨b, off + j * 5, none⟩ = some (.string x.attr) ∧ w.cell? ⟨b, off + j * 5 + 1, none⟩ = some (.int .i64 x.kind) ∧ w.cell? ⟨b, off + j * 5 + 2, none⟩ = some (.int .i64 x.level) ∧ w.cell? ⟨b, off + j * 5 + 3, none⟩ = some (.int .i64 x.num) ∧ w.cell? ⟨b, off + j * 5 + 4, none⟩ = some (.string x.word)) :
    SeqStopsK F n Tryz.prog 125 #[.pointer (some ⟨Bs, 0, none⟩)] (fun x : Ky => #[.agg #[.string x.attr, .int .i64 x.kind, .int .i64 x.level, .int .i64 x.num, .string x.word]]) (Below n₀) (fun ys => ys = zs) (fun pre => pre <+: zs) zs.length w := fun l J Jx W hW hJ _ hY h0 => by
  refine valP_in F n h56 hro hn l Bs n₀ p c zs hz J Jx W hJ hY (Nat.le_trans hn₀ hW.size) ((hW.cell (p := ⟨Bs, 0, none⟩) hBs).trans hcell) (fun j x hj => ?_) h0
  obtain ⟨b, off, hp, hb, c0, c1, c2, c3, c4⟩ := hc j x hj
  exact ⟨b, off, hp, hb, (hW.cell (p := ⟨b, off + j * 5, none⟩) (by exact Nat.lt_of_lt_of_le hb hn₀)).trans c0, (hW.cell (p := ⟨b, off + j * 5 + 1, none⟩) (by exact Nat.lt_of_lt_of_le hb hn₀)).trans c1, (hW.cell (p := ⟨b, off + j * 5 + 2, none⟩) (by exact Nat.lt_of_lt_of_le hb hn₀)).trans c2, (hW.cell (p := ⟨b, off + j * 5 + 3, none⟩) (by exact Nat.lt_of_lt_of_le hb hn₀)).trans c3, (hW.cell (p := ⟨b, off + j * 5 + 4, none⟩) (by exact Nat.lt_of_lt_of_le hb hn₀)).trans c4⟩

/-- A block of cells abides what a loop turns. -/
theorem block_own {β : Type} (B : Nat) (t : TypeId) (f : β → Array Value) : Own (fun s W => W.heap[B]? = some (.cells (f s) t (0, 0))) := fun s X Y row hs hg hrow =>
  (hg.block B (Array.getElem?_eq_some_iff.1 hs).1 (fun e' => by obtain ⟨o, ho, hc⟩ := hrow B e'.symm; rw [hs] at ho; cases ho; cases hc)).trans hs
theorem cells_of_block {w : World} {b : Nat} {x : Ky} (h : w.heap[b]? = some (.cells #[.string x.attr, .int .i64 x.kind, .int .i64 x.level, .int .i64 x.num, .string x.word] 46 (0, 0))) : w.cell? ⟨b, 0, none⟩ = some (.string x.attr) ∧ w.cell? ⟨b, 1, none⟩ = some (.int .i64 x.kind) ∧ w.cell? ⟨b, 2, none⟩ = some (.int .i64 x.level) ∧ w.cell? ⟨b, 3, none⟩ = some (.int .i64 x.num) ∧ w.cell? ⟨b, 4, none⟩ = some (.string x.word) := by
  unfold World.cell?; simp [h]
theorem news_blk {w : World} {b : Nat} {x : Ky} (h : w.heap[b]? = some (.cells #[.string x.attr, .int .i64 x.kind, .int .i64 x.level, .int .i64 x.num, .string x.word] 46 (0, 0))) : ∀ (j : Nat) (u : Value), [Value.string x.attr, .int .i64 x.kind, .int .i64 x.level, .int .i64 x.num, .string x.word][j]? = some u → w.cell? ((⟨b, 0, none⟩ : Addr).add j) = some u := by
  intro j u hj
  rw [add_plain, Nat.zero_add]
  have hc : w.cell? ⟨b, j, none⟩ = (#[.string x.attr, .int .i64 x.kind, .int .i64 x.level, .int .i64 x.num, .string x.word] : Array Value)[j]? := (by unfold World.cell?; simp [h])
  rw [hc]
  simpa using hj
theorem news_one (w : World) (x : Ky) : ∀ (j : Nat) (u : Value), [Value.string x.attr, .int .i64 x.kind, .int .i64 x.level, .int .i64 x.num, .string x.word][j]? = some u → (w.alloc (.cells #[.string x.attr, .int .i64 x.kind, .int .i64 x.level, .int .i64 x.num, .string x.word] 46)).cell? ((⟨w.heap.size, 0, none⟩ : Addr).add j) = some u := news_blk (World.alloc_heap_new w _)
theorem flat_oneP (x : Ky) : (flatK encK 5 [x].toArray).toList = [.string x.attr, .int .i64 x.kind, .int .i64 x.level, .int .i64 x.num, .string x.word] := by
  apply List.ext_getElem?
  intro j
  by_cases hj : j < 5
  · have := flat_at (enc := encK) (k := 5) (l := [x]) (j := 0) (x := x) rfl j hj
    rw [Nat.zero_mul, Nat.zero_add] at this
    rw [this]
    have hm : j = 0 ∨ j = 1 ∨ j = 2 ∨ j = 3 ∨ j = 4 := by omega
    rcases hm with e | e | e | e | e <;> rw [e] <;> rfl
  · rw [List.getElem?_eq_none (by simp [flatK]; omega), List.getElem?_eq_none (by simp; omega)]
theorem flat_snoc (l : List Ky) (x : Ky) : (flatK encK 5 (l ++ [x]).toArray).toList = (flatK encK 5 l.toArray).toList ++ [.string x.attr, .int .i64 x.kind, .int .i64 x.level, .int .i64 x.num, .string x.word] := by rw [flat_app encK 5 (by decide), flat_oneP]

set_option maxRecDepth 100000 in
set_option maxHeartbeats 2000000 in
theorem appP_in (F : Fence) (n : Nat) (h63 : F.fn 146) (h56 : F.fn 125) (hro : F.round = none) (hn : 3 ≤ n) (Bs : Nat) (p : Option Addr) (c : Nat) (zs : List Ky) (hz : zs.length * 56 ≤ 140737488355328) (w : World) (hBs : Bs < w.heap.size)
    (hcell : w.cell? ⟨Bs, 0, none⟩ = some (.slice p zs.length c)) (hc : SlOf encK 5 w p c zs) :
    CallsIn F n Tryz.prog 146 #[.slice none 0 0, .func (.func 125) #[] #[.pointer (some ⟨Bs, 0, none⟩)]] w fun e w' => (∃ q cap, e = .returned (.slice q zs.length cap) ∧ OwnK encK 46 5 w.heap.size w' q cap zs) ∧ Below w.heap.size w w' := by
  have h1 : 1 ≤ n := by omega
  obtain ⟨i0, hi, hz0, hz1, hz2⟩ := info_parts Tryz.info46
  refine callsIn_of_wp_marks Tryz.func146 rfl h63 ?_ hro
  simp only [Tryz.ntmps146, List.size_toArray, List.length_cons, List.length_nil, Nat.reduceAdd, Nat.reduceSub, Array.replicate_succ, Array.replicate_zero, List.push_toArray, List.append_toArray, List.nil_append, List.cons_append]
  gi_wp2
  have bS := Boxed.new w 30 (.slice none 0 0)
  have hB0 : Below w.heap.size w (w.alloc (.cells #[.slice none 0 0] 30)) := (Below.refl _ w).alloc (Nat.le_refl _) _
  have hsz : (w.alloc (.cells #[.slice none 0 0] 30)).heap.size = w.heap.size + 1 := by simp
  have hcell' := (hB0.cell (p := ⟨Bs, 0, none⟩) hBs).trans hcell
  have hc' : ∀ j x, zs[j]? = some x → ∃ b off, p = some ⟨b, off, none⟩ ∧ b < w.heap.size ∧ (w.alloc (.cells #[.slice none 0 0] 30)).cell? ⟨b, off + j * 5, none⟩ = some (.string x.attr) ∧ (w.alloc (.cells #[.slice none 0 0] 30)).cell? ⟨b, off + j * 5 + 1, none⟩ = some (.int .i64 x.kind) ∧ (w.alloc (.cells #[.slice none 0 0] 30)).cell? ⟨b, off + j * 5 + 2, none⟩ = some (.int .i64 x.level) ∧ (w.alloc (.cells #[.slice none 0 0] 30)).cell? ⟨b, off + j * 5 + 3, none⟩ = some (.int .i64 x.num) ∧ (w.alloc (.cells #[.slice none 0 0] 30)).cell? ⟨b, off + j * 5 + 4, none⟩ = some (.string x.word) := fun j x hj => by
    obtain ⟨b, off, hp, hb, c0, c1, c2, c3, c4⟩ := postAt hc hj
    exact ⟨b, off, hp, hb, (hB0.cell (p := ⟨b, off + j * 5, none⟩) hb).trans c0, (hB0.cell (p := ⟨b, off + j * 5 + 1, none⟩) hb).trans c1, (hB0.cell (p := ⟨b, off + j * 5 + 2, none⟩) hb).trans c2, (hB0.cell (p := ⟨b, off + j * 5 + 3, none⟩) hb).trans c3, (hB0.cell (p := ⟨b, off + j * 5 + 4, none⟩) hb).trans c4⟩
  obtain ⟨W0, hW0⟩ : ∃ W0, w.alloc (.cells #[.slice none 0 0] 30) = W0 := ⟨_, rfl⟩
  rw [hW0] at bS hB0 hsz hcell' hc' ⊢
  clear hW0 hcell hc
  refine wpIn_rangeFunc_ownH hro h1 (gf := 125) (lb := #[.pointer (some ⟨Bs, 0, none⟩)]) rfl h56 (enters_of Tryz.func125 (by kernel_rfl) rfl)
    (valP_stops F (n - 1) h56 hro (by omega) Bs w.heap.size p c zs (by omega) W0 (by omega) (by omega) hcell' hc') belowK_t (belowK_b (by omega)) (Below.refl _ _) (fun _ => rfl)
    (fun pre W => (∃ v, Boxed W w.heap.size 30 v ∧ W.ownsRow w.heap.size 46 5 v pre.length (flatK encK 5 pre.toArray).toList ∧ True) ∧ Below w.heap.size w W)
    (fun _ _ _ => False)
    (OwnFrom.and (Own.from (holdsRow_own w.heap.size w.heap.size 30 46 5 (fun pre : List Ky => pre.length) (fun pre => (flatK encK 5 pre.toArray).toList) (fun _ _ => True)) _) (ownFrom_below (Nat.le_refl _) (by omega)))
    (fun _ _ _ _ _ hs _ _ => hs)
    ⟨⟨_, bS, by simpa [flatK] using World.ownsRow_nil W0 w.heap.size 46 5, trivial⟩, hB0⟩
    (fun x a' W => ∃ Bx, W.heap[Bx]? = some (.cells #[.string x.attr, .int .i64 x.kind, .int .i64 x.level, .int .i64 x.num, .string x.word] 46 (0, 0)) ∧ a' = { tmps := #[.slice none 0 0, .func (.func 125) #[] #[.pointer (some ⟨Bs, 0, none⟩)], .pointer (some ⟨w.heap.size, 0, none⟩), undef, .slice none 0 0, .pointer (some ⟨Bx, 0, none⟩), .func (.func 125) #[] #[.pointer (some ⟨Bs, 0, none⟩)], .agg #[.string x.attr, .int .i64 x.kind, .int .i64 x.level, .int .i64 x.num, .string x.word], undef, undef, undef, undef, undef], defers := [] })
    (fun x a' _ X Y row hs hg hr => by obtain ⟨Bx, h2, h3⟩ := hs; exact ⟨Bx, block_own Bx 46 (fun (_ : Unit) => #[.string x.attr, .int .i64 x.kind, .int .i64 x.level, .int .i64 x.num, .string x.word]) () X Y row h2 hg (fun r e => (hr r e).2), h3⟩)
    ?assign ?body ?done ?stop
  case assign =>
    rintro l pre x W K ⟨⟨v, bv, hrow, _⟩, hB1⟩ hK
    gi_wp2
    exact hK _ _ ((KeepsOthers.alloc _ _).from _) ((Below.refl _ W).alloc hB1.size _) ⟨⟨v, bv.alloc _, hrow.alloc _, trivial⟩, hB1.alloc hB1.size _⟩ ⟨W.heap.size, World.alloc_heap_new W _, rfl⟩
  case body =>
    rintro l pre x a' W hl ⟨r, hr⟩ ⟨⟨v, bv, hrow, _⟩, hB1⟩ ⟨Bx, hBx, rfl⟩ hlt
    have cB := bv.cell
    obtain ⟨c0, c1, c2, c3, c4⟩ := cells_of_block hBx
    obtain ⟨q, cap, rfl, _⟩ := OwnK.shape hrow
    have hsW := hB1.size
    gi_wp2_with (gi_at_builtin; refine wpListIn_append_own _ rfl _ _ 30 rfl w.heap.size 46 i0 (.agg #[.string ⟨#[]⟩, .int .i64 0, .int .i64 0, .int .i64 0, .string ⟨#[]⟩]) 5 56 Tryz.underlying30 hi hz0 hz1 hz2 rfl (by decide) _ _ _ rfl (hrow.alloc _) ⟨W.heap.size, 0, none⟩ 1 1 [.string x.attr, .int .i64 x.kind, .int .i64 x.level, .int .i64 x.num, .string x.word] rfl rfl (news_one _ _) (by simp [Value.oneCell']) (by unfold maxLen; omega) (by omega) (by simp; omega) ?_; intro v' w1 hown' hgrow _; obtain ⟨g', cap', rfl⟩ := ownsRow_succ hown'; obtain ⟨hv1, hv2, hr2, hk2, hb2⟩ := bv.appended (by decide) hrow hB1.size (Nat.le_refl _) hown' hgrow; have hc1 := hv1.cell; have hf1 := hv1.frozen)
    exact ⟨hk2.from _, hb2, ⟨_, hv2, (by rw [flat_snoc, List.length_append]; exact hr2), trivial⟩, hB1.trans hb2⟩
  case done =>
    rintro D ys W hD rfl ⟨⟨v, bv, hrow, _⟩, hB1⟩ hK
    have cB := bv.cell
    obtain ⟨q, cap, rfl, _⟩ := OwnK.shape hrow
    gi_wp2
    refine ⟨by simp, .inl ⟨_, _, rfl, run_takeDeferred hK, ?_⟩⟩
    exact ⟨_, results_tmp rfl _ _ _, ⟨q, cap, rfl, ownsRow_putObj hrow _ hK rfl⟩, hB1.trans (belowK_b (w := w) (Nat.le_refl _) W D _ _ (by omega) hK rfl rfl)⟩
  case stop =>
    rintro D c pre W _ _ h _
    exact h.elim

/-- No fence. -/
def Fr : Fence := { fn := fun _ => True }
theorem appP (Bs : Nat) (p : Option Addr) (c : Nat) (zs : List Ky) (hz : zs.length * 56 ≤ 140737488355328) (w : World) (hBs : Bs < w.heap.size) (hcell : w.cell? ⟨Bs, 0, none⟩ = some (.slice p zs.length c)) (hc : SlOf encK 5 w p c zs) :
    Calls Tryz.prog 146 #[.slice none 0 0, .func (.func 125) #[] #[.pointer (some ⟨Bs, 0, none⟩)]] w fun e w' => (∃ q cap, e = .returned (.slice q zs.length cap) ∧ OwnK encK 46 5 w.heap.size w' q cap zs) ∧ Below w.heap.size w w' :=
  (appP_in Fr 5 trivial trivial rfl (by decide) Bs p c zs hz w hBs hcell hc).calls fun _ _ h => by cases h
end Go.Proofs.YtedakipjfpdajaaGreatDoor
namespace Go.Proofs
open Go.Shelf
def Tryz.cmpStr_ren : Go.Shelf.Ren := ⟨fun | 106 => 54 | 213 => 94 | 265 => 130 | n => n, fun | 9 => 9 | 3 => 3 | n => n, fun | n => n⟩
theorem Tryz.cmpStr : Go.Proofs.Lays.n106 Tryz.prog Tryz.cmpStr_ren := {
  mixed := by kernel_rfl
  f106 := Tryz.func54.trans (congrArg some (by kernel_rfl))
  f213 := Tryz.func94.trans (congrArg some (by kernel_rfl))
  f265 := Tryz.func130.trans (congrArg some (by kernel_rfl))
  t3 := Tryz.underlying3
  a3 := Tryz.isAgg3
  z3 := Tryz.sizeOf3
  v3 := Tryz.zeroValue3
  t9 := Tryz.underlying9
  a9 := Tryz.isAgg9
  z9 := Tryz.sizeOf9
  v9 := Tryz.zeroValue9 }
end Go.Proofs
namespace Go.Proofs.YtedakipjfpdajaaGreatDoor
open Go.RowKit Go.Sort Go.Shelf

theorem nan_any (a : Int) (w : World) : Calls Tryz.prog 95 #[.int .i64 a] w fun e w' => e = .returned (.bool false) ∧ w' = w := by
  have h : (a != a) = false := by simp
  go_enter Tryz.func95, Tryz.ntmps95
  go_wp2
  go_ret
  exact ⟨rfl, rfl⟩
theorem cmpI_lt {a b : Int} (h : a < b) : cmpI a b = -1 := by unfold cmpI; rw [if_pos h]
theorem cmpI_gt {a b : Int} (h : b < a) : cmpI a b = 1 := by unfold cmpI; rw [if_neg (by omega), if_pos h]
theorem cmpI_eq {a b : Int} (h1 : ¬ a < b) (h2 : ¬ b < a) : cmpI a b = 0 := by unfold cmpI; rw [if_neg h1, if_neg h2]
theorem compareI (a b : Int) (w : World) : Calls Tryz.prog 55 #[.int .i64 a, .int .i64 b] w fun e w' => e = .returned (.int .i64 (cmpI a b)) ∧ w' = w := by
  by_cases h1 : a < b
  · go_enter Tryz.func55, Tryz.ntmps55
    go_wp2_with (go_at_call 95; refine (nan_any _ _).mono ?_; rintro e w1 ⟨rfl, rfl⟩)
    go_ret
    exact ⟨ret_int (cmpI_lt h1).symm, rfl⟩
  · by_cases h2 : b < a
    · go_enter Tryz.func55, Tryz.ntmps55
      go_wp2_with (go_at_call 95; refine (nan_any _ _).mono ?_; rintro e w1 ⟨rfl, rfl⟩)
      go_ret
      exact ⟨ret_int (cmpI_gt h2).symm, rfl⟩
    · go_enter Tryz.func55, Tryz.ntmps55
      go_wp2_with (go_at_call 95; refine (nan_any _ _).mono ?_; rintro e w1 ⟨rfl, rfl⟩)
      go_ret
      exact ⟨ret_int (cmpI_eq (by omega) (by omega)).symm, rfl⟩

theorem bytes_cmp : ∀ a b : List UInt8, Lib.compareBytes a b = cmpS a b
  | [], [] => by simp [Lib.compareBytes, cmpS, Op.bytesLess]
  | [], _ :: _ => by simp [Lib.compareBytes, cmpS, Op.bytesLess]
  | _ :: _, [] => by simp [Lib.compareBytes, cmpS, Op.bytesLess]
  | x :: a, y :: b => by
    have ih := bytes_cmp a b
    unfold Lib.compareBytes
    by_cases h1 : x < y
    · rw [if_pos h1, cmpS_lt (by simp [Op.bytesLess, h1])]
    · rw [if_neg h1]
      by_cases h2 : y < x
      · have hne : x ≠ y := fun e => by subst e; exact h1 h2
        rw [if_pos h2]
        unfold cmpS
        rw [if_neg (by simp [Op.bytesLess, h1, hne]), if_neg (by simp [hne])]
      · rw [if_neg h2, ih]
        obtain rfl : x = y := UInt8.toNat_inj.1 (by rw [UInt8.lt_iff_toNat_lt] at h1 h2; omega)
        unfold cmpS
        simp [Op.bytesLess, h1]
theorem strCmp (a b : ByteArray) (w : World) : Calls Tryz.prog 54 #[.string a, .string b] w fun e w' => e = .returned (.int .i64 (cmpS a.data.toList b.data.toList)) ∧ w' = w := by
  have h := Any.strings_Compare Tryz.cmpStr a b w
  change Calls Tryz.prog 54 _ _ _ at h
  rw [bytes_cmp] at h
  exact h
/-- The first that is not nought. -/
def fst0 : List Int → Int
  | [] => 0
  | x :: l => if x = 0 then fst0 l else x
theorem fst0_drop {l : List Int} {k : Nat} {x : Int} (hx : l[k]? = some x) : fst0 (l.drop k) = if x = 0 then fst0 (l.drop (k + 1)) else x := by
  obtain ⟨hk, rfl⟩ := List.getElem?_eq_some_iff.1 hx
  rw [List.drop_eq_getElem_cons hk]; rfl
set_option maxHeartbeats 1000000 in
set_option maxRecDepth 100000 in
theorem orI (q : Option Addr) (c : Nat) (l : List Int) (w : World) (hs : SlOf encI 1 w q c l) (hl : l.length ≤ 1000000) : Calls Tryz.prog 53 #[.slice q l.length c] w fun e w' => e = .returned (.int .i64 (fst0 l)) ∧ w' = w := by
  have l1 : (l.length : Int) ≤ 1000000 := by omega
  have HS := hide hs
  clear hs
  go_enter Tryz.func53, Tryz.ntmps53
  go_wp2
  go_loopw [8] (fun i wr => ∃ k : Nat, k ≤ l.length ∧ i = .int .i64 k ∧ fst0 (l.drop k) = fst0 l ∧ wr = w) (fun i _ => l.length - (intOf i).toNat)
  case atStart => exact ⟨0, by omega, rfl, rfl, rfl⟩
  case round =>
    obtain ⟨k, hk, rfl, hf, rfl⟩ := hrel
    have HF := hide hf
    by_cases hlt : k < l.length
    · obtain ⟨x, hx, hxd⟩ := get_at hlt
      obtain ⟨b, off, hq, hbs, hc⟩ := (unhide HS).2.2.2.at hx
      have g0 := hc 0 (by omega)
      rw [Nat.mul_one, Nat.add_zero] at g0
      subst hq
      have ki0 : (0 : Int) ≤ (k : Int) := by omega
      have ki1 : (k : Int) < (l.length : Int) := by omega
      have HD := hide (fst0_drop hx)
      have g0' : wr.cell? ⟨b, off + k, none⟩ = some (.int .i64 x) := g0
      clear hx hxd hc hf g0
      by_cases h0 : x = 0
      · subst h0
        go_wp2
        go_roundw
        case rel => exact ⟨k + 1, by omega, by go_num, by rw [← unhide HF, unhide HD, if_pos rfl], by first | rfl | trivial⟩
        case measure => simp [intOf]; omega
      · have h1 : (x != 0) = true := by simpa using h0
        go_wp2
        go_ret
        exact ⟨ret_int (by rw [← unhide HF, unhide HD, if_neg h0]), rfl⟩
    · have ki1 : ¬ (k : Int) < (l.length : Int) := by omega
      have HZ := hide (show fst0 l = 0 by rw [← hf, List.drop_eq_nil_of_le (by omega)]; rfl)
      clear hf
      go_wp2
      go_ret
      exact ⟨ret_int (unhide HZ).symm, rfl⟩
theorem flatI_map (l : List Int) : (flatK encI 1 l.toArray).toList = l.map (fun x => Value.int .i64 x) := by
  apply List.ext_getElem?
  intro j
  by_cases hj : j < l.length
  · obtain ⟨x, hx, _⟩ := get_at hj
    have := flat_at (enc := encI) (k := 1) hx 0 (by omega)
    rw [Nat.mul_one, Nat.add_zero] at this
    rw [this, List.getElem?_map, hx]; rfl
  · rw [List.getElem?_eq_none (by simp; omega), List.getElem?_eq_none (by simp; omega)]
theorem ints_at {W : World} {M : Nat} {cs : Array Value} (h : W.heap[M]? = some (.cells cs 3 (0, 0))) (j : Nat) : W.cell? ⟨M, j, none⟩ = cs[j]? := by
  unfold World.cell?; simp [h]
theorem orI5 (a b c d e : Int) (w : World) : Calls Tryz.prog 53 #[.slice (some ⟨w.heap.size, 0, none⟩) 5 5] (w.alloc (.cells #[.int .i64 a, .int .i64 b, .int .i64 c, .int .i64 d, .int .i64 e] 3)) fun r w' => r = .returned (.int .i64 (fst0 [a, b, c, d, e])) ∧ w' = w.alloc (.cells #[.int .i64 a, .int .i64 b, .int .i64 c, .int .i64 d, .int .i64 e] 3) := by
  refine orI (some ⟨w.heap.size, 0, none⟩) 5 [a, b, c, d, e] _ ⟨(fun h => by cases h), Nat.le_refl _, by unfold maxLen; decide, fun _ => ⟨w.heap.size, 0, rfl, by simp, fun j u hj => ?_⟩⟩ (by simp)
  rw [Nat.zero_add, ints_at (World.alloc_heap_new w (.cells #[.int .i64 a, .int .i64 b, .int .i64 c, .int .i64 d, .int .i64 e] 3)) j]
  rw [flatI_map] at hj
  simpa using hj
theorem orIw (a b c d e : Int) (W : World) (M : Nat) (h : W.heap[M]? = some (.cells #[.int .i64 a, .int .i64 b, .int .i64 c, .int .i64 d, .int .i64 e] 3 (0, 0))) : Calls Tryz.prog 53 #[.slice (some ⟨M, 0, none⟩) 5 5] W fun r w' => r = .returned (.int .i64 (fst0 [a, b, c, d, e])) ∧ w' = W := by
  refine orI (some ⟨M, 0, none⟩) 5 [a, b, c, d, e] _ ⟨(fun h => by cases h), Nat.le_refl _, by unfold maxLen; decide, fun _ => ⟨M, 0, rfl, (Array.getElem?_eq_some_iff.1 h).1, fun j u hj => ?_⟩⟩ (by simp)
  rw [Nat.zero_add, ints_at h j]
  rw [flatI_map] at hj
  simpa using hj
theorem first5 (a b c d e : Int) : fst0 [a, b, c, d, e] = if a = 0 then (if b = 0 then (if c = 0 then (if d = 0 then e else d) else c) else b) else a := by
  simp only [fst0]
  by_cases h : e = 0
  · rw [if_pos h, h]
  · rw [if_neg h]
end Go.Proofs.YtedakipjfpdajaaGreatDoor

/- slices.Values and slices.Collect over keys. -/
import Derived.Test.YtedakipjfpdajaaGreatDoorZaa
namespace Go.Proofs.YtedakipjfpdajaaGreatDoor
open Go.RowKit Go.Sort Go.Shelf

theorem valuesP (q : Option Addr) (n c : Nat) (w : World) :
    Calls Tryz.prog 83 #[.slice q n c] w fun e w' => e = .returned (.func (.func 125) #[] #[.pointer (some ⟨w.heap.size, 0, none⟩)]) ∧ w' = w.alloc (.cells #[.slice q n c] 30) := by
  go_enter Tryz.func83, Tryz.ntmps83
  go_wp2
  go_ret
  exact ⟨rfl, rfl⟩
theorem collectP (Bs : Nat) (p : Option Addr) (c : Nat) (zs : List Ky) (hz : zs.length * 56 ≤ 140737488355328) (w : World) (hBs : Bs < w.heap.size) (hcell : w.cell? ⟨Bs, 0, none⟩ = some (.slice p zs.length c)) (hc : SlOf encK 5 w p c zs) :
    Calls Tryz.prog 124 #[.func (.func 125) #[] #[.pointer (some ⟨Bs, 0, none⟩)]] w fun e w' => (∃ q cap, e = .returned (.slice q zs.length cap) ∧ OwnK encK 46 5 w.heap.size w' q cap zs) ∧ Below w.heap.size w w' := by
  have h := appP Bs p c zs hz w hBs hcell hc
  clear hcell hc
  go_enter Tryz.func124, Tryz.ntmps124
  go_wp2_with (go_at_call 146; refine h.mono ?_; rintro e w1 ⟨⟨q, cap, rfl, ho⟩, hb⟩)
  go_ret
  exact ⟨⟨q, cap, rfl, ho⟩, hb⟩
end Go.Proofs.YtedakipjfpdajaaGreatDoor
namespace Go.Proofs.YtedakipjfpdajaaGreatDoor
open Go.RowKit Go.Sort Go.Shelf

/-- A pair: name, kind, number, word. -/
structure Pr where
  name : ByteArray
  kind : Int
  num : Int
  word : ByteArray
instance : Inhabited Pr := ⟨⟨⟨#[]⟩, 0, 0, ⟨#[]⟩⟩⟩
def encR (x : Pr) : List Value := [.string x.name, .int .i64 x.kind, .int .i64 x.num, .string x.word]
theorem Tryz.info42 : (Tryz.prog.info? 42).map (fun i => (i.zero, i.size, i.bytes)) = some (some (.agg #[.string ⟨#[]⟩, .int .i64 0, .int .i64 0, .string ⟨#[]⟩]), 4, 48) := by kernel_rfl
theorem cells4 {w : World} {b off j : Nat} {v : Pr} (h : ∀ c, c < 4 → w.cell? ⟨b, off + j * 4 + c, none⟩ = some ((encR v)[c]!)) :
    w.cell? ⟨b, off + j * 4, none⟩ = some (.string v.name) ∧ w.cell? ⟨b, off + j * 4 + 1, none⟩ = some (.int .i64 v.kind) ∧ w.cell? ⟨b, off + j * 4 + 2, none⟩ = some (.int .i64 v.num) ∧ w.cell? ⟨b, off + j * 4 + 3, none⟩ = some (.string v.word) :=
  ⟨h 0 (by omega), h 1 (by omega), h 2 (by omega), h 3 (by omega)⟩
attribute [local go_sem] Oper.semAt_some

theorem pairAt {w : World} {q : Option Addr} {c : Nat} {l : List Pr} {j : Nat} {x : Pr} (h : SlOf encR 4 w q c l) (hj : l[j]? = some x) : ∃ b off, q = some ⟨b, off, none⟩ ∧ b < w.heap.size ∧ w.cell? ⟨b, off + j * 4, none⟩ = some (.string x.name) ∧ w.cell? ⟨b, off + j * 4 + 1, none⟩ = some (.int .i64 x.kind) ∧ w.cell? ⟨b, off + j * 4 + 2, none⟩ = some (.int .i64 x.num) ∧ w.cell? ⟨b, off + j * 4 + 3, none⟩ = some (.string x.word) := by
  obtain ⟨b, off, hq, hb, hc⟩ := h.2.2.2.at hj
  exact ⟨b, off, hq, hb, cells4 hc⟩
def vR (x : Pr) : Value := .agg #[.string x.name, .int .i64 x.kind, .int .i64 x.num, .string x.word]

set_option maxRecDepth 100000 in
set_option maxHeartbeats 2000000 in
/-- The iterator over a list of posts. -/
theorem valR_in (F : Fence) (n : Nat) (h56 : F.fn 116) (hro : F.round = none) (hn : 1 ≤ n) (l Bs n₀ : Nat) (p : Option Addr) (c : Nat) (zs : List Pr) (hz : zs.length ≤ 100000000000000) (J Jx : List Pr → World → Prop)
    (W : World) (hJ : AbidesFrom W.heap.size J)
    (hY : ∀ pre x W, J pre W → pre.length < zs.length → YieldAt F (n - 1) Tryz.prog l #[.agg #[.string x.name, .int .i64 x.kind, .int .i64 x.num, .string x.word]] W fun e W' =>
      (e = .returned (.bool true) ∧ J (pre ++ [x]) W' ∧ Below n₀ W W') ∨ (e = .returned (.bool false) ∧ Jx (pre ++ [x]) W'))
    (hn₀ : n₀ ≤ W.heap.size) (hBs : W.cell? ⟨Bs, 0, none⟩ = some (.slice p zs.length c)) (hc : ∀ j x, zs[j]? = some x → ∃ b off, p = some ⟨b, off, none⟩ ∧ b < n₀ ∧ W.cell? ⟨b, off + j * 4, none⟩ = some (.string x.name) ∧ W.cell? ⟨b, off + j * 4 + 1, none⟩ = some (.int .i64 x.kind) ∧ W.cell? ⟨b, off + j * 4 + 2, none⟩ = some (.int .i64 x.num) ∧ W.cell? ⟨b, off + j * 4 + 3, none⟩ = some (.string x.word)) (h0 : J [] W) :
    CallsIn F n Tryz.prog 116 #[.func (.yield l) #[] #[], .pointer (some ⟨Bs, 0, none⟩)] W fun e W' => (∃ v, e = .returned v) ∧
      ((∃ ys, ys = zs ∧ J ys W') ∨ (∃ pre, pre <+: zs ∧ Jx pre W')) := by
  have hz0 : (zs.length : Int) ≤ 100000000000000 := by omega
  refine callsIn_of_wp Tryz.func116 rfl h56 ?_ hro
  simp only [Tryz.ntmps116, List.size_toArray, List.length_cons, List.length_nil, Nat.reduceAdd, Nat.reduceSub, Array.replicate_succ, Array.replicate_zero, List.push_toArray, List.append_toArray, List.nil_append, List.cons_append]
  gi_wp2
  gi_loopw [7] (fun i wr => ∃ k : Nat, k ≤ zs.length ∧ i = .int .i64 k ∧ J (zs.take k) wr ∧ Below n₀ W wr)
    (fun i _ => zs.length - (intOf i).toNat)
  case atStart => exact ⟨0, Nat.zero_le _, rfl, h0, Below.refl _ _⟩
  case round =>
    obtain ⟨k, hk, rfl, hJs, hnx⟩ := hrel
    by_cases hlt : k < zs.length
    · obtain ⟨x, hx, _⟩ := get_at hlt
      obtain ⟨b, off, hp, hb, c0, c1, c2, c3⟩ := hc k x hx
      have d0 := (hnx.cell (p := ⟨b, off + k * 4, none⟩) hb).trans c0
      have d1 := (hnx.cell (p := ⟨b, off + k * 4 + 1, none⟩) hb).trans c1
      have d2 := (hnx.cell (p := ⟨b, off + k * 4 + 2, none⟩) hb).trans c2
      have d3 := (hnx.cell (p := ⟨b, off + k * 4 + 3, none⟩) hb).trans c3
      have hJ1 : J (zs.take k) (wr.alloc (.cells #[.string x.name, .int .i64 x.kind, .int .i64 x.num, .string x.word] 42)) := hJ _ _ _ none hJs (World.grownBy_alloc wr _ none) (fun r e => by cases e)
      obtain ⟨fn, tmps, assign, body, hy, hR⟩ := hY _ x _ hJ1 (by rw [List.length_take]; omega)
      have hn1 := hide hnx
      have hsn := hnx.size
      have ki0 : (0 : Int) ≤ (k : Int) := by omega
      have ki1 : (k : Int) < (zs.length : Int) := by omega
      have HX := hide (take_snoc_of hx)
      subst hp
      clear c0 c1 c2 c3 hc hx hnx
      gi_wp2
      refine hR.mono ?_
      rintro e W3 (⟨rfl, hJ3, hk3⟩ | ⟨rfl, hJx3⟩)
      · gi_wp2
        go_roundw
        case rel => exact ⟨k + 1, by omega, by go_num, by rw [unhide HX]; exact hJ3, (unhide hn1).trans (((Below.refl n₀ wr).alloc (by omega) _).trans hk3)⟩
        case measure => simp [intOf]; omega
      · gi_wp2
        refine bodyPost_ret (results_none rfl _ _ _) rfl ?_
        exact ⟨⟨_, rfl⟩, .inr ⟨_, by rw [← unhide HX]; exact List.take_prefix _ _, hJx3⟩⟩
    · obtain rfl : k = zs.length := by omega
      have ki1 : ¬ (zs.length : Int) < (zs.length : Int) := by omega
      gi_wp2
      go_end0
      exact ⟨⟨_, rfl⟩, .inl (by rw [List.take_length] at hJs; exact hJs)⟩
theorem valR_stops (F : Fence) (n : Nat) (h56 : F.fn 116) (hro : F.round = none) (hn : 1 ≤ n) (Bs n₀ : Nat) (p : Option Addr) (c : Nat) (zs : List Pr) (hz : zs.length ≤ 100000000000000) (w : World) (hBs : Bs < w.heap.size) (hn₀ : n₀ ≤ w.heap.size)
    (hcell : w.cell? ⟨Bs, 0, none⟩ = some (.slice p zs.length c)) (hc : ∀ j x, zs[j]? = some x → ∃ b off, p = some ⟨b, off, none⟩ ∧ b < n₀ ∧ w.cell? ⟨b, off + j * 4, none⟩ = some (.string x.name) ∧ w.cell? ⟨b, off + j * 4 + 1, none⟩ = some (.int .i64 x.kind) ∧ w.cell? ⟨b, off + j * 4 + 2, none⟩ = some (.int .i64 x.num) ∧ w.cell? ⟨b, off + j * 4 + 3, none⟩ = some (.string x.word)) :
    SeqStopsK F n Tryz.prog 116 #[.pointer (some ⟨Bs, 0, none⟩)] (fun x : Pr => #[.agg #[.string x.name, .int .i64 x.kind, .int .i64 x.num, .string x.word]]) (Below n₀) (fun ys => ys = zs) (fun pre => pre <+: zs) zs.length w := fun l J Jx W hW hJ _ hY h0 => by
  refine valR_in F n h56 hro hn l Bs n₀ p c zs hz J Jx W hJ hY (Nat.le_trans hn₀ hW.size) ((hW.cell (p := ⟨Bs, 0, none⟩) hBs).trans hcell) (fun j x hj => ?_) h0
  obtain ⟨b, off, hp, hb, c0, c1, c2, c3⟩ := hc j x hj
  exact ⟨b, off, hp, hb, (hW.cell (p := ⟨b, off + j * 4, none⟩) (by exact Nat.lt_of_lt_of_le hb hn₀)).trans c0, (hW.cell (p := ⟨b, off + j * 4 + 1, none⟩) (by exact Nat.lt_of_lt_of_le hb hn₀)).trans c1, (hW.cell (p := ⟨b, off + j * 4 + 2, none⟩) (by exact Nat.lt_of_lt_of_le hb hn₀)).trans c2, (hW.cell (p := ⟨b, off + j * 4 + 3, none⟩) (by exact Nat.lt_of_lt_of_le hb hn₀)).trans c3⟩

theorem cells_of_pair {w : World} {b : Nat} {x : Pr} (h : w.heap[b]? = some (.cells #[.string x.name, .int .i64 x.kind, .int .i64 x.num, .string x.word] 42 (0, 0))) : w.cell? ⟨b, 0, none⟩ = some (.string x.name) ∧ w.cell? ⟨b, 1, none⟩ = some (.int .i64 x.kind) ∧ w.cell? ⟨b, 2, none⟩ = some (.int .i64 x.num) ∧ w.cell? ⟨b, 3, none⟩ = some (.string x.word) := by
  unfold World.cell?; simp [h]
theorem news_pair {w : World} {b : Nat} {x : Pr} (h : w.heap[b]? = some (.cells #[.string x.name, .int .i64 x.kind, .int .i64 x.num, .string x.word] 42 (0, 0))) : ∀ (j : Nat) (u : Value), [Value.string x.name, .int .i64 x.kind, .int .i64 x.num, .string x.word][j]? = some u → w.cell? ((⟨b, 0, none⟩ : Addr).add j) = some u := by
  intro j u hj
  rw [add_plain, Nat.zero_add]
  have hc : w.cell? ⟨b, j, none⟩ = (#[.string x.name, .int .i64 x.kind, .int .i64 x.num, .string x.word] : Array Value)[j]? := (by unfold World.cell?; simp [h])
  rw [hc]
  simpa using hj
theorem news_oneR (w : World) (x : Pr) : ∀ (j : Nat) (u : Value), [Value.string x.name, .int .i64 x.kind, .int .i64 x.num, .string x.word][j]? = some u → (w.alloc (.cells #[.string x.name, .int .i64 x.kind, .int .i64 x.num, .string x.word] 42)).cell? ((⟨w.heap.size, 0, none⟩ : Addr).add j) = some u := news_pair (World.alloc_heap_new w _)
theorem flat_oneR (x : Pr) : (flatK encR 4 [x].toArray).toList = [.string x.name, .int .i64 x.kind, .int .i64 x.num, .string x.word] := by
  apply List.ext_getElem?
  intro j
  by_cases hj : j < 4
  · have := flat_at (enc := encR) (k := 4) (l := [x]) (j := 0) (x := x) rfl j hj
    rw [Nat.zero_mul, Nat.zero_add] at this
    rw [this]
    have hm : j = 0 ∨ j = 1 ∨ j = 2 ∨ j = 3 := by omega
    rcases hm with e | e | e | e <;> rw [e] <;> rfl
  · rw [List.getElem?_eq_none (by simp [flatK]; omega), List.getElem?_eq_none (by simp; omega)]
theorem flat_snocR (l : List Pr) (x : Pr) : (flatK encR 4 (l ++ [x]).toArray).toList = (flatK encR 4 l.toArray).toList ++ [.string x.name, .int .i64 x.kind, .int .i64 x.num, .string x.word] := by rw [flat_app encR 4 (by decide), flat_oneR]

set_option maxRecDepth 100000 in
set_option maxHeartbeats 2000000 in
theorem appR_in (F : Fence) (n : Nat) (h63 : F.fn 144) (h56 : F.fn 116) (hro : F.round = none) (hn : 3 ≤ n) (Bs : Nat) (p : Option Addr) (c : Nat) (zs : List Pr) (hz : zs.length * 48 ≤ 140737488355328) (w : World) (hBs : Bs < w.heap.size)
    (hcell : w.cell? ⟨Bs, 0, none⟩ = some (.slice p zs.length c)) (hc : SlOf encR 4 w p c zs) :
    CallsIn F n Tryz.prog 144 #[.slice none 0 0, .func (.func 116) #[] #[.pointer (some ⟨Bs, 0, none⟩)]] w fun e w' => (∃ q cap, e = .returned (.slice q zs.length cap) ∧ OwnK encR 42 4 w.heap.size w' q cap zs) ∧ Below w.heap.size w w' := by
  have h1 : 1 ≤ n := by omega
  obtain ⟨i0, hi, hz0, hz1, hz2⟩ := info_parts Tryz.info42
  refine callsIn_of_wp_marks Tryz.func144 rfl h63 ?_ hro
  simp only [Tryz.ntmps144, List.size_toArray, List.length_cons, List.length_nil, Nat.reduceAdd, Nat.reduceSub, Array.replicate_succ, Array.replicate_zero, List.push_toArray, List.append_toArray, List.nil_append, List.cons_append]
  gi_wp2
  have bS := Boxed.new w 26 (.slice none 0 0)
  have hB0 : Below w.heap.size w (w.alloc (.cells #[.slice none 0 0] 26)) := (Below.refl _ w).alloc (Nat.le_refl _) _
  have hsz : (w.alloc (.cells #[.slice none 0 0] 26)).heap.size = w.heap.size + 1 := by simp
  have hcell' := (hB0.cell (p := ⟨Bs, 0, none⟩) hBs).trans hcell
  have hc' : ∀ j x, zs[j]? = some x → ∃ b off, p = some ⟨b, off, none⟩ ∧ b < w.heap.size ∧ (w.alloc (.cells #[.slice none 0 0] 26)).cell? ⟨b, off + j * 4, none⟩ = some (.string x.name) ∧ (w.alloc (.cells #[.slice none 0 0] 26)).cell? ⟨b, off + j * 4 + 1, none⟩ = some (.int .i64 x.kind) ∧ (w.alloc (.cells #[.slice none 0 0] 26)).cell? ⟨b, off + j * 4 + 2, none⟩ = some (.int .i64 x.num) ∧ (w.alloc (.cells #[.slice none 0 0] 26)).cell? ⟨b, off + j * 4 + 3, none⟩ = some (.string x.word) := fun j x hj => by
    obtain ⟨b, off, hp, hb, c0, c1, c2, c3⟩ := pairAt hc hj
    exact ⟨b, off, hp, hb, (hB0.cell (p := ⟨b, off + j * 4, none⟩) hb).trans c0, (hB0.cell (p := ⟨b, off + j * 4 + 1, none⟩) hb).trans c1, (hB0.cell (p := ⟨b, off + j * 4 + 2, none⟩) hb).trans c2, (hB0.cell (p := ⟨b, off + j * 4 + 3, none⟩) hb).trans c3⟩
  obtain ⟨W0, hW0⟩ : ∃ W0, w.alloc (.cells #[.slice none 0 0] 26) = W0 := ⟨_, rfl⟩
  rw [hW0] at bS hB0 hsz hcell' hc' ⊢
  clear hW0 hcell hc
  refine wpIn_rangeFunc_ownH hro h1 (gf := 116) (lb := #[.pointer (some ⟨Bs, 0, none⟩)]) rfl h56 (enters_of Tryz.func116 (by kernel_rfl) rfl)
    (valR_stops F (n - 1) h56 hro (by omega) Bs w.heap.size p c zs (by omega) W0 (by omega) (by omega) hcell' hc') belowK_t (belowK_b (by omega)) (Below.refl _ _) (fun _ => rfl)
    (fun pre W => (∃ v, Boxed W w.heap.size 26 v ∧ W.ownsRow w.heap.size 42 4 v pre.length (flatK encR 4 pre.toArray).toList ∧ True) ∧ Below w.heap.size w W)
    (fun _ _ _ => False)
    (OwnFrom.and (Own.from (holdsRow_own w.heap.size w.heap.size 26 42 4 (fun pre : List Pr => pre.length) (fun pre => (flatK encR 4 pre.toArray).toList) (fun _ _ => True)) _) (ownFrom_below (Nat.le_refl _) (by omega)))
    (fun _ _ _ _ _ hs _ _ => hs)
    ⟨⟨_, bS, by simpa [flatK] using World.ownsRow_nil W0 w.heap.size 42 4, trivial⟩, hB0⟩
    (fun x a' W => ∃ Bx, W.heap[Bx]? = some (.cells #[.string x.name, .int .i64 x.kind, .int .i64 x.num, .string x.word] 42 (0, 0)) ∧ a' = { tmps := #[.slice none 0 0, .func (.func 116) #[] #[.pointer (some ⟨Bs, 0, none⟩)], .pointer (some ⟨w.heap.size, 0, none⟩), undef, .slice none 0 0, .pointer (some ⟨Bx, 0, none⟩), .func (.func 116) #[] #[.pointer (some ⟨Bs, 0, none⟩)], .agg #[.string x.name, .int .i64 x.kind, .int .i64 x.num, .string x.word], undef, undef, undef, undef, undef], defers := [] })
    (fun x a' _ X Y row hs hg hr => by obtain ⟨Bx, h2, h3⟩ := hs; exact ⟨Bx, block_own Bx 42 (fun (_ : Unit) => #[.string x.name, .int .i64 x.kind, .int .i64 x.num, .string x.word]) () X Y row h2 hg (fun r e => (hr r e).2), h3⟩)
    ?assign ?body ?done ?stop
  case assign =>
    rintro l pre x W K ⟨⟨v, bv, hrow, _⟩, hB1⟩ hK
    gi_wp2
    exact hK _ _ ((KeepsOthers.alloc _ _).from _) ((Below.refl _ W).alloc hB1.size _) ⟨⟨v, bv.alloc _, hrow.alloc _, trivial⟩, hB1.alloc hB1.size _⟩ ⟨W.heap.size, World.alloc_heap_new W _, rfl⟩
  case body =>
    rintro l pre x a' W hl ⟨r, hr⟩ ⟨⟨v, bv, hrow, _⟩, hB1⟩ ⟨Bx, hBx, rfl⟩ hlt
    have cB := bv.cell
    obtain ⟨c0, c1, c2, c3⟩ := cells_of_pair hBx
    obtain ⟨q, cap, rfl, _⟩ := OwnK.shape hrow
    have hsW := hB1.size
    gi_wp2_with (gi_at_builtin; refine wpListIn_append_own _ rfl _ _ 26 rfl w.heap.size 42 i0 (.agg #[.string ⟨#[]⟩, .int .i64 0, .int .i64 0, .string ⟨#[]⟩]) 4 48 Tryz.underlying26 hi hz0 hz1 hz2 rfl (by decide) _ _ _ rfl (hrow.alloc _) ⟨W.heap.size, 0, none⟩ 1 1 [.string x.name, .int .i64 x.kind, .int .i64 x.num, .string x.word] rfl rfl (news_oneR _ _) (by simp [Value.oneCell']) (by unfold maxLen; omega) (by omega) (by simp; omega) ?_; intro v' w1 hown' hgrow _; obtain ⟨g', cap', rfl⟩ := ownsRow_succ hown'; obtain ⟨hv1, hv2, hr2, hk2, hb2⟩ := bv.appended (by decide) hrow hB1.size (Nat.le_refl _) hown' hgrow; have hc1 := hv1.cell; have hf1 := hv1.frozen)
    exact ⟨hk2.from _, hb2, ⟨_, hv2, (by rw [flat_snocR, List.length_append]; exact hr2), trivial⟩, hB1.trans hb2⟩
  case done =>
    rintro D ys W hD rfl ⟨⟨v, bv, hrow, _⟩, hB1⟩ hK
    have cB := bv.cell
    obtain ⟨q, cap, rfl, _⟩ := OwnK.shape hrow
    gi_wp2
    refine ⟨by simp, .inl ⟨_, _, rfl, run_takeDeferred hK, ?_⟩⟩
    exact ⟨_, results_tmp rfl _ _ _, ⟨q, cap, rfl, ownsRow_putObj hrow _ hK rfl⟩, hB1.trans (belowK_b (w := w) (Nat.le_refl _) W D _ _ (by omega) hK rfl rfl)⟩
  case stop =>
    rintro D c pre W _ _ h _
    exact h.elim

theorem appR (Bs : Nat) (p : Option Addr) (c : Nat) (zs : List Pr) (hz : zs.length * 48 ≤ 140737488355328) (w : World) (hBs : Bs < w.heap.size) (hcell : w.cell? ⟨Bs, 0, none⟩ = some (.slice p zs.length c)) (hc : SlOf encR 4 w p c zs) :
    Calls Tryz.prog 144 #[.slice none 0 0, .func (.func 116) #[] #[.pointer (some ⟨Bs, 0, none⟩)]] w fun e w' => (∃ q cap, e = .returned (.slice q zs.length cap) ∧ OwnK encR 42 4 w.heap.size w' q cap zs) ∧ Below w.heap.size w w' :=
  (appR_in Fr 5 trivial trivial rfl (by decide) Bs p c zs hz w hBs hcell hc).calls fun _ _ h => by cases h
theorem valuesR (q : Option Addr) (n c : Nat) (w : World) :
    Calls Tryz.prog 70 #[.slice q n c] w fun e w' => e = .returned (.func (.func 116) #[] #[.pointer (some ⟨w.heap.size, 0, none⟩)]) ∧ w' = w.alloc (.cells #[.slice q n c] 26) := by
  go_enter Tryz.func70, Tryz.ntmps70
  go_wp2
  go_ret
  exact ⟨rfl, rfl⟩
theorem collectR (Bs : Nat) (p : Option Addr) (c : Nat) (zs : List Pr) (hz : zs.length * 48 ≤ 140737488355328) (w : World) (hBs : Bs < w.heap.size) (hcell : w.cell? ⟨Bs, 0, none⟩ = some (.slice p zs.length c)) (hc : SlOf encR 4 w p c zs) :
    Calls Tryz.prog 114 #[.func (.func 116) #[] #[.pointer (some ⟨Bs, 0, none⟩)]] w fun e w' => (∃ q cap, e = .returned (.slice q zs.length cap) ∧ OwnK encR 42 4 w.heap.size w' q cap zs) ∧ Below w.heap.size w w' := by
  have h := appR Bs p c zs hz w hBs hcell hc
  clear hcell hc
  go_enter Tryz.func114, Tryz.ntmps114
  go_wp2_with (go_at_call 144; refine h.mono ?_; rintro e w1 ⟨⟨q, cap, rfl, ho⟩, hb⟩)
  go_ret
  exact ⟨⟨q, cap, rfl, ho⟩, hb⟩
end Go.Proofs.YtedakipjfpdajaaGreatDoor

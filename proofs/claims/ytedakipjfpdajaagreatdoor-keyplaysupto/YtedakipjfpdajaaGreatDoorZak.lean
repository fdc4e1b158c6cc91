/- Insertion sort over rows of pairs: the library's law, laid; it keeps the order within each name. -/
import Derived.Test.YtedakipjfpdajaaGreatDoorZaj
import Derived.Test.YtedakipjfpdajaaGreatDoorRisA
import Derived.Shelf.SlSortCmp.InsertionK
namespace Go.Proofs
open Go.Shelf
def Tryz.insR_ren : Go.Shelf.Ren := ⟨fun | 20 => 152 | n => n, fun | 22 => 26 | 24 => 42 | 25 => 90 | n => n, fun | n => n⟩
theorem Tryz.insR : Go.Proofs.SlLaysF0.n20 Tryz.prog Tryz.insR_ren := {
  mixed := by kernel_rfl
  f20 := ⟨Tryz.f152.name, by decide, Tryz.func152.trans (congrArg some (by kernel_rfl))⟩
  t0 := Tryz.underlying0
  a0 := Tryz.isAgg0
  z0 := Tryz.sizeOf0
  v0 := Tryz.zeroValue0
  t3 := Tryz.underlying3
  a3 := Tryz.isAgg3
  z3 := Tryz.sizeOf3
  v3 := Tryz.zeroValue3
  t4 := Tryz.underlying4
  a4 := Tryz.isAgg4
  z4 := Tryz.sizeOf4
  v4 := Tryz.zeroValue4
  t22 := Tryz.underlying26
  a22 := Tryz.isAgg26
  z22 := Tryz.sizeOf26
  v22 := Tryz.zeroValue26
  t25 := Tryz.underlying90
  a25 := Tryz.isAgg90
  z25 := Tryz.sizeOf90
  v25 := Tryz.zeroValue90 }
end Go.Proofs
namespace Go.Proofs.YtedakipjfpdajaaGreatDoor
open Go.RowKit Go.Sort Go.Shelf

set_option maxRecDepth 100000 in
theorem byNameG (x y : Pr) (w : World) : Calls Tryz.prog 66 #[.agg #[.string x.name, .int .i64 x.kind, .int .i64 x.num, .string x.word], .agg #[.string y.name, .int .i64 y.kind, .int .i64 y.num, .string y.word]] w fun e w' => e = .returned (.int .i64 (cmpN x y)) ∧ ∃ q os', w' = grow (w.drewN q) os' := by
  go_enter Tryz.func66, Tryz.ntmps66
  go_wp2_with (go_at_call 54; refine (strCmp _ _ _).mono ?_; rintro e w1 ⟨rfl, hw⟩; obtain rfl := hw.symm)
  go_ret
  refine ⟨rfl, ?_⟩
  simp only [alloc_eq_grow, grow_grow]
  exact ⟨0, _, rfl⟩
theorem cmpLaysR (blk off size : Nat) (w : World) : CmpLays Tryz.prog 66 #[] encR 4 cmpN blk off size w :=
  fun _ _ _ _ x y => byNameG x y _
theorem enters66 : ∀ args w, (callFunc 66 args).run Tryz.prog w = .ok (.enter 66 args) w := enters_of Tryz.func66 (by kernel_rfl) rfl
theorem encR_len (x : Pr) : (encR x).length = 4 := rfl
theorem encR_one (x : Pr) : ∀ v ∈ encR x, v.oneCell' = true := by
  intro v hv
  simp [encR] at hv
  rcases hv with rfl | rfl | rfl | rfl <;> rfl
theorem of_holdsR {B g cap : Nat} {w : World} {l : List Pr} {cur : Array Value} (hB : B ≤ g) (hblk : w.heap[g]? = some (.cells cur 42 (0, 0))) (hs : cur.size = cap * 4) (h1 : l.length ≤ cap) (h2 : cap ≤ maxLen) (hH : HoldsK encR 4 w g 0 l.toArray) : OwnK encR 42 4 B w (some ⟨g, 0, none⟩) cap l := by
  refine ⟨by rw [flat_lenR], Or.inr ⟨g, cap, cur, rfl, hB, hblk, h1, h2, hs, ?_⟩⟩
  apply List.ext_getElem?
  intro t
  by_cases ht : t < l.length * 4
  · have hc := (hH t (by simpa using ht)).1
    rw [Nat.zero_add, cell_of_row w g t cur 42 (0, 0) hblk] at hc
    rw [List.getElem?_take, if_pos ht, Array.getElem?_toList, hc]
    have hf : t < (flatK encR 4 l.toArray).size := by simpa using ht
    rw [Array.getElem?_toList, Array.getElem?_eq_getElem hf, getElem!_pos _ t hf]
    rfl
  · rw [List.getElem?_eq_none (by rw [List.length_take]; omega), List.getElem?_eq_none (by simp; omega)]
/-- A row of the call's own holds its list. -/
theorem own_holdsR {B g cap : Nat} {w : World} {d : List Pr} (h : OwnK encR 42 4 B w (some ⟨g, 0, none⟩) cap d) : HoldsK encR 4 w g 0 d.toArray ∧ g < w.heap.size := by
  obtain ⟨_, _, hv', _, hg, hH, _, _⟩ := holds_own (d := d.toArray) (enc := encR) (v := .slice (some ⟨g, 0, none⟩) d.length cap) (by intro e; cases e) (by simpa [OwnK] using h)
  injection hv' with h4 h5 h6
  injection h4 with h4
  injection h4 with h4
  subst h4
  exact ⟨hH, hg⟩
/-- What a sort of the row makes of the world: the row holds another list. -/
theorem own_world {B g cap : Nat} {w : World} {d d' : List Pr} (n : Nat) (os : Array Obj) (h : OwnK encR 42 4 B w (some ⟨g, 0, none⟩) cap d) (hl : d'.length = d.length) : OwnK encR 42 4 B (sortWorldK encR 4 w g 0 n d'.toArray os) (some ⟨g, 0, none⟩) cap d' ∧ Below B w (sortWorldK encR 4 w g 0 n d'.toArray os) := by
  obtain ⟨hH, hg⟩ := own_holdsR h
  rcases h.2 with ⟨h1, _⟩ | ⟨g', cap', cur, hv, hB, hblk, hc, hm, hs, _⟩
  · injection h1 with h1; cases h1
  injection hv with h1 h2 h3
  obtain rfl : g = g' := by injection h1 with h1; injection h1
  subst h3
  obtain ⟨a, _⟩ := holds_sortWorld (n := n) (os := os) (d' := d'.toArray) hg hH (by simpa using hl)
  obtain ⟨cur', hb', hsz'⟩ := shape_sortWorld (enc := encR) (k := 4) (n := n) (d := d'.toArray) (os := os) hblk
  exact ⟨of_holdsR hB hb' (by rw [hsz', hs]) (by rw [hl]; exact hc) hm a, (below_sortWorld w g n d'.toArray os hg).mono hB⟩

theorem at_bang {D : Array Pr} {j : Nat} (h : j < D.size) : D.toList[j]? = some D[j]! := by
  rw [getElem!_pos _ j h]; simp [h]
theorem swp_list (D : Array Pr) (j : Nat) : (Go.Sort.swp D (j + 1) j).toList = swp D.toList j D[j]! D[j + 1]! := by
  unfold Go.Sort.swp swp
  simp
theorem Out.mono {d d' : List Pr} {a b a' b' : Nat} (h : Out d d' a b) (h1 : a' ≤ a) (h2 : b ≤ b') : Out d d' a' b' := fun p hp => h p (by omega)
theorem Srt.mono {d : List Pr} {a b a' b' : Nat} (h : Srt d a b) (h1 : a ≤ a') (h2 : b' ≤ b) : Srt d a' b' := fun p q x y e1 e2 e3 hx hy => h p q x y (by omega) e2 (by omega) hx hy
theorem inner_spec {a i : Nat} : ∀ (j : Nat) (D : Array Pr), a ≤ j → j ≤ i → i < D.size → Ins D.toList a i j →
    Ste D.toList (insInner (ltOf cmpN) a j D).toList ∧ Out D.toList (insInner (ltOf cmpN) a j D).toList a (i + 1) ∧ Srt (insInner (ltOf cmpN) a j D).toList a (i + 1)
  | 0, D, ha, _, _, h => by
    rw [insInner_stop _ _ _ _ (Or.inl (Nat.zero_le _))]
    exact ⟨Ste.refl _, Out.refl _ _ _, h.done (Or.inl (by omega)) ha⟩
  | j + 1, D, ha, hj, hi, h => by
    have hx : D.toList[j]? = some D[j]! := at_bang (by omega)
    have hy : D.toList[j + 1]? = some D[j + 1]! := at_bang (by omega)
    by_cases e : a = j + 1
    · rw [insInner_stop _ _ _ _ (Or.inl (by omega))]
      exact ⟨Ste.refl _, Out.refl _ _ _, h.done (Or.inl e.symm) ha⟩
    · by_cases hc : cmpN D[j + 1]! D[j]! < 0
      · rw [insInner_go _ _ _ _ (by omega) (by exact decide_eq_true hc), Nat.add_sub_cancel]
        have hs := swp_list D j
        obtain ⟨i1, i2, i3⟩ := inner_spec (a := a) (i := i) j (Go.Sort.swp D (j + 1) j) (by omega) (by omega) (by rw [size_swp]; exact hi) (by rw [hs]; exact h.step hx hy hc (by omega))
        rw [hs] at i1 i2
        have hne : D[j]!.name ≠ D[j + 1]!.name := fun e => by
          have := cmpN_zero.2 e.symm
          omega
        exact ⟨(ste_swp hx hy hne).trans i1, (out_swp hx hy (by omega) (by omega)).trans i2, i3⟩
      · rw [insInner_stop _ _ _ _ (Or.inr (by exact decide_eq_false hc))]
        refine ⟨Ste.refl _, Out.refl _ _ _, h.done (Or.inr ⟨D[j]!, D[j + 1]!, hx, hy, ?_, by omega⟩) ha⟩
        have := cmpN_neg D[j]! D[j + 1]!
        omega
theorem outer_spec {a b : Nat} : ∀ (n i : Nat) (D : Array Pr), b - i = n → a < i → b ≤ D.size → Srt D.toList a i →
    Ste D.toList (insOuter (ltOf cmpN) a b i D).toList ∧ Out D.toList (insOuter (ltOf cmpN) a b i D).toList a b ∧ Srt (insOuter (ltOf cmpN) a b i D).toList a b
  | 0, i, D, hn, _, _, h => by
    rw [insOuter_stop _ _ _ _ _ (by omega)]
    exact ⟨Ste.refl _, Out.refl _ _ _, h.mono (Nat.le_refl _) (by omega)⟩
  | n + 1, i, D, hn, hi, hb, h => by
    rw [insOuter_go _ _ _ _ _ (by omega)]
    obtain ⟨j1, j2, j3⟩ := inner_spec (a := a) (i := i) i D (by omega) (Nat.le_refl _) (by omega) (Ins.start h)
    obtain ⟨k1, k2, k3⟩ := outer_spec (a := a) (b := b) n (i + 1) (insInner (ltOf cmpN) a i D) (by omega) (by omega) (by have := j1.1; simp at this; omega) j3
    exact ⟨j1.trans k1, (j2.mono (Nat.le_refl _) (by omega)).trans k2, k3⟩
theorem srt_one (d : List Pr) (a : Nat) : Srt d a (a + 1) := fun p q x y h1 h2 h3 => by omega
/-- slices.insertionSortCmpFunc over pairs, by their names. -/
theorem insSort (B g cap a b : Nat) (d : List Pr) (w : World) (h : OwnK encR 42 4 B w (some ⟨g, 0, none⟩) cap d) (hab : a ≤ b) (hb : b ≤ d.length) (hl : d.length < 4611686018427387904) :
    Calls Tryz.prog 152 #[.slice (some ⟨g, 0, none⟩) d.length cap, .int .i64 a, .int .i64 b, .func (.func 66) #[] #[]] w fun e w' => e = .returned (.tuple #[]) ∧ ∃ d', OwnK encR 42 4 B w' (some ⟨g, 0, none⟩) cap d' ∧ Ste d d' ∧ Out d d' a b ∧ Srt d' a b ∧ Below B w w' := by
  obtain ⟨hH, hg⟩ := own_holdsR h
  have hcon := AnyQ.insertionSortCmpFunc Tryz.insR 4 Tryz.isAgg42 Tryz.sizeOf42 encR encR_len encR_one cmpN 66 #[] g 0 cap a b d.toArray w enters66 (cmpLaysR g 0 d.toArray.size w) hH hg hab (by simpa using hb) (by simpa using hl)
  change Calls Tryz.prog 152 _ _ _ at hcon
  rw [show d.toArray.size = d.length by simp] at hcon
  refine hcon.mono fun e w' ⟨he, n, os, hw⟩ => ⟨he, ?_⟩
  obtain ⟨j1, j2, j3⟩ := outer_spec (a := a) (b := b) (b - (a + 1)) (a + 1) d.toArray rfl (by omega) (by simpa using hb) (srt_one _ _)
  subst hw
  unfold Sort.insertionSort
  generalize insOuter (ltOf cmpN) a b (a + 1) d.toArray = D at j1 j2 j3 ⊢
  obtain ⟨o1, o2⟩ := own_world (d' := D.toList) n os h (by simpa using j1.1)
  exact ⟨D.toList, by simpa using o1, by simpa using j1, by simpa using j2, j3, by simpa using o2⟩
end Go.Proofs.YtedakipjfpdajaaGreatDoor
namespace Go.Proofs.YtedakipjfpdajaaGreatDoor
open Go.RowKit Go.Sort Go.Shelf Go.Lib

/-- The first n of two runs have changed places. -/
def swR (D : Array Pr) (a b : Nat) : Nat → Array Pr
  | 0 => D
  | n + 1 => Go.Sort.swp (swR D a b n) (a + n) (b + n)
theorem size_swR (D : Array Pr) (a b : Nat) : ∀ n, (swR D a b n).size = D.size
  | 0 => rfl
  | n + 1 => by rw [swR, size_swp, size_swR D a b n]

set_option maxHeartbeats 4000000 in
set_option maxRecDepth 1000000 in
theorem swapRangeG {P : Program} (mixed : P.follows .mixedOrders = true) (F : P.funcs[180]? = some Tryz.f180) (k : Nat) (aE : ∀ w, (isAgg 42).run P w = .ok true w) (zE : ∀ w, (Go.sizeOf 42).run P w = .ok k w)
    (t26 : P.underlying 26 = some (TypeDesc.slice 42))
    (enc : Pr → List Value) (hk : ∀ x, (enc x).length = k) (h1 : ∀ x, ∀ v ∈ enc x, v.oneCell' = true) (fv : Value)
    (blk off cap a b n : Nat) (d : Array Pr) (w : World) (hH : HoldsK enc k w blk off d) (hblk : blk < w.heap.size) (ha : a + n ≤ d.size) (hb : b + n ≤ d.size) (hsz : d.size < 4611686018427387904) :
    Calls P 180 #[.slice (some ⟨blk, off, none⟩) d.size cap, .int .i64 a, .int .i64 b, .int .i64 n, fv] w fun e w' =>
      e = .returned (.tuple #[]) ∧ ∃ m, w' = sortWorldK enc k w blk off m (swR d a b n) #[] := by
  have u26 := run_underlying t26
  have HST : Hid (w = sortWorldK enc k w blk off 0 d #[]) := by show w = _; unfold sortWorldK; rw [grow_empty]; exact (putRowK_self enc k w blk off d hH).symm
  have HH : Hid (HoldsK enc k w blk off d) := hH
  have HK : Hid (∀ x, (enc x).length = k) := hk
  have H1 : Hid (∀ x, ∀ v ∈ enc x, v.oneCell' = true) := h1
  clear hH hk h1
  go_enter F, Tryz.ntmps180
  go_wp2
  go_loopg [10] n (fun g1 vi wr => ∃ (i m : Nat), vi = .int .i64 i ∧ i ≤ n ∧ n - i ≤ g1 ∧ Hid (wr = sortWorldK enc k w blk off m (swR d a b i) #[]))
  case atStart => exact ⟨0, 0, rfl, by omega, by omega, HST⟩
  case round =>
    obtain ⟨i, m, rfl, hin, hg1, HW⟩ := hrel
    by_cases hlt : i < n
    · have hltz : (i : Int) < (n : Int) := by omega
      have bnd : ∀ x, x < d.size → x * k + k ≤ d.size * k := fun x hx => by
        have := Nat.mul_le_mul_right k (show x + 1 ≤ d.size from hx); rwa [Nat.add_mul, Nat.one_mul] at this
      have hsj : (swR d a b i).size = d.size := size_swR d a b i
      have hHd : HoldsK enc k wr.drew blk off (swR d a b i) := by
        have : HoldsK enc k wr blk off (swR d a b i) := by rw [HW.out]; exact holdsK_sortWorldK_c enc k w blk off d _ _ _ HH.out hblk hsj
        exact this
      obtain ⟨xj, hxj⟩ : ∃ x, (swR d a b i)[b + i]! = x := ⟨_, rfl⟩
      obtain ⟨xp, hxp⟩ : ∃ x, (swR d a b i)[a + i]! = x := ⟨_, rfl⟩
      have lj2 : Sem.run P (loadCellsFrom ⟨blk, off + (b + i) * k, none⟩ 0 k #[]) wr.drew = .ok (enc xj).toArray wr.drew := by rw [← hxj]; exact run_loadCellsFrom_list P _ _ _ k (HK.out _) (HoldsK.cells hHd HK.out (by omega))
      have lp2 : Sem.run P (loadCellsFrom ⟨blk, off + (a + i) * k, none⟩ 0 k #[]) wr.drew = .ok (enc xp).toArray wr.drew := by rw [← hxp]; exact run_loadCellsFrom_list P _ _ _ k (HK.out _) (HoldsK.cells hHd HK.out (by omega))
      have s1 : Sem.run P (storeCells ⟨blk, off + (a + i) * k, none⟩ (enc xj) 0) wr.drew = .ok () (wr.drew.setCells blk (off + (a + i) * k) (enc xj)) := stores_of_holds P hHd ((a + i) * k) _ (by rw [HK.out, size_flatK, hsj]; exact bnd (a + i) (by omega)) (H1.out _)
      have s2 : Sem.run P (storeCells ⟨blk, off + (b + i) * k, none⟩ (enc xp) 0) (wr.drew.setCells blk (off + (a + i) * k) (enc xj)) = .ok () ((wr.drew.setCells blk (off + (a + i) * k) (enc xj)).setCells blk (off + (b + i) * k) (enc xp)) :=
        stores_of_holds P (holds_setCells_c hHd ((a + i) * k) _ (by rw [HK.out, size_flatK, hsj]; exact bnd (a + i) (by omega))) ((b + i) * k) _ (by rw [HK.out, size_setMany, size_flatK, hsj]; exact bnd (b + i) (by omega)) (H1.out _)
      have hsJ : (enc xj).length = k := HK.out _
      have hsP : (enc xp).length = k := HK.out _
      have XX : Hid ((swR d a b i)[b + i]! = xj ∧ (swR d a b i)[a + i]! = xp ∧ (swR d a b i).size = d.size) := ⟨hxj, hxp, hsj⟩
      have wa : IntKind.i64.wrap ((a : Int) + (i : Int)) = (a : Int) + (i : Int) := by rw [IntKind.wrap_i64]; omega
      have wb : IntKind.i64.wrap ((b : Int) + (i : Int)) = (b : Int) + (i : Int) := by rw [IntKind.wrap_i64]; omega
      have ia : (a : Int) + (i : Int) < (d.size : Int) := by omega
      have ib : (b : Int) + (i : Int) < (d.size : Int) := by omega
      have pa : (0 : Int) ≤ (a : Int) + (i : Int) := by omega
      have pb : (0 : Int) ≤ (b : Int) + (i : Int) := by omega
      have ea : ((a : Int) + (i : Int)).toNat = a + i := by omega
      have eb : ((b : Int) + (i : Int)).toNat = b + i := by omega
      clear hHd bnd hxj hxp hsj
      obtain ⟨cJ, hcJ⟩ : ∃ c, c = enc xj := ⟨_, rfl⟩
      obtain ⟨cP, hcP⟩ : ∃ c, c = enc xp := ⟨_, rfl⟩
      rw [← hcJ] at s1 lj2 hsJ
      rw [← hcP] at lp2 hsP
      rw [← hcJ, ← hcP] at s2
      have CC : Hid (cJ = enc xj ∧ cP = enc xp) := ⟨hcJ, hcP⟩
      clear hcJ hcP
      go_wp2_with fail
      go_big_region_o
      all_goals go_wp2
      go_roundg (n - (i + 1))
      case measure => omega
      case rel =>
        refine ⟨i + 1, m + 1, by go_num, by omega, by omega, (show Hid _ from ?_)⟩
        show _ = _
        rw [CC.out.1, CC.out.2, HW.out, ← XX.out.1, ← XX.out.2.1]
        exact sortWorldK_swp_c enc k w blk off HK.out m _ #[] hblk (a + i) (b + i) (by rw [XX.out.2.2]; omega) (by rw [XX.out.2.2]; omega)
    · obtain rfl : i = n := by omega
      have hltz : ¬ (i : Int) < (i : Int) := by omega
      go_wp2
      go_end0
      exact ⟨rfl, m, HW.out⟩
theorem swR_blocks (P M S : List Pr) : ∀ (n : Nat) (X Y : List Pr), X.length = n → Y.length = n →
    (swR (P ++ X ++ M ++ Y ++ S).toArray P.length (P.length + X.length + M.length) n).toList = P ++ Y ++ M ++ X ++ S
  | 0, X, Y, hX, hY => by
    obtain rfl := List.length_eq_zero_iff.1 hX
    obtain rfl := List.length_eq_zero_iff.1 hY
    simp [swR]
  | n + 1, X, Y, hX, hY => by
    obtain ⟨X', x, rfl⟩ : ∃ X' x, X = X' ++ [x] := ⟨X.dropLast, X.getLast (by intro e; rw [e] at hX; cases hX), (List.dropLast_concat_getLast _).symm⟩
    obtain ⟨Y', y, rfl⟩ : ∃ Y' y, Y = Y' ++ [y] := ⟨Y.dropLast, Y.getLast (by intro e; rw [e] at hY; cases hY), (List.dropLast_concat_getLast _).symm⟩
    have hX' : X'.length = n := by simpa using hX
    have hY' : Y'.length = n := by simpa using hY
    have ih := swR_blocks P ([x] ++ M) ([y] ++ S) n X' Y' hX' hY'
    have e1 : P ++ X' ++ ([x] ++ M) ++ Y' ++ ([y] ++ S) = P ++ (X' ++ [x]) ++ M ++ (Y' ++ [y]) ++ S := by simp
    have e2 : P.length + X'.length + ([x] ++ M).length = P.length + (X' ++ [x]).length + M.length := by simp; omega
    rw [e1, e2] at ih
    rw [swR]
    generalize swR (P ++ (X' ++ [x]) ++ M ++ (Y' ++ [y]) ++ S).toArray P.length (P.length + (X' ++ [x]).length + M.length) n = D at ih ⊢
    have hD : D = (P ++ Y' ++ ([x] ++ M) ++ X' ++ ([y] ++ S)).toArray := by rw [← ih]
    have gx : D[P.length + n]! = x := by
      rw [hD, ← hY']
      simp
    have gy : D[P.length + (X' ++ [x]).length + M.length + n]! = y := by
      rw [hD]
      have e : P.length + (X' ++ [x]).length + M.length + n = (P ++ Y' ++ ([x] ++ M) ++ X').length + 0 := by simp; omega
      rw [e]
      simp
    unfold Go.Sort.swp
    rw [gx, gy, hD]
    have e : P.length + (X' ++ [x]).length + M.length + n = (P ++ Y' ++ ([y] ++ M) ++ X').length := by simp; omega
    simp only [Array.toList_setIfInBounds]
    have f1 : (P ++ Y' ++ ([x] ++ M) ++ X' ++ ([y] ++ S)).set (P.length + n) y = P ++ Y' ++ ([y] ++ M) ++ X' ++ ([y] ++ S) := by
      have : P.length + n = (P ++ Y').length := by simp; omega
      rw [this]
      simp
    rw [f1, e]
    simp
/-- slices.swapRangeCmpFunc over pairs. -/
theorem swapRange (B g cap a b n : Nat) (fv : Value) (d : List Pr) (w : World) (h : OwnK encR 42 4 B w (some ⟨g, 0, none⟩) cap d) (ha : a + n ≤ d.length) (hb : b + n ≤ d.length) (hl : d.length < 4611686018427387904) :
    Calls Tryz.prog 180 #[.slice (some ⟨g, 0, none⟩) d.length cap, .int .i64 a, .int .i64 b, .int .i64 n, fv] w fun e w' => e = .returned (.tuple #[]) ∧ OwnK encR 42 4 B w' (some ⟨g, 0, none⟩) cap (swR d.toArray a b n).toList ∧ Below B w w' := by
  obtain ⟨hH, hg⟩ := own_holdsR h
  have hcon := swapRangeG (P := Tryz.prog) (by kernel_rfl) Tryz.func180 4 Tryz.isAgg42 Tryz.sizeOf42 Tryz.underlying26 encR encR_len encR_one fv g 0 cap a b n d.toArray w hH hg (by simpa using ha) (by simpa using hb) (by simpa using hl)
  rw [show d.toArray.size = d.length by simp] at hcon
  refine hcon.mono fun e w' ⟨he, m, hw⟩ => ⟨he, ?_⟩
  subst hw
  have := own_world (d' := (swR d.toArray a b n).toList) m #[] h (by simp [size_swR])
  simpa using this
end Go.Proofs.YtedakipjfpdajaaGreatDoor
namespace Go.Proofs.YtedakipjfpdajaaGreatDoor
open Go.RowKit Go.Sort Go.Shelf

/-- Two runs of one length change places. -/
theorem swapBlocks (B g cap a b n N : Nat) (fv : Value) (P X M Y S : List Pr) (w : World) (h : OwnK encR 42 4 B w (some ⟨g, 0, none⟩) cap (P ++ X ++ M ++ Y ++ S)) (hN : (P ++ X ++ M ++ Y ++ S).length = N) (hX : X.length = n) (hY : Y.length = n) (ha : P.length = a) (hb : P.length + X.length + M.length = b) (hl : N < 4611686018427387904) :
    Calls Tryz.prog 180 #[.slice (some ⟨g, 0, none⟩) N cap, .int .i64 a, .int .i64 b, .int .i64 n, fv] w fun e w' => e = .returned (.tuple #[]) ∧ OwnK encR 42 4 B w' (some ⟨g, 0, none⟩) cap (P ++ Y ++ M ++ X ++ S) ∧ Below B w w' := by
  have hN' := hN
  simp only [List.length_append] at hN'
  have hc := swapRange B g cap a b n fv (P ++ X ++ M ++ Y ++ S) w h (by rw [hN]; omega) (by rw [hN]; omega) (by rw [hN]; exact hl)
  have hs := swR_blocks P M S n X Y hX hY
  rw [ha, hb.symm.trans (by rw [ha])] at *
  rw [← ha, hb, ha] at hs
  rw [hN, hs] at hc
  exact hc

set_option maxHeartbeats 4000000 in
set_option maxRecDepth 1000000 in
theorem rotate (B g cap a m b N : Nat) (fv : Value) (P X Y S : List Pr) (w : World) (h : OwnK encR 42 4 B w (some ⟨g, 0, none⟩) cap (P ++ X ++ Y ++ S)) (hN : (P ++ X ++ Y ++ S).length = N) (hX : 0 < X.length) (hY : 0 < Y.length) (ha : P.length = a) (hm : P.length + X.length = m) (hb : P.length + X.length + Y.length = b) (hl : N < 4611686018427387904) :
    Calls Tryz.prog 172 #[.slice (some ⟨g, 0, none⟩) N cap, .int .i64 a, .int .i64 m, .int .i64 b, fv] w fun e w' => e = .returned (.tuple #[]) ∧ OwnK encR 42 4 B w' (some ⟨g, 0, none⟩) cap (P ++ Y ++ X ++ S) ∧ Below B w w' := by
  have H0 : Hid (OwnK encR 42 4 B w (some ⟨g, 0, none⟩) cap (P ++ X ++ Y ++ S) ∧ (P ++ X ++ Y ++ S).length = N ∧ P.length + X.length = m) := hide ⟨h, hN, hm⟩
  obtain ⟨T, hT⟩ : ∃ T, P ++ Y ++ X ++ S = T := ⟨_, rfl⟩
  have HT := hide hT
  rw [hT]
  have hN' := hN
  simp only [List.length_append] at hN'
  obtain ⟨i0, hi0⟩ : ∃ i0, X.length = i0 := ⟨_, rfl⟩
  obtain ⟨j0, hj0⟩ : ∃ j0, Y.length = j0 := ⟨_, rfl⟩
  have w1 : IntKind.i64.wrap ((m : Int) - (a : Int)) = (i0 : Int) := by rw [IntKind.wrap_i64]; omega
  have w2 : IntKind.i64.wrap ((b : Int) - (m : Int)) = (j0 : Int) := by rw [IntKind.wrap_i64]; omega
  have e1 : (m : Int) - (a : Int) = (i0 : Int) := by omega
  have e2 : (b : Int) - (m : Int) = (j0 : Int) := by omega
  have w3 : IntKind.i64.wrap (i0 : Int) = (i0 : Int) := by rw [IntKind.wrap_i64]; omega
  have w4 : IntKind.i64.wrap (j0 : Int) = (j0 : Int) := by rw [IntKind.wrap_i64]; omega
  have i0p : 0 < i0 := by omega
  have j0p : 0 < j0 := by omega
  have HL := hide (show X.length = i0 ∧ Y.length = j0 from ⟨hi0, hj0⟩)
  have hmN : m ≤ N := by omega
  clear h hN hT hN' hX hY ha hm hb hi0 hj0
  go_enter Tryz.func172, Tryz.ntmps172
  go_wp2
  go_loopw [10, 11] (fun vi vj wr => ∃ (i j : Nat) (P' U V S' : List Pr), vi = .int .i64 i ∧ vj = .int .i64 j ∧ 0 < i ∧ 0 < j ∧ i ≤ m ∧ m + j ≤ N ∧ Hid (U.length = i ∧ V.length = j ∧ P'.length + i = m ∧ (P' ++ U ++ V ++ S').length = N ∧ P' ++ V ++ U ++ S' = T) ∧ Hid (OwnK encR 42 4 B wr (some ⟨g, 0, none⟩) cap (P' ++ U ++ V ++ S')) ∧ Hid (Below B w wr)) (fun vi vj _ => (intOf vi).toNat + (intOf vj).toNat)
  case atStart =>
    have h1 := unhide HL
    have h2 := unhide H0
    have h3 := h2.2.1
    simp only [List.length_append] at h3
    exact ⟨i0, j0, P, X, Y, S, by first | rfl | go_num, by first | rfl | go_num, i0p, j0p, by omega, by omega, hide ⟨h1.1, h1.2, by omega, h2.2.1, unhide HT⟩, hide h2.1, hide (Below.refl _ _)⟩
  case round =>
    obtain ⟨i, j, P', U, V, S', rfl, rfl, hi, hj, him, hjN, HS, HO, HB⟩ := hrel
    obtain ⟨p, hp⟩ : ∃ p, p + i = m := ⟨m - i, by omega⟩
    have x1 : IntKind.i64.wrap ((m : Int) - (i : Int)) = (p : Int) := by rw [IntKind.wrap_i64]; omega
    have x2 : (m : Int) - (i : Int) = (p : Int) := by omega
    have HP := hide hp
    have HI := hide (show 0 < i ∧ 0 < j ∧ i ≤ m ∧ m + j ≤ N from ⟨hi, hj, him, hjN⟩)
    by_cases hij : i = j
    · subst hij
      have hc := swapBlocks B g cap p m i N fv P' U [] V S' wr (by simpa using unhide HO) (by simpa using (unhide HS).2.2.2.1) (unhide HS).1 (unhide HS).2.1 (by have := (unhide HS).2.2.1; omega) (by have := (unhide HS).2.2.1; have := (unhide HS).1; simp; omega) hl
      have HC := hide hc
      clear hc hp him hjN
      go_wp2_with (go_at_call 180; refine (unhide HC).mono ?_; rintro e wn ⟨rfl, ho, hbn⟩; have HO2 := hide ho; have HB2 := hide ((unhide HB).trans hbn); clear ho hbn)
      go_end0
      refine ⟨rfl, ?_, unhide HB2⟩
      rw [← (unhide HS).2.2.2.2]
      simpa using unhide HO2
    · have hne : ¬ (i : Int) = (j : Int) := by omega
      by_cases hgt : j < i
      · have hgz : (j : Int) < (i : Int) := by omega
        have hu : U = U.take j ++ U.drop j := (List.take_append_drop j U).symm
        have hlu : (U.take j).length = j := by rw [List.length_take, (unhide HS).1]; omega
        have hld : (U.drop j).length = i - j := by rw [List.length_drop, (unhide HS).1]
        generalize hU1 : U.take j = U1 at hu hlu
        generalize hU2 : U.drop j = U2 at hu hld
        subst hu
        clear hU1 hU2
        have hc := swapBlocks B g cap p m j N fv P' U1 U2 V S' wr (by simpa using unhide HO) (by simpa using (unhide HS).2.2.2.1) hlu (unhide HS).2.1 (by have := (unhide HS).2.2.1; omega) (by have := (unhide HS).2.2.1; omega) hl
        have HC := hide hc
        have x3 : IntKind.i64.wrap ((i : Int) - (j : Int)) = (i : Int) - (j : Int) := by rw [IntKind.wrap_i64]; omega
        have HLU := hide (show U1.length = j ∧ U2.length = i - j from ⟨hlu, hld⟩)
        clear hc hp him hjN hlu hld
        go_wp2_with (go_at_call 180; refine (unhide HC).mono ?_; rintro e wn ⟨rfl, ho, hbn⟩; have HO2 := hide ho; have HB2 := hide ((unhide HB).trans hbn); clear ho hbn)
        go_roundw
        case rel =>
          have h1 := unhide HLU
          have h2 := unhide HS
          have h3 := unhide HI
          have h4 := h2.2.2.2.1
          simp only [List.length_append] at h4
          refine ⟨i - j, j, P' ++ V, U2, U1, S', by first | rfl | (congr 1; omega), rfl, by omega, hj, by omega, by omega, hide ⟨h1.2, h1.1, by simp; omega, by simp; omega, by rw [← h2.2.2.2.2]; simp⟩, hide (by simpa using unhide HO2), HB2⟩
        case measure => simp [intOf]; omega
      · have hgz : ¬ (j : Int) < (i : Int) := by omega
        obtain ⟨q, hq⟩ : ∃ q, q + i = m + j := ⟨m + j - i, by omega⟩
        have x3 : IntKind.i64.wrap ((m : Int) + (j : Int)) = (m : Int) + (j : Int) := by rw [IntKind.wrap_i64]; omega
        have x4 : IntKind.i64.wrap ((m : Int) + (j : Int) - (i : Int)) = (q : Int) := by rw [IntKind.wrap_i64]; omega
        have x5 : (m : Int) + (j : Int) - (i : Int) = (q : Int) := by omega
        have x7 : IntKind.i64.wrap (q : Int) = (q : Int) := by rw [IntKind.wrap_i64]; omega
        have x6 : IntKind.i64.wrap ((j : Int) - (i : Int)) = (j : Int) - (i : Int) := by rw [IntKind.wrap_i64]; omega
        have hv : V = V.take (j - i) ++ V.drop (j - i) := (List.take_append_drop (j - i) V).symm
        have hlu : (V.take (j - i)).length = j - i := by rw [List.length_take, (unhide HS).2.1]; omega
        have hld : (V.drop (j - i)).length = i := by rw [List.length_drop, (unhide HS).2.1]; omega
        generalize hU1 : V.take (j - i) = V1 at hv hlu
        generalize hU2 : V.drop (j - i) = V2 at hv hld
        subst hv
        clear hU1 hU2
        have hc := swapBlocks B g cap p q i N fv P' U V1 V2 S' wr (by simpa using unhide HO) (by simpa using (unhide HS).2.2.2.1) (unhide HS).1 hld (by have := (unhide HS).2.2.1; omega) (by have := (unhide HS).2.2.1; have := (unhide HS).1; omega) hl
        have HC := hide hc
        have HLU := hide (show V1.length = j - i ∧ V2.length = i from ⟨hlu, hld⟩)
        clear hc hp hq him hjN hlu hld
        go_wp2_with (go_at_call 180; refine (unhide HC).mono ?_; rintro e wn ⟨rfl, ho, hbn⟩; have HO2 := hide ho; have HB2 := hide ((unhide HB).trans hbn); clear ho hbn)
        go_roundw
        case rel =>
          have h1 := unhide HLU
          have h2 := unhide HS
          have h3 := unhide HI
          have h4 := h2.2.2.2.1
          simp only [List.length_append] at h4
          refine ⟨i, j - i, P', V2, V1, U ++ S', rfl, by first | rfl | (congr 1; omega), hi, by omega, by omega, by omega, hide ⟨h1.2, h1.1, h2.2.2.1, by simp; omega, by rw [← h2.2.2.2.2]; simp⟩, hide (by simpa using unhide HO2), HB2⟩
        case measure => simp [intOf]; omega
end Go.Proofs.YtedakipjfpdajaaGreatDoor
namespace Go.Proofs.YtedakipjfpdajaaGreatDoor
open Go.RowKit Go.Sort Go.Shelf

/-- In the order of the names. -/
def Sd (l : List Pr) : Prop := l.Pairwise fun x y => cmpN x y ≤ 0
/-- The pairs of each name stand in the order in which they stood. -/
def Stb (l l' : List Pr) : Prop := l'.length = l.length ∧ ∀ nm : ByteArray, l'.filter (fun x => x.name.data.toList == nm.data.toList) = l.filter (fun x => x.name.data.toList == nm.data.toList)
theorem Stb.refl (l : List Pr) : Stb l l := ⟨rfl, fun _ => rfl⟩
theorem Stb.trans {a b c : List Pr} (h : Stb a b) (h2 : Stb b c) : Stb a c := ⟨h2.1.trans h.1, fun nm => (h2.2 nm).trans (h.2 nm)⟩
theorem Stb.mem {l l' : List Pr} (h : Stb l l') {x : Pr} (hx : x ∈ l') : x ∈ l := by
  have h1 : x ∈ l'.filter (fun y => y.name.data.toList == x.name.data.toList) := by rw [List.mem_filter]; exact ⟨hx, by simp⟩
  rw [h.2] at h1
  exact (List.mem_filter.1 h1).1
theorem Stb.app {a b a' b' : List Pr} (h : Stb a a') (h2 : Stb b b') : Stb (a ++ b) (a' ++ b') := ⟨by simp [h.1, h2.1], fun nm => by rw [List.filter_append, List.filter_append, h.2, h2.2]⟩
/-- Blocks that bear no name in common change places. -/
theorem stb_blocks (P X Y S : List Pr) (h : ∀ x ∈ X, ∀ y ∈ Y, cmpN y x < 0) : Stb (P ++ X ++ Y ++ S) (P ++ Y ++ X ++ S) :=
  ste_blocks P X Y S fun x hx y hy e => by
    have := h x hx y hy
    have := cmpN_zero.2 e.symm
    omega
theorem sd_app {a b : List Pr} : Sd (a ++ b) ↔ Sd a ∧ Sd b ∧ ∀ x ∈ a, ∀ y ∈ b, cmpN x y ≤ 0 := List.pairwise_append
/-- Two sorted runs, cut so that what is ahead in both belongs ahead of what is behind in both. -/
theorem halves {A1 A2 B1 B2 C1 C2 : List Pr} (hA : Sd (A1 ++ A2)) (hB : Sd (B1 ++ B2)) (h12 : ∀ x ∈ A1, ∀ y ∈ B2, cmpN x y ≤ 0) (h21 : ∀ x ∈ A2, ∀ y ∈ B1, cmpN y x < 0)
    (c1 : Sd C1) (c2 : Sd C2) (s1 : Stb (A1 ++ B1) C1) (s2 : Stb (A2 ++ B2) C2) : Sd (C1 ++ C2) ∧ Stb (A1 ++ A2 ++ (B1 ++ B2)) (C1 ++ C2) := by
  constructor
  · refine sd_app.2 ⟨c1, c2, fun x hx y hy => ?_⟩
    have hx := s1.mem hx
    have hy := s2.mem hy
    rw [List.mem_append] at hx hy
    rcases hx with hx | hx <;> rcases hy with hy | hy
    · exact (sd_app.1 hA).2.2 x hx y hy
    · exact h12 x hx y hy
    · exact Int.le_of_lt (h21 y hy x hx)
    · exact (sd_app.1 hB).2.2 x hx y hy
  · have h1 := stb_blocks A1 A2 B1 B2 h21
    have h2 := s1.app s2
    have e1 : A1 ++ A2 ++ (B1 ++ B2) = A1 ++ A2 ++ B1 ++ B2 := by simp
    have e2 : A1 ++ B1 ++ (A2 ++ B2) = A1 ++ B1 ++ A2 ++ B2 := by simp
    rw [e2] at h2
    rw [e1]
    exact h1.trans h2
/-- The last of one run against the first of another decides for all. -/
theorem all_le {A B : List Pr} (hA : Sd A) (hB : Sd B) (h : ∀ x y, A[A.length - 1]? = some x → B[0]? = some y → cmpN x y ≤ 0) : ∀ x ∈ A, ∀ y ∈ B, cmpN x y ≤ 0 := by
  intro x hx y hy
  obtain ⟨i, hi, rfl⟩ := List.getElem_of_mem hx
  obtain ⟨j, hj, rfl⟩ := List.getElem_of_mem hy
  have h1 := h A[A.length - 1] B[0] (List.getElem?_eq_getElem (by omega)) (List.getElem?_eq_getElem (by omega))
  have h2 : cmpN A[i] A[A.length - 1] ≤ 0 := by
    by_cases e : i = A.length - 1
    · subst e; exact Int.le_of_eq (cmpN_zero.2 rfl)
    · exact List.pairwise_iff_getElem.1 hA i (A.length - 1) hi (by omega) (by omega)
  have h3 : cmpN B[0] B[j] ≤ 0 := by
    by_cases e : j = 0
    · subst e; exact Int.le_of_eq (cmpN_zero.2 rfl)
    · exact List.pairwise_iff_getElem.1 hB 0 j (by omega) hj (by omega)
  exact cmpN_trans h2 (cmpN_trans h1 h3)
theorem cmpN_lt2 {x y z : Pr} (h1 : cmpN x y ≤ 0) (h2 : cmpN y z < 0) : cmpN x z < 0 := by
  have h := cmpN_trans h1 (Int.le_of_lt h2)
  refine Classical.byContradiction fun hn => ?_
  have e : x.name = z.name := cmpN_zero.1 (by omega)
  have h3 : cmpN z y ≤ 0 := by unfold cmpN at *; rw [← e]; exact h1
  rw [cmpN_neg y z] at h3
  omega
theorem all_lt {A B : List Pr} (hA : Sd A) (hB : Sd B) (h : ∀ x y, A[0]? = some x → B[B.length - 1]? = some y → cmpN y x < 0) : ∀ x ∈ A, ∀ y ∈ B, cmpN y x < 0 := by
  intro x hx y hy
  obtain ⟨i, hi, rfl⟩ := List.getElem_of_mem hx
  obtain ⟨j, hj, rfl⟩ := List.getElem_of_mem hy
  have h1 := h A[0] B[B.length - 1] (List.getElem?_eq_getElem (by omega)) (List.getElem?_eq_getElem (by omega))
  have h2 : cmpN A[0] A[i] ≤ 0 := by
    by_cases e : i = 0
    · subst e; exact Int.le_of_eq (cmpN_zero.2 rfl)
    · exact List.pairwise_iff_getElem.1 hA 0 i (by omega) hi (by omega)
  have h3 : cmpN B[j] B[B.length - 1] ≤ 0 := by
    by_cases e : j = B.length - 1
    · subst e; exact Int.le_of_eq (cmpN_zero.2 rfl)
    · exact List.pairwise_iff_getElem.1 hB j (B.length - 1) hj (by omega) (by omega)
  exact cmpN_lt2 h3 (cmpN_lt h1 h2)
/-- What turned within two places, and is sorted there. -/
theorem seg_of {P M S d' : List Pr} {a b : Nat} (ha : P.length = a) (hb : P.length + M.length = b) (hs : Ste (P ++ M ++ S) d') (ho : Out (P ++ M ++ S) d' a b) (hr : Srt d' a b) : ∃ M', d' = P ++ M' ++ S ∧ Sd M' ∧ Stb M M' := by
  subst ha hb
  have hl := hs.1
  have hl' : d'.length = P.length + M.length + S.length := by rw [hl]; simp; omega
  have e1 : d'.take P.length = P := by
    apply List.ext_getElem?
    intro p
    rw [List.getElem?_take]
    split
    · next h => rw [ho p (Or.inl h), List.append_assoc, List.getElem?_append_left h]
    · next h => rw [List.getElem?_eq_none (by omega)]
  have e3 : d'.drop (P.length + M.length) = S := by
    apply List.ext_getElem?
    intro p
    rw [List.getElem?_drop, ho _ (Or.inr (by omega)), List.getElem?_append_right (by simp), List.length_append]
    congr 1
    omega
  refine ⟨(d'.drop P.length).take M.length, ?_, ?_, ?_⟩
  · conv => lhs; rw [← List.take_append_drop P.length d', e1, ← List.take_append_drop M.length (d'.drop P.length), List.drop_drop, e3]
    simp
  · unfold Sd
    rw [List.pairwise_iff_getElem]
    intro i j hi hj hij
    simp only [List.length_take, List.length_drop] at hi hj
    refine hr (P.length + i) (P.length + j) _ _ (by omega) (by omega) (by omega) ?_ ?_
    · rw [List.getElem?_eq_getElem (by omega)]; simp
    · rw [List.getElem?_eq_getElem (by omega)]; simp
  · have e2 : d' = P ++ (d'.drop P.length).take M.length ++ S := by
      conv => lhs; rw [← List.take_append_drop P.length d', e1, ← List.take_append_drop M.length (d'.drop P.length), List.drop_drop, e3]
      simp
    generalize (d'.drop P.length).take M.length = M' at e2
    subst e2
    refine ⟨by simp at hl; omega, fun nm => ?_⟩
    have := hs.2 nm
    simp only [List.filter_append, List.append_assoc] at this
    exact List.append_cancel_right (List.append_cancel_left this)
end Go.Proofs.YtedakipjfpdajaaGreatDoor

/- Insertion sort over rows of pairs: the library's law, laid; it keeps the order within each name. -/
import Derived.Test.YtjbafggnbfknfaaGreatDoorStP
import Derived.Test.YtjbafggnbfknfaaGreatDoorRisA
import Derived.Shelf.SlSortCmp.InsertionK
namespace Go.Proofs
open Go.Shelf
def Tryz.insR_ren : Go.Shelf.Ren := ⟨fun | 20 => 152 | n => n, fun | 22 => 26 | 24 => 42 | 25 => 90 | n => n, fun | n => n⟩
theorem Tryz.insR : Go.Proofs.SlLaysF0.n20 Tryz.prog Tryz.insR_ren := {
  mixed := by kernel_rfl
  f20 := ⟨Tryz.f152.name, by decide, Tryz.func152.trans (congrArg some (by kernel_rfl))⟩
  t0 := Tryz.underlying0
  a0 := Tryz.isAgg0
  z0 := Tryz.sizeOf0
  v0 := Tryz.zeroValue0
  t3 := Tryz.underlying3
  a3 := Tryz.isAgg3
  z3 := Tryz.sizeOf3
  v3 := Tryz.zeroValue3
  t4 := Tryz.underlying4
  a4 := Tryz.isAgg4
  z4 := Tryz.sizeOf4
  v4 := Tryz.zeroValue4
  t22 := Tryz.underlying26
  a22 := Tryz.isAgg26
  z22 := Tryz.sizeOf26
  v22 := Tryz.zeroValue26
  t25 := Tryz.underlying90
  a25 := Tryz.isAgg90
  z25 := Tryz.sizeOf90
  v25 := Tryz.zeroValue90 }
end Go.Proofs
namespace Go.Proofs.YtjbafggnbfknfaaGreatDoor
open Go.RowKit Go.Sort Go.Shelf

set_option maxRecDepth 100000 in
theorem byNameG (x y : Pr) (w : World) : Calls Tryz.prog 66 #[.agg #[.string x.name, .int .i64 x.kind, .int .i64 x.num, .string x.word], .agg #[.string y.name, .int .i64 y.kind, .int .i64 y.num, .string y.word]] w fun e w' => e = .returned (.int .i64 (cmpN x y)) ∧ ∃ q os', w' = grow (w.drewN q) os' := by
  go_enter Tryz.func66, Tryz.ntmps66
  go_wp2_with (go_at_call 54; refine (strCmp _ _ _).mono ?_; rintro e w1 ⟨rfl, hw⟩; obtain rfl := hw.symm)
  go_ret
  refine ⟨rfl, ?_⟩
  simp only [alloc_eq_grow, grow_grow]
  exact ⟨0, _, rfl⟩
theorem cmpLaysR (blk off size : Nat) (w : World) : CmpLays Tryz.prog 66 #[] encR 4 cmpN blk off size w :=
  fun _ _ _ _ x y => byNameG x y _
theorem enters66 : ∀ args w, (callFunc 66 args).run Tryz.prog w = .ok (.enter 66 args) w := enters_of Tryz.func66 (by kernel_rfl) rfl
theorem encR_len (x : Pr) : (encR x).length = 4 := rfl
theorem encR_one (x : Pr) : ∀ v ∈ encR x, v.oneCell' = true := by
  intro v hv
  simp [encR] at hv
  rcases hv with rfl | rfl | rfl | rfl <;> rfl
theorem of_holdsR {B g cap : Nat} {w : World} {l : List Pr} {cur : Array Value} (hB : B ≤ g) (hblk : w.heap[g]? = some (.cells cur 42 (0, 0))) (hs : cur.size = cap * 4) (h1 : l.length ≤ cap) (h2 : cap ≤ maxLen) (hH : HoldsK encR 4 w g 0 l.toArray) : OwnK encR 42 4 B w (some ⟨g, 0, none⟩) cap l := by
  refine ⟨by rw [flat_lenR], Or.inr ⟨g, cap, cur, rfl, hB, hblk, h1, h2, hs, ?_⟩⟩
  apply List.ext_getElem?
  intro t
  by_cases ht : t < l.length * 4
  · have hc := (hH t (by simpa using ht)).1
    rw [Nat.zero_add, cell_of_row w g t cur 42 (0, 0) hblk] at hc
    rw [List.getElem?_take, if_pos ht, Array.getElem?_toList, hc]
    have hf : t < (flatK encR 4 l.toArray).size := by simpa using ht
    rw [Array.getElem?_toList, Array.getElem?_eq_getElem hf, getElem!_pos _ t hf]
    rfl
  · rw [List.getElem?_eq_none (by rw [List.length_take]; omega), List.getElem?_eq_none (by simp; omega)]
/-- A row of the call's own holds its list. -/
theorem own_holdsR {B g cap : Nat} {w : World} {d : List Pr} (h : OwnK encR 42 4 B w (some ⟨g, 0, none⟩) cap d) : HoldsK encR 4 w g 0 d.toArray ∧ g < w.heap.size := by
  obtain ⟨_, _, hv', _, hg, hH, _, _⟩ := holds_own (d := d.toArray) (enc := encR) (v := .slice (some ⟨g, 0, none⟩) d.length cap) (by intro e; cases e) (by simpa [OwnK] using h)
  injection hv' with h4 h5 h6
  injection h4 with h4
  injection h4 with h4
  subst h4
  exact ⟨hH, hg⟩
/-- What a sort of the row makes of the world: the row holds another list. -/
theorem own_world {B g cap : Nat} {w : World} {d d' : List Pr} (n : Nat) (os : Array Obj) (h : OwnK encR 42 4 B w (some ⟨g, 0, none⟩) cap d) (hl : d'.length = d.length) : OwnK encR 42 4 B (sortWorldK encR 4 w g 0 n d'.toArray os) (some ⟨g, 0, none⟩) cap d' ∧ Below B w (sortWorldK encR 4 w g 0 n d'.toArray os) := by
  obtain ⟨hH, hg⟩ := own_holdsR h
  rcases h.2 with ⟨h1, _⟩ | ⟨g', cap', cur, hv, hB, hblk, hc, hm, hs, _⟩
  · injection h1 with h1; cases h1
  injection hv with h1 h2 h3
  obtain rfl : g = g' := by injection h1 with h1; injection h1
  subst h3
  obtain ⟨a, _⟩ := holds_sortWorld (n := n) (os := os) (d' := d'.toArray) hg hH (by simpa using hl)
  obtain ⟨cur', hb', hsz'⟩ := shape_sortWorld (enc := encR) (k := 4) (n := n) (d := d'.toArray) (os := os) hblk
  exact ⟨of_holdsR hB hb' (by rw [hsz', hs]) (by rw [hl]; exact hc) hm a, (below_sortWorld w g n d'.toArray os hg).mono hB⟩

theorem at_bang {D : Array Pr} {j : Nat} (h : j < D.size) : D.toList[j]? = some D[j]! := by
  rw [getElem!_pos _ j h]; simp [h]
theorem swp_list (D : Array Pr) (j : Nat) : (Go.Sort.swp D (j + 1) j).toList = swp D.toList j D[j]! D[j + 1]! := by
  unfold Go.Sort.swp swp
  simp
theorem Out.mono {d d' : List Pr} {a b a' b' : Nat} (h : Out d d' a b) (h1 : a' ≤ a) (h2 : b ≤ b') : Out d d' a' b' := fun p hp => h p (by omega)
theorem Srt.mono {d : List Pr} {a b a' b' : Nat} (h : Srt d a b) (h1 : a ≤ a') (h2 : b' ≤ b) : Srt d a' b' := fun p q x y e1 e2 e3 hx hy => h p q x y (by omega) e2 (by omega) hx hy
theorem inner_spec {a i : Nat} : ∀ (j : Nat) (D : Array Pr), a ≤ j → j ≤ i → i < D.size → Ins D.toList a i j →
    Ste D.toList (insInner (ltOf cmpN) a j D).toList ∧ Out D.toList (insInner (ltOf cmpN) a j D).toList a (i + 1) ∧ Srt (insInner (ltOf cmpN) a j D).toList a (i + 1)
  | 0, D, ha, _, _, h => by
    rw [insInner_stop _ _ _ _ (Or.inl (Nat.zero_le _))]
    exact ⟨Ste.refl _, Out.refl _ _ _, h.done (Or.inl (by omega)) ha⟩
  | j + 1, D, ha, hj, hi, h => by
    have hx : D.toList[j]? = some D[j]! := at_bang (by omega)
    have hy : D.toList[j + 1]? = some D[j + 1]! := at_bang (by omega)
    by_cases e : a = j + 1
    · rw [insInner_stop _ _ _ _ (Or.inl (by omega))]
      exact ⟨Ste.refl _, Out.refl _ _ _, h.done (Or.inl e.symm) ha⟩
    · by_cases hc : cmpN D[j + 1]! D[j]! < 0
      · rw [insInner_go _ _ _ _ (by omega) (by exact decide_eq_true hc), Nat.add_sub_cancel]
        have hs := swp_list D j
        obtain ⟨i1, i2, i3⟩ := inner_spec (a := a) (i := i) j (Go.Sort.swp D (j + 1) j) (by omega) (by omega) (by rw [size_swp]; exact hi) (by rw [hs]; exact h.step hx hy hc (by omega))
        rw [hs] at i1 i2
        have hne : D[j]!.name ≠ D[j + 1]!.name := fun e => by
          have := cmpN_zero.2 e.symm
          omega
        exact ⟨(ste_swp hx hy hne).trans i1, (out_swp hx hy (by omega) (by omega)).trans i2, i3⟩
      · rw [insInner_stop _ _ _ _ (Or.inr (by exact decide_eq_false hc))]
        refine ⟨Ste.refl _, Out.refl _ _ _, h.done (Or.inr ⟨D[j]!, D[j + 1]!, hx, hy, ?_, by omega⟩) ha⟩
        have := cmpN_neg D[j]! D[j + 1]!
        omega
theorem outer_spec {a b : Nat} : ∀ (n i : Nat) (D : Array Pr), b - i = n → a < i → b ≤ D.size → Srt D.toList a i →
    Ste D.toList (insOuter (ltOf cmpN) a b i D).toList ∧ Out D.toList (insOuter (ltOf cmpN) a b i D).toList a b ∧ Srt (insOuter (ltOf cmpN) a b i D).toList a b
  | 0, i, D, hn, _, _, h => by
    rw [insOuter_stop _ _ _ _ _ (by omega)]
    exact ⟨Ste.refl _, Out.refl _ _ _, h.mono (Nat.le_refl _) (by omega)⟩
  | n + 1, i, D, hn, hi, hb, h => by
    rw [insOuter_go _ _ _ _ _ (by omega)]
    obtain ⟨j1, j2, j3⟩ := inner_spec (a := a) (i := i) i D (by omega) (Nat.le_refl _) (by omega) (Ins.start h)
    obtain ⟨k1, k2, k3⟩ := outer_spec (a := a) (b := b) n (i + 1) (insInner (ltOf cmpN) a i D) (by omega) (by omega) (by have := j1.1; simp at this; omega) j3
    exact ⟨j1.trans k1, (j2.mono (Nat.le_refl _) (by omega)).trans k2, k3⟩
theorem srt_one (d : List Pr) (a : Nat) : Srt d a (a + 1) := fun p q x y h1 h2 h3 => by omega
/-- slices.insertionSortCmpFunc over pairs, by their names. -/
theorem insSort (B g cap a b : Nat) (d : List Pr) (w : World) (h : OwnK encR 42 4 B w (some ⟨g, 0, none⟩) cap d) (hab : a ≤ b) (hb : b ≤ d.length) (hl : d.length < 4611686018427387904) :
    Calls Tryz.prog 152 #[.slice (some ⟨g, 0, none⟩) d.length cap, .int .i64 a, .int .i64 b, .func (.func 66) #[] #[]] w fun e w' => e = .returned (.tuple #[]) ∧ ∃ d', OwnK encR 42 4 B w' (some ⟨g, 0, none⟩) cap d' ∧ Ste d d' ∧ Out d d' a b ∧ Srt d' a b ∧ Below B w w' := by
  obtain ⟨hH, hg⟩ := own_holdsR h
  have hcon := AnyQ.insertionSortCmpFunc Tryz.insR 4 Tryz.isAgg42 Tryz.sizeOf42 encR encR_len encR_one cmpN 66 #[] g 0 cap a b d.toArray w enters66 (cmpLaysR g 0 d.toArray.size w) hH hg hab (by simpa using hb) (by simpa using hl)
  change Calls Tryz.prog 152 _ _ _ at hcon
  rw [show d.toArray.size = d.length by simp] at hcon
  refine hcon.mono fun e w' ⟨he, n, os, hw⟩ => ⟨he, ?_⟩
  obtain ⟨j1, j2, j3⟩ := outer_spec (a := a) (b := b) (b - (a + 1)) (a + 1) d.toArray rfl (by omega) (by simpa using hb) (srt_one _ _)
  subst hw
  unfold Sort.insertionSort
  generalize insOuter (ltOf cmpN) a b (a + 1) d.toArray = D at j1 j2 j3 ⊢
  obtain ⟨o1, o2⟩ := own_world (d' := D.toList) n os h (by simpa using j1.1)
  exact ⟨D.toList, by simpa using o1, by simpa using j1, by simpa using j2, j3, by simpa using o2⟩
end Go.Proofs.YtjbafggnbfknfaaGreatDoor
namespace Go.Proofs.YtjbafggnbfknfaaGreatDoor
open Go.RowKit Go.Sort Go.Shelf Go.Lib

/-- The first n of two runs have changed places. -/
def swR (D : Array Pr) (a b : Nat) : Nat → Array Pr
  | 0 => D
  | n + 1 => Go.Sort.swp (swR D a b n) (a + n) (b + n)
theorem size_swR (D : Array Pr) (a b : Nat) : ∀ n, (swR D a b n).size = D.size
  | 0 => rfl
  | n + 1 => by rw [swR, size_swp, size_swR D a b n]

set_option maxHeartbeats 4000000 in
set_option maxRecDepth 1000000 in
theorem swapRangeG {P : Program} (mixed : P.follows .mixedOrders = true) (F : P.funcs[180]? = some Tryz.f180) (k : Nat) (aE : ∀ w, (isAgg 42).run P w = .ok true w) (zE : ∀ w, (Go.sizeOf 42).run P w = .ok k w)
    (t26 : P.underlying 26 = some (TypeDesc.slice 42))
    (enc : Pr → List Value) (hk : ∀ x, (enc x).length = k) (h1 : ∀ x, ∀ v ∈ enc x, v.oneCell' = true) (fv : Value)
    (blk off cap a b n : Nat) (d : Array Pr) (w : World) (hH : HoldsK enc k w blk off d) (hblk : blk < w.heap.size) (ha : a + n ≤ d.size) (hb : b + n ≤ d.size) (hsz : d.size < 4611686018427387904) :
    Calls P 180 #[.slice (some ⟨blk, off, none⟩) d.size cap, .int .i64 a, .int .i64 b, .int .i64 n, fv] w fun e w' =>
      e = .returned (.tuple #[]) ∧ ∃ m, w' = sortWorldK enc k w blk off m (swR d a b n) #[] := by
  have u26 := run_underlying t26
  have HST : Hid (w = sortWorldK enc k w blk off 0 d #[]) := by show w = _; unfold sortWorldK; rw [grow_empty]; exact (putRowK_self enc k w blk off d hH).symm
  have HH : Hid (HoldsK enc k w blk off d) := hH
  have HK : Hid (∀ x, (enc x).length = k) := hk
  have H1 : Hid (∀ x, ∀ v ∈ enc x, v.oneCell' = true) := h1
  clear hH hk h1
  go_enter F, Tryz.ntmps180
  go_wp2
  go_loopg [10] n (fun g1 vi wr => ∃ (i m : Nat), vi = .int .i64 i ∧ i ≤ n ∧ n - i ≤ g1 ∧ Hid (wr = sortWorldK enc k w blk off m (swR d a b i) #[]))
  case atStart => exact ⟨0, 0, rfl, by omega, by omega, HST⟩
  case round =>
    obtain ⟨i, m, rfl, hin, hg1, HW⟩ := hrel
    by_cases hlt : i < n
    · have hltz : (i : Int) < (n : Int) := by omega
      have bnd : ∀ x, x < d.size → x * k + k ≤ d.size * k := fun x hx => by
        have := Nat.mul_le_mul_right k (show x + 1 ≤ d.size from hx); rwa [Nat.add_mul, Nat.one_mul] at this
      have hsj : (swR d a b i).size = d.size := size_swR d a b i
      have hHd : HoldsK enc k wr.drew blk off (swR d a b i) := by
        have : HoldsK enc k wr blk off (swR d a b i) := by rw [HW.out]; exact holdsK_sortWorldK_c enc k w blk off d _ _ _ HH.out hblk hsj
        exact this
      obtain ⟨xj, hxj⟩ : ∃ x, (swR d a b i)[b + i]! = x := ⟨_, rfl⟩
      obtain ⟨xp, hxp⟩ : ∃ x, (swR d a b i)[a + i]! = x := ⟨_, rfl⟩
      have lj2 : Sem.run P (loadCellsFrom ⟨blk, off + (b + i) * k, none⟩ 0 k #[]) wr.drew = .ok (enc xj).toArray wr.drew := by rw [← hxj]; exact run_loadCellsFrom_list P _ _ _ k (HK.out _) (HoldsK.cells hHd HK.out (by omega))
      have lp2 : Sem.run P (loadCellsFrom ⟨blk, off + (a + i) * k, none⟩ 0 k #[]) wr.drew = .ok (enc xp).toArray wr.drew := by rw [← hxp]; exact run_loadCellsFrom_list P _ _ _ k (HK.out _) (HoldsK.cells hHd HK.out (by omega))
      have s1 : Sem.run P (storeCells ⟨blk, off + (a + i) * k, none⟩ (enc xj) 0) wr.drew = .ok () (wr.drew.setCells blk (off + (a + i) * k) (enc xj)) := stores_of_holds P hHd ((a + i) * k) _ (by rw [HK.out, size_flatK, hsj]; exact bnd (a + i) (by omega)) (H1.out _)
      have s2 : Sem.run P (storeCells ⟨blk, off + (b + i) * k, none⟩ (enc xp) 0) (wr.drew.setCells blk (off + (a + i) * k) (enc xj)) = .ok () ((wr.drew.setCells blk (off + (a + i) * k) (enc xj)).setCells blk (off + (b + i) * k) (enc xp)) :=
        stores_of_holds P (holds_setCells_c hHd ((a + i) * k) _ (by rw [HK.out, size_flatK, hsj]; exact bnd (a + i) (by omega))) ((b + i) * k) _ (by rw [HK.out, size_setMany, size_flatK, hsj]; exact bnd (b + i) (by omega)) (H1.out _)
      have hsJ : (enc xj).length = k := HK.out _
      have hsP : (enc xp).length = k := HK.out _
      have XX : Hid ((swR d a b i)[b + i]! = xj ∧ (swR d a b i)[a + i]! = xp ∧ (swR d a b i).size = d.size) := ⟨hxj, hxp, hsj⟩
      have wa : IntKind.i64.wrap ((a : Int) + (i : Int)) = (a : Int) + (i : Int) := by rw [IntKind.wrap_i64]; omega
      have wb : IntKind.i64.wrap ((b : Int) + (i : Int)) = (b : Int) + (i : Int) := by rw [IntKind.wrap_i64]; omega
      have ia : (a : Int) + (i : Int) < (d.size : Int) := by omega
      have ib : (b : Int) + (i : Int) < (d.size : Int) := by omega
      have pa : (0 : Int) ≤ (a : Int) + (i : Int) := by omega
      have pb : (0 : Int) ≤ (b : Int) + (i : Int) := by omega
      have ea : ((a : Int) + (i : Int)).toNat = a + i := by omega
      have eb : ((b : Int) + (i : Int)).toNat = b + i := by omega
      clear hHd bnd hxj hxp hsj
      obtain ⟨cJ, hcJ⟩ : ∃ c, c = enc xj := ⟨_, rfl⟩
      obtain ⟨cP, hcP⟩ : ∃ c, c = enc xp := ⟨_, rfl⟩
      rw [← hcJ] at s1 lj2 hsJ
      rw [← hcP] at lp2 hsP
      rw [← hcJ, ← hcP] at s2
      have CC : Hid (cJ = enc xj ∧ cP = enc xp) := ⟨hcJ, hcP⟩
      clear hcJ hcP
      go_wp2_with fail
      go_big_region_o
      all_goals go_wp2
      go_roundg (n - (i + 1))
      case measure => omega
      case rel =>
        refine ⟨i + 1, m + 1, by go_num, by omega, by omega, (show Hid _ from ?_)⟩
        show _ = _
        rw [CC.out.1, CC.out.2, HW.out, ← XX.out.1, ← XX.out.2.1]
        exact sortWorldK_swp_c enc k w blk off HK.out m _ #[] hblk (a + i) (b + i) (by rw [XX.out.2.2]; omega) (by rw [XX.out.2.2]; omega)
    · obtain rfl : i = n := by omega
      have hltz : ¬ (i : Int) < (i : Int) := by omega
      go_wp2
      go_end0
      exact ⟨rfl, m, HW.out⟩
theorem swR_blocks (P M S : List Pr) : ∀ (n : Nat) (X Y : List Pr), X.length = n → Y.length = n →
    (swR (P ++ X ++ M ++ Y ++ S).toArray P.length (P.length + X.length + M.length) n).toList = P ++ Y ++ M ++ X ++ S
  | 0, X, Y, hX, hY => by
    obtain rfl := List.length_eq_zero_iff.1 hX
    obtain rfl := List.length_eq_zero_iff.1 hY
    simp [swR]
  | n + 1, X, Y, hX, hY => by
    obtain ⟨X', x, rfl⟩ : ∃ X' x, X = X' ++ [x] := ⟨X.dropLast, X.getLast (by intro e; rw [e] at hX; cases hX), (List.dropLast_concat_getLast _).symm⟩
    obtain ⟨Y', y, rfl⟩ : ∃ Y' y, Y = Y' ++ [y] := ⟨Y.dropLast, Y.getLast (by intro e; rw [e] at hY; cases hY), (List.dropLast_concat_getLast _).symm⟩
    have hX' : X'.length = n := by simpa using hX
    have hY' : Y'.length = n := by simpa using hY
    have ih := swR_blocks P ([x] ++ M) ([y] ++ S) n X' Y' hX' hY'
    have e1 : P ++ X' ++ ([x] ++ M) ++ Y' ++ ([y] ++ S) = P ++ (X' ++ [x]) ++ M ++ (Y' ++ [y]) ++ S := by simp
    have e2 : P.length + X'.length + ([x] ++ M).length = P.length + (X' ++ [x]).length + M.length := by simp; omega
    rw [e1, e2] at ih
    rw [swR]
    generalize swR (P ++ (X' ++ [x]) ++ M ++ (Y' ++ [y]) ++ S).toArray P.length (P.length + (X' ++ [x]).length + M.length) n = D at ih ⊢
    have hD : D = (P ++ Y' ++ ([x] ++ M) ++ X' ++ ([y] ++ S)).toArray := by rw [← ih]
    have gx : D[P.length + n]! = x := by
      rw [hD, ← hY']
      simp
    have gy : D[P.length + (X' ++ [x]).length + M.length + n]! = y := by
      rw [hD]
      have e : P.length + (X' ++ [x]).length + M.length + n = (P ++ Y' ++ ([x] ++ M) ++ X').length + 0 := by simp; omega
      rw [e]
      simp
    unfold Go.Sort.swp
    rw [gx, gy, hD]
    have e : P.length + (X' ++ [x]).length + M.length + n = (P ++ Y' ++ ([y] ++ M) ++ X').length := by simp; omega
    simp only [Array.toList_setIfInBounds]
    have f1 : (P ++ Y' ++ ([x] ++ M) ++ X' ++ ([y] ++ S)).set (P.length + n) y = P ++ Y' ++ ([y] ++ M) ++ X' ++ ([y] ++ S) := by
      have : P.length + n = (P ++ Y').length := by simp; omega
      rw [this]
      simp
    rw [f1, e]
    simp
/-- slices.swapRangeCmpFunc over pairs. -/
theorem swapRange (B g cap a b n : Nat) (fv : Value) (d : List Pr) (w : World) (h : OwnK encR 42 4 B w (some ⟨g, 0, none⟩) cap d) (ha : a + n ≤ d.length) (hb : b + n ≤ d.length) (hl : d.length < 4611686018427387904) :
    Calls Tryz.prog 180 #[.slice (some ⟨g, 0, none⟩) d.length cap, .int .i64 a, .int .i64 b, .int .i64 n, fv] w fun e w' => e = .returned (.tuple #[]) ∧ OwnK encR 42 4 B w' (some ⟨g, 0, none⟩) cap (swR d.toArray a b n).toList ∧ Below B w w' := by
  obtain ⟨hH, hg⟩ := own_holdsR h
  have hcon := swapRangeG (P := Tryz.prog) (by kernel_rfl) Tryz.func180 4 Tryz.isAgg42 Tryz.sizeOf42 Tryz.underlying26 encR encR_len encR_one fv g 0 cap a b n d.toArray w hH hg (by simpa using ha) (by simpa using hb) (by simpa using hl)
  rw [show d.toArray.size = d.length by simp] at hcon
  refine hcon.mono fun e w' ⟨he, m, hw⟩ => ⟨he, ?_⟩
  subst hw
  have := own_world (d' := (swR d.toArray a b n).toList) m #[] h (by simp [size_swR])
  simpa using this
end Go.Proofs.YtjbafggnbfknfaaGreatDoor

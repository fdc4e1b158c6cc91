/- Contracts of the Go library for slices.Sort and slices.Compact over numbers and words, laid at this program. -/
import Derived.Shelf.Slices.CompactI
import Derived.Shelf.Slices.CompactS
import Derived.Shelf.Sort.Plain
import Derived.Shelf.Slices.In.SortNone
import Derived.Test.YtedakipjfpdajaaGreatDoorProg
import Derived.Test.YtedakipjfpdajaaGreatDoorPlain
import Derived.Lib.SlicesCompact
import Derived.Sort.Walk0
namespace Go.Proofs
open Go.Shelf
def Tryz.sortI_ren : Go.Shelf.Ren := ⟨fun | 189 => 132 | 125 => 65 | 257 => 148 | 128 => 112 | 129 => 113 | 294 => 154 | 295 => 155 | 296 => 156 | 297 => 157 | 298 => 158 | 299 => 159 | 216 => 160 | 300 => 161 | 301 => 162 | 328 => 173 | 329 => 140 | 330 => 141 | 331 => 174 | 332 => 175 | 215 => 95 | 343 => 181 | n => n, fun | 28 => 22 | 3 => 3 | 46 => 89 | 0 => 0 | 51 => 129 | 53 => 131 | 4 => 4 | 183 => 123 | 182 => 122 | 131 => 70 | 5 => 5 | 9 => 9 | 218 => 144 | 222 => 148 | 228 => 159 | 229 => 135 | n => n, fun | n => n⟩
theorem Tryz.sortI : Go.Proofs.Lays.n189 Tryz.prog Tryz.sortI_ren := {
  mixed := by kernel_rfl
  f125 := Tryz.func65.trans (congrArg some (by kernel_rfl))
  f128 := Tryz.func112.trans (congrArg some (by kernel_rfl))
  f129 := Tryz.func113.trans (congrArg some (by kernel_rfl))
  f189 := Tryz.func132.trans (congrArg some (by kernel_rfl))
  f215 := Tryz.func95.trans (congrArg some (by kernel_rfl))
  f216 := Tryz.func160.trans (congrArg some (by kernel_rfl))
  f257 := Tryz.func148.trans (congrArg some (by kernel_rfl))
  f294 := Tryz.func154.trans (congrArg some (by kernel_rfl))
  f295 := Tryz.func155.trans (congrArg some (by kernel_rfl))
  f296 := Tryz.func156.trans (congrArg some (by kernel_rfl))
  f297 := Tryz.func157.trans (congrArg some (by kernel_rfl))
  f298 := Tryz.func158.trans (congrArg some (by kernel_rfl))
  f299 := Tryz.func159.trans (congrArg some (by kernel_rfl))
  f300 := Tryz.func161.trans (congrArg some (by kernel_rfl))
  f301 := Tryz.func162.trans (congrArg some (by kernel_rfl))
  f328 := Tryz.func173.trans (congrArg some (by kernel_rfl))
  f329 := Tryz.func140.trans (congrArg some (by kernel_rfl))
  f330 := Tryz.func141.trans (congrArg some (by kernel_rfl))
  f331 := Tryz.func174.trans (congrArg some (by kernel_rfl))
  f332 := Tryz.func175.trans (congrArg some (by kernel_rfl))
  f343 := Tryz.func181.trans (congrArg some (by kernel_rfl))
  t0 := Tryz.underlying0
  a0 := Tryz.isAgg0
  z0 := Tryz.sizeOf0
  v0 := Tryz.zeroValue0
  t3 := Tryz.underlying3
  a3 := Tryz.isAgg3
  z3 := Tryz.sizeOf3
  v3 := Tryz.zeroValue3
  t4 := Tryz.underlying4
  a4 := Tryz.isAgg4
  z4 := Tryz.sizeOf4
  v4 := Tryz.zeroValue4
  t5 := Tryz.underlying5
  a5 := Tryz.isAgg5
  z5 := Tryz.sizeOf5
  v5 := Tryz.zeroValue5
  t9 := Tryz.underlying9
  a9 := Tryz.isAgg9
  z9 := Tryz.sizeOf9
  v9 := Tryz.zeroValue9
  t28 := Tryz.underlying22
  a28 := Tryz.isAgg22
  z28 := Tryz.sizeOf22
  v28 := Tryz.zeroValue22
  t46 := Tryz.underlying89
  a46 := Tryz.isAgg89
  z46 := Tryz.sizeOf89
  v46 := Tryz.zeroValue89
  t51 := Tryz.underlying129
  a51 := Tryz.isAgg129
  z51 := Tryz.sizeOf129
  v51 := Tryz.zeroValue129
  t53 := Tryz.underlying131
  a53 := Tryz.isAgg131
  z53 := Tryz.sizeOf131
  v53 := Tryz.zeroValue131
  t131 := Tryz.underlying70
  a131 := Tryz.isAgg70
  z131 := Tryz.sizeOf70
  v131 := Tryz.zeroValue70
  t182 := Tryz.underlying122
  a182 := Tryz.isAgg122
  z182 := Tryz.sizeOf122
  v182 := Tryz.zeroValue122
  t183 := Tryz.underlying123
  a183 := Tryz.isAgg123
  z183 := Tryz.sizeOf123
  v183 := Tryz.zeroValue123
  t218 := Tryz.underlying144
  a218 := Tryz.isAgg144
  z218 := Tryz.sizeOf144
  v218 := Tryz.zeroValue144
  t222 := Tryz.underlying148
  a222 := Tryz.isAgg148
  z222 := Tryz.sizeOf148
  v222 := Tryz.zeroValue148
  t228 := Tryz.underlying159
  a228 := Tryz.isAgg159
  z228 := Tryz.sizeOf159
  v228 := Tryz.zeroValue159
  t229 := Tryz.underlying135
  a229 := Tryz.isAgg135
  z229 := Tryz.sizeOf135
  v229 := Tryz.zeroValue135 }
def Tryz.sortS_ren : Go.Shelf.Ren := ⟨fun | 190 => 135 | 125 => 65 | 258 => 150 | 128 => 112 | 129 => 113 | 302 => 163 | 303 => 164 | 304 => 165 | 305 => 166 | 306 => 167 | 307 => 168 | 308 => 169 | 309 => 170 | 310 => 171 | 333 => 176 | 329 => 140 | 330 => 141 | 334 => 177 | 335 => 178 | 336 => 179 | 344 => 182 | n => n, fun | 31 => 23 | 9 => 9 | 3 => 3 | 46 => 89 | 0 => 0 | 51 => 129 | 53 => 131 | 4 => 4 | 183 => 123 | 182 => 122 | 131 => 70 | 5 => 5 | 218 => 144 | 222 => 148 | 228 => 159 | 229 => 135 | n => n, fun | n => n⟩
theorem Tryz.sortS : Go.Proofs.Lays.n190 Tryz.prog Tryz.sortS_ren := {
  mixed := by kernel_rfl
  f125 := Tryz.func65.trans (congrArg some (by kernel_rfl))
  f128 := Tryz.func112.trans (congrArg some (by kernel_rfl))
  f129 := Tryz.func113.trans (congrArg some (by kernel_rfl))
  f190 := Tryz.func135.trans (congrArg some (by kernel_rfl))
  f258 := Tryz.func150.trans (congrArg some (by kernel_rfl))
  f302 := Tryz.func163.trans (congrArg some (by kernel_rfl))
  f303 := Tryz.func164.trans (congrArg some (by kernel_rfl))
  f304 := Tryz.func165.trans (congrArg some (by kernel_rfl))
  f305 := Tryz.func166.trans (congrArg some (by kernel_rfl))
  f306 := Tryz.func167.trans (congrArg some (by kernel_rfl))
  f307 := Tryz.func168.trans (congrArg some (by kernel_rfl))
  f308 := Tryz.func169.trans (congrArg some (by kernel_rfl))
  f309 := Tryz.func170.trans (congrArg some (by kernel_rfl))
  f310 := Tryz.func171.trans (congrArg some (by kernel_rfl))
  f329 := Tryz.func140.trans (congrArg some (by kernel_rfl))
  f330 := Tryz.func141.trans (congrArg some (by kernel_rfl))
  f333 := Tryz.func176.trans (congrArg some (by kernel_rfl))
  f334 := Tryz.func177.trans (congrArg some (by kernel_rfl))
  f335 := Tryz.func178.trans (congrArg some (by kernel_rfl))
  f336 := Tryz.func179.trans (congrArg some (by kernel_rfl))
  f344 := Tryz.func182.trans (congrArg some (by kernel_rfl))
  t0 := Tryz.underlying0
  a0 := Tryz.isAgg0
  z0 := Tryz.sizeOf0
  v0 := Tryz.zeroValue0
  t3 := Tryz.underlying3
  a3 := Tryz.isAgg3
  z3 := Tryz.sizeOf3
  v3 := Tryz.zeroValue3
  t4 := Tryz.underlying4
  a4 := Tryz.isAgg4
  z4 := Tryz.sizeOf4
  v4 := Tryz.zeroValue4
  t5 := Tryz.underlying5
  a5 := Tryz.isAgg5
  z5 := Tryz.sizeOf5
  v5 := Tryz.zeroValue5
  t9 := Tryz.underlying9
  a9 := Tryz.isAgg9
  z9 := Tryz.sizeOf9
  v9 := Tryz.zeroValue9
  t31 := Tryz.underlying23
  a31 := Tryz.isAgg23
  z31 := Tryz.sizeOf23
  v31 := Tryz.zeroValue23
  t46 := Tryz.underlying89
  a46 := Tryz.isAgg89
  z46 := Tryz.sizeOf89
  v46 := Tryz.zeroValue89
  t51 := Tryz.underlying129
  a51 := Tryz.isAgg129
  z51 := Tryz.sizeOf129
  v51 := Tryz.zeroValue129
  t53 := Tryz.underlying131
  a53 := Tryz.isAgg131
  z53 := Tryz.sizeOf131
  v53 := Tryz.zeroValue131
  t131 := Tryz.underlying70
  a131 := Tryz.isAgg70
  z131 := Tryz.sizeOf70
  v131 := Tryz.zeroValue70
  t182 := Tryz.underlying122
  a182 := Tryz.isAgg122
  z182 := Tryz.sizeOf122
  v182 := Tryz.zeroValue122
  t183 := Tryz.underlying123
  a183 := Tryz.isAgg123
  z183 := Tryz.sizeOf123
  v183 := Tryz.zeroValue123
  t218 := Tryz.underlying144
  a218 := Tryz.isAgg144
  z218 := Tryz.sizeOf144
  v218 := Tryz.zeroValue144
  t222 := Tryz.underlying148
  a222 := Tryz.isAgg148
  z222 := Tryz.sizeOf148
  v222 := Tryz.zeroValue148
  t228 := Tryz.underlying159
  a228 := Tryz.isAgg159
  z228 := Tryz.sizeOf159
  v228 := Tryz.zeroValue159
  t229 := Tryz.underlying135
  a229 := Tryz.isAgg135
  z229 := Tryz.sizeOf135
  v229 := Tryz.zeroValue135 }
def Tryz.cptI_ren : Go.Shelf.Ren := ⟨fun | 20 => 96 | n => n, fun | 22 => 22 | 3 => 3 | 4 => 4 | 0 => 0 | n => n, fun | n => n⟩
theorem Tryz.cptI : Go.Proofs.Lays2.n20 Tryz.prog Tryz.cptI_ren := {
  mixed := by kernel_rfl
  f20 := Tryz.func96.trans (congrArg some (by kernel_rfl))
  t0 := Tryz.underlying0
  a0 := Tryz.isAgg0
  z0 := Tryz.sizeOf0
  v0 := Tryz.zeroValue0
  t3 := Tryz.underlying3
  a3 := Tryz.isAgg3
  z3 := Tryz.sizeOf3
  v3 := Tryz.zeroValue3
  t4 := Tryz.underlying4
  a4 := Tryz.isAgg4
  z4 := Tryz.sizeOf4
  v4 := Tryz.zeroValue4
  t22 := Tryz.underlying22
  a22 := Tryz.isAgg22
  z22 := Tryz.sizeOf22
  v22 := Tryz.zeroValue22
  i3 := by kernel_rfl }
def Tryz.cptS_ren : Go.Shelf.Ren := ⟨fun | 194 => 99 | n => n, fun | 31 => 23 | 9 => 9 | 3 => 3 | 4 => 4 | 0 => 0 | n => n, fun | n => n⟩
theorem Tryz.cptS : Go.Proofs.Lays.n194 Tryz.prog Tryz.cptS_ren := {
  mixed := by kernel_rfl
  f194 := Tryz.func99.trans (congrArg some (by kernel_rfl))
  t0 := Tryz.underlying0
  a0 := Tryz.isAgg0
  z0 := Tryz.sizeOf0
  v0 := Tryz.zeroValue0
  t3 := Tryz.underlying3
  a3 := Tryz.isAgg3
  z3 := Tryz.sizeOf3
  v3 := Tryz.zeroValue3
  t4 := Tryz.underlying4
  a4 := Tryz.isAgg4
  z4 := Tryz.sizeOf4
  v4 := Tryz.zeroValue4
  t9 := Tryz.underlying9
  a9 := Tryz.isAgg9
  z9 := Tryz.sizeOf9
  v9 := Tryz.zeroValue9
  t31 := Tryz.underlying23
  a31 := Tryz.isAgg23
  z31 := Tryz.sizeOf23
  v31 := Tryz.zeroValue23 }
end Go.Proofs
namespace Go.Proofs.YtedakipjfpdajaaGreatDoor

theorem once_of {α : Type} [Inhabited α] [DecidableEq α] (le lt : α → α → Prop) (hr : ∀ a, le a a) (ha : ∀ a b, le a b → le b a → a = b) (hl : ∀ a b, le a b → a ≠ b → lt a b) (zs : List α) (hs : zs.Pairwise le) :
    (∀ x, x ∈ Lib.compact zs ↔ x ∈ zs) ∧ (Lib.compact zs).Pairwise lt := by
  have hget : ∀ j (h : j < zs.length), zs.toArray[j]! = zs[j] := fun j h => by simp [h]
  have hle : ∀ i j (hi : i < zs.length) (hj : j < zs.length), i ≤ j → le zs[i] zs[j] := fun i j hi hj hij => by
    by_cases e : i = j
    · subst e; exact hr _
    · exact List.pairwise_iff_getElem.1 hs i j hi hj (by omega)
  have key : ∀ m, m ≤ zs.length → (∀ x, x ∈ Lib.compactUpTo zs.toArray m ↔ x ∈ zs.take m) ∧ (Lib.compactUpTo zs.toArray m).Pairwise lt := by
    intro m
    induction m with
    | zero => intro _; simp [Lib.compactUpTo]
    | succ m ih =>
      intro hm
      obtain ⟨i1, i2⟩ := ih (by omega)
      have hml : m < zs.length := by omega
      have ht : zs.take (m + 1) = zs.take m ++ [zs[m]] := List.take_succ_eq_append_getElem hml
      rw [Lib.compactUpTo_succ, hget m hml]
      cases hk : Lib.keeps zs.toArray m with
      | true =>
        rw [if_pos rfl]
        refine ⟨fun x => by rw [ht, List.mem_append, List.mem_append, i1], List.pairwise_append.2 ⟨i2, List.pairwise_singleton _ _, fun x hx y hy => ?_⟩⟩
        obtain rfl : y = zs[m] := by simpa using hy
        rw [i1] at hx
        obtain ⟨i, hi, rfl⟩ := List.mem_take_iff_getElem.1 hx
        have him : i < m := by omega
        refine hl _ _ (hle i m (by omega) hml (by omega)) fun e => ?_
        unfold Lib.keeps at hk
        simp only [decide_eq_true_eq] at hk
        rcases hk with hk | hk
        · omega
        · rw [hget m hml, hget (m - 1) (by omega)] at hk
          apply hk
          have h1 := hle i (m - 1) (by omega) (by omega) (by omega)
          have h2 := hle (m - 1) m (by omega) hml (by omega)
          rw [e] at h1
          exact ha _ _ h1 h2
      | false =>
        rw [if_neg (by simp), List.append_nil]
        refine ⟨fun x => ?_, i2⟩
        rw [i1, ht, List.mem_append]
        refine ⟨Or.inl, fun h => ?_⟩
        rcases h with h | h
        · exact h
        · obtain rfl : x = zs[m] := by simpa using h
          unfold Lib.keeps at hk
          simp only [decide_eq_false_iff_not, not_or, Classical.not_not] at hk
          rw [hget m hml, hget (m - 1) (by omega)] at hk
          rw [hk.2]
          exact List.mem_take_iff_getElem.2 ⟨m - 1, by omega, rfl⟩
  have := key zs.length (Nat.le_refl _)
  rw [List.take_length] at this
  exact this
theorem once_len {α : Type} [Inhabited α] [DecidableEq α] (zs : List α) : (Lib.compact zs).length ≤ zs.length := by
  unfold Lib.compact Lib.compactUpTo
  rw [List.length_map]
  exact Nat.le_trans (List.length_filter_le _ _) (by simp)
/-- Numbers sorted, each once. -/
def onceI (l : List Int) : List Int := Lib.compact (l.mergeSort fun x y => decide (x ≤ y))
theorem onceI_spec (l : List Int) : (∀ x, x ∈ onceI l ↔ x ∈ l) ∧ (onceI l).Pairwise (· < ·) ∧ (onceI l).length ≤ l.length := by
  have h := List.pairwise_mergeSort (le := fun x y : Int => decide (x ≤ y)) (fun a b c h1 h2 => by simp only [decide_eq_true_eq] at *; omega) (fun a b => by simp only [Bool.or_eq_true, decide_eq_true_eq]; omega) l
  have hs : (l.mergeSort fun x y => decide (x ≤ y)).Pairwise (· ≤ ·) := h.imp fun {a b} hab => by simpa using hab
  have hp : (l.mergeSort fun x y => decide (x ≤ y)).Perm l := List.mergeSort_perm _ _
  obtain ⟨h1, h2⟩ := once_of (· ≤ ·) (· < ·) (fun a => Int.le_refl a) (fun a b h1 h2 => by omega) (fun a b h1 h2 => by omega) _ hs
  refine ⟨fun x => (h1 x).trans hp.mem_iff, h2, ?_⟩
  have := once_len (l.mergeSort fun x y => decide (x ≤ y))
  rw [hp.length_eq] at this
  exact this
/-- Words sorted, each once. -/
def onceS (l : List ByteArray) : List ByteArray := (Lib.compact ((l.map (·.data.toList)).mergeSort fun x y => decide (x ≤ y))).map fun s => ⟨s.toArray⟩
def ltS (a b : ByteArray) : Prop := cmpS a.data.toList b.data.toList < 0
theorem onceS_spec (l : List ByteArray) : (∀ x, x ∈ onceS l ↔ x ∈ l) ∧ (onceS l).Pairwise ltS ∧ (onceS l).length ≤ l.length := by
  have hless : ∀ a b : List UInt8, a ≤ b ↔ Op.bytesLess b a = false := fun a b => by
    rw [bytesLess_eq, decide_eq_false_iff_not]; exact Iff.rfl
  have h := List.pairwise_mergeSort (le := fun x y : List UInt8 => decide (x ≤ y)) (fun a b c h1 h2 => by
      simp only [decide_eq_true_eq, hless] at *
      cases hc : Op.bytesLess c a with
      | false => rfl
      | true =>
        cases hb : Op.bytesLess b c with
        | true => rw [less_trans _ _ _ hb hc] at h1; cases h1
        | false =>
          by_cases e : b = c
          · subst e; rw [h1] at hc; cases hc
          · rw [less_total _ _ hb e] at h2; cases h2) (fun a b => by
      simp only [Bool.or_eq_true, decide_eq_true_eq, hless]
      cases hc : Op.bytesLess b a with
      | false => exact Or.inl rfl
      | true => exact Or.inr (less_asymm _ _ hc)) (l.map (·.data.toList))
  have hs : ((l.map (·.data.toList)).mergeSort fun x y => decide (x ≤ y)).Pairwise (fun a b => Op.bytesLess b a = false) := h.imp fun {a b} hab => (hless a b).1 (by simpa using hab)
  have hp : ((l.map (·.data.toList)).mergeSort fun x y => decide (x ≤ y)).Perm (l.map (·.data.toList)) := List.mergeSort_perm _ _
  obtain ⟨h1, h2⟩ := once_of (fun a b : List UInt8 => Op.bytesLess b a = false) (fun a b => Op.bytesLess a b = true) (fun a => less_irrefl a) (fun a b h1 h2 => Classical.byContradiction fun e => by rw [less_total _ _ h2 e] at h1; cases h1) (fun a b h1 h2 => less_total _ _ h1 (fun e => h2 e.symm)) _ hs
  refine ⟨fun x => ?_, ?_, ?_⟩
  · unfold onceS
    rw [List.mem_map]
    constructor
    · rintro ⟨s, hs1, rfl⟩
      have := (hp.mem_iff).1 ((h1 s).1 hs1)
      obtain ⟨y, hy, rfl⟩ := List.mem_map.1 this
      exact hy
    · intro hx
      exact ⟨x.data.toList, (h1 _).2 ((hp.mem_iff).2 (List.mem_map.2 ⟨x, hx, rfl⟩)), rfl⟩
  · unfold onceS
    rw [List.pairwise_map]
    exact h2.imp fun {a b} hab => by unfold ltS; rw [cmpS_lt (by simpa using hab)]; decide
  · unfold onceS
    rw [List.length_map]
    have := once_len ((l.map (·.data.toList)).mergeSort fun x y => decide (x ≤ y))
    rw [hp.length_eq, List.length_map] at this
    exact this
end Go.Proofs.YtedakipjfpdajaaGreatDoor

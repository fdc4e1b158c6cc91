/- What the fixed calls of layer 9 come to, as plain data. -/
import Derived.Test.YtimklglliffpcaaGreatQCjAll
import Derived.Test.YtimklglliffpcaaGreatQZac
import Derived.Test.YtimklglliffpcaaGreatQZad
namespace Go.Proofs.YtimklglliffpcaaGreat
open Go.RowKit Go.Sort Go.Shelf

theorem onceI_of {l l' : List Int} (h1 : ∀ x, x ∈ l' ↔ x ∈ l) (h2 : l'.Pairwise (· < ·)) : onceI l = l' := by
  obtain ⟨m, s, _⟩ := onceI_spec l
  have nd : ∀ {k : List Int}, k.Pairwise (· < ·) → k.Nodup := fun h => h.imp fun {a b} hab e => by omega
  exact List.Perm.eq_of_pairwise (le := fun a b : Int => a < b) (fun a b _ _ h1 h2 => by omega) s h2 ((List.perm_ext_iff_of_nodup (nd s) (nd h2)).2 fun x => (m x).trans (h1 x).symm)
theorem ltS_asymm {a b : ByteArray} (h1 : ltS a b) (h2 : ltS b a) : False := by
  unfold ltS at *
  have := isCmp_B.neg a b
  unfold cmpB at this
  omega
theorem ltS_irrefl {a : ByteArray} (h : ltS a a) : False := ltS_asymm h h
theorem onceS_of {l l' : List ByteArray} (h1 : ∀ x, x ∈ l' ↔ x ∈ l) (h2 : l'.Pairwise ltS) : onceS l = l' := by
  obtain ⟨m, s, _⟩ := onceS_spec l
  have nd : ∀ {k : List ByteArray}, k.Pairwise ltS → k.Nodup := fun h => h.imp fun {a b} hab e => by subst e; exact ltS_irrefl hab
  exact List.Perm.eq_of_pairwise (le := ltS) (fun a b _ _ h1 h2 => (ltS_asymm h1 h2).elim) s h2 ((List.perm_ext_iff_of_nodup (nd s) (nd h2)).2 fun x => (m x).trans (h1 x).symm)
abbrev nmA : ByteArray := ⟨#[97]⟩
abbrev nmC : ByteArray := ⟨#[99]⟩
abbrev wX : ByteArray := ⟨#[120]⟩
abbrev wXY : ByteArray := ⟨#[120, 121]⟩
def T1 : Nd := .mk 1 nmA [3, 1, 5] [] 0 0 1 []
def T2 : Nd := .mk 3 nmA [] [] 2 9 1 []
def T3 : Nd := .mk 4 nmC [] [wX] 0 0 1 []
def T4 : Nd := .mk 1 nmA [3] [] 0 0 1 []
def T5 : Nd := .mk 3 nmA [] [] 5 3 1 []
def Ls1 : List Lt := [⟨1, nmA, [3, 1, 5], [], 0, 0, false⟩, ⟨3, nmA, [], [], 2, 9, false⟩, ⟨4, nmC, [], [wX], 0, 0, false⟩, ⟨1, nmA, [3], [], 0, 0, true⟩]
def Ls2 : List Lt := [⟨3, nmA, [], [], 5, 3, false⟩]
def P1 : Pd := ⟨1, nmA, [3, 5], [], 0, 0⟩
def P2 : Pd := ⟨4, nmC, [], [wX], 0, 0⟩
def P3 : Pd := ⟨1, nmA, [3], [], 0, 0⟩
theorem ok1 : okL Ls1 = true := by decide
theorem ok2 : okL Ls2 = true := by decide
theorem n315 : onceI [3, 1, 5] = [1, 3, 5] := onceI_of (by intro x; simp; omega) (by decide)
theorem n3 : onceI [3] = [3] := onceI_of (by intro x; simp) (by decide)
theorem n212 : onceI [2, 1, 2] = [1, 2] := onceI_of (by intro x; simp; omega) (by decide)
theorem n35 : onceI [3, 5] = [3, 5] := onceI_of (by intro x; simp) (by decide)
theorem sAC : ltS nmA nmC := by unfold ltS; decide
theorem posL1 : posL Ls1 = [⟨1, nmA, [3, 1, 5], [], 0, 0⟩, ⟨3, nmA, [], [], 2, 9⟩, P2] := rfl
theorem names1 : namesD Ls1 = [nmA, nmC] := by
  unfold namesD
  rw [posL1]
  refine onceS_of (fun x => ?_) (List.Pairwise.cons (fun y hy => by obtain rfl : y = nmC := (by simpa using hy); exact sAC) (List.pairwise_singleton _ _))
  simp [P2]
theorem grpA : grpD Ls1 nmA = [⟨1, nmA, [3, 1, 5], [], 0, 0⟩, ⟨3, nmA, [], [], 2, 9⟩] := by decide
theorem grpC : grpD Ls1 nmC = [P2] := by decide
theorem meetA : meetD (grpD Ls1 nmA) = some P1 := by
  rw [grpA]
  have h1 : normD ⟨1, nmA, [3, 1, 5], [], 0, 0⟩ = some ⟨1, nmA, [1, 3, 5], [], 0, 0⟩ := by
    rw [normD_1 (by decide) rfl, n315]
  have h2 : normD ⟨3, nmA, [], [], 2, 9⟩ = some ⟨3, nmA, [], [], 2, 9⟩ := by
    rw [normD_3 (by decide) rfl]; rfl
  simp only [meetD, meetGo, h1, h2]
  decide
theorem meetC : meetD (grpD Ls1 nmC) = some P2 := by
  rw [grpC]
  simp only [meetD, meetGo]
  rw [normD_4 (by decide) rfl]
  rfl
theorem pos1 : posD Ls1 = some [P1, P2] := by
  unfold posD
  rw [names1]
  simp only [posGo, meetA, meetC]
  rfl
theorem norm3 : normD P3 = some P3 := by
  show normD ⟨1, nmA, [3], [], 0, 0⟩ = _
  rw [normD_1 (by decide) rfl, n3]
  rfl
theorem norm1 : normD P1 = some P1 := by
  show normD ⟨1, nmA, [3, 5], [], 0, 0⟩ = _
  rw [normD_1 (by decide) rfl, n35]
  rfl
theorem norm2 : normD P2 = some P2 := by
  show normD ⟨4, nmC, [], [wX], 0, 0⟩ = _
  rw [normD_4 (by decide) rfl]
  rfl
theorem neg1 : negD Ls1 = [P3] := by
  have h : negL Ls1 = [P3] := by
    show [⟨1, nmA, [3], [], 0, 0⟩].filterMap normD = _
    simp only [List.filterMap_cons, List.filterMap_nil]
    rw [show normD ⟨1, nmA, [3], [], 0, 0⟩ = some P3 from norm3]
  unfold negD
  rw [h, ← srtD_of (List.Perm.refl _) (List.pairwise_singleton _ _)]
  rfl
theorem made1 : makeD Ls1 = ⟨false, [P1, P2], [P3]⟩ := by
  unfold makeD makeC
  rw [ok1, pos1, neg1]
  rfl
theorem made2 : makeD Ls2 = ⟨true, [], []⟩ := by
  have h1 : namesD Ls2 = [nmA] := by
    unfold namesD
    refine onceS_of (fun x => ?_) (List.pairwise_singleton _ _)
    show _ ↔ x ∈ [nmA]
    exact Iff.rfl
  have h2 : meetD (grpD Ls2 nmA) = none := by
    rw [show grpD Ls2 nmA = [⟨3, nmA, [], [], 5, 3⟩] by decide]
    simp only [meetD, meetGo]
    rw [normD_3 (by decide) rfl]
    rfl
  unfold makeD makeC posD
  rw [ok2, h1]
  simp only [posGo, h2]
  rfl
theorem errs1 : errC false [P1, P2] [P3] = 0 := by
  have h : goodC false [P1, P2] [P3] = true := by
    have a : ∀ k, k < 2 → risAt cmpA [P1, P2] k = true := fun k hk => by
      have hm : k = 0 ∨ k = 1 := by omega
      rcases hm with rfl | rfl
      · have : isNorm P1 = true := by unfold isNorm; rw [norm1]; simp
        simp [risAt, this]
      · have : isNorm P2 = true := by unfold isNorm; rw [norm2]; simp
        simp only [risAt]
        show (isNorm P2 && _) = true
        rw [this]
        decide
    have b : risAt cmpD [P3] 0 = true := by
      have : isNorm P3 = true := by unfold isNorm; rw [norm3]; simp
      simp [risAt, this]
    unfold goodC
    rw [if_neg (by simp), Bool.and_eq_true]
    refine ⟨?_, ?_⟩
    · unfold risB
      rw [List.all_eq_true]
      intro k hk
      exact a k (by simpa using hk)
    · unfold risB
      rw [List.all_eq_true]
      intro k hk
      have : k < 1 := by simpa using hk
      obtain rfl : k = 0 := by omega
      exact b
  unfold errC
  rw [h]
  rfl
def five : List Pr := [⟨nmA, 1, 5, ⟨#[]⟩⟩, ⟨nmC, 2, 0, wXY⟩]
theorem neqAC : (nmA.toList == nmC.toList) = false := by rw [ByteArray.toList_eq, ByteArray.toList_eq]; decide
theorem getA : getP nmA five = some ⟨nmA, 1, 5, ⟨#[]⟩⟩ := by simp [getP, five]
theorem getC : getP nmC five = some ⟨nmC, 2, 0, wXY⟩ := by
  show (if (nmA.toList == nmC.toList) = true then _ else getP nmC [⟨nmC, 2, 0, wXY⟩]) = _
  rw [neqAC]
  simp [getP]
theorem holds1 : holdsC false [P1, P2] [P3] five = true := by
  have h1 : holdsD five P1 = true := by
    unfold holdsD holdsB
    rw [show getP P1.attr five = some ⟨nmA, 1, 5, ⟨#[]⟩⟩ from getA]
    decide
  have h2 : holdsD five P2 = true := by
    unfold holdsD holdsB
    rw [show getP P2.attr five = some ⟨nmC, 2, 0, wXY⟩ from getC]
    have hpf : prefB wXY wX = true := by unfold prefB; rw [ByteArray.toList_eq, ByteArray.toList_eq]; decide
    have ht : toldB 4 [] [wX] 0 0 ⟨nmC, 2, 0, wXY⟩ = true := by simp [toldB, hpf]
    have hp : predB 4 nmC [] [wX] 0 0 = true := by decide
    have hc : chkV 2 0 wXY = 0 := by decide
    show (predB 4 nmC [] [wX] 0 0 && (decide (chkV 2 0 wXY = 0) && toldB 4 [] [wX] 0 0 ⟨nmC, 2, 0, wXY⟩)) = true
    rw [hp, ht, hc]
    rfl
  have h3 : holdsD five P3 = false := by
    unfold holdsD holdsB
    rw [show getP P3.attr five = some ⟨nmA, 1, 5, ⟨#[]⟩⟩ from getA]
    decide
  simp [holdsC, h1, h2, h3]
theorem meet2 : meetD [⟨3, nmA, [], [], 1, 5⟩, ⟨3, nmA, [], [], 5, 9⟩] = some ⟨1, nmA, [5], [], 0, 0⟩ := by
  have h1 : normD ⟨3, nmA, [], [], 1, 5⟩ = some ⟨3, nmA, [], [], 1, 5⟩ := by rw [normD_3 (by decide) rfl]; rfl
  have h2 : normD ⟨3, nmA, [], [], 5, 9⟩ = some ⟨3, nmA, [], [], 5, 9⟩ := by rw [normD_3 (by decide) rfl]; rfl
  simp only [meetD, meetGo, h1, h2]
  decide
theorem norm5 : normD ⟨1, nmA, [2, 1, 2], [], 0, 0⟩ = some ⟨1, nmA, [1, 2], [], 0, 0⟩ := by
  rw [normD_1 (by decide) rfl, n212]
theorem cmp1 : cmpD ⟨1, nmA, [5], [], 0, 0⟩ ⟨1, nmA, [1, 2], [], 0, 0⟩ = 1 := by decide
theorem exp1 : expE (joinT 4 [T1, T2]) 2 = 0 ∧ (expC (joinT 4 [T1, T2]) 2).length = 2 := by decide
end Go.Proofs.YtimklglliffpcaaGreat
namespace Go.Proofs.YtimklglliffpcaaGreat
open Go.RowKit Go.Sort

set_option maxHeartbeats 2000000 in
theorem range_any (attr : ByteArray) (lo hi : Int) (w : World) :
    Calls Tryz.prog 44 #[.string attr, .int .i64 lo, .int .i64 hi] w fun e w' => NewT w.heap.size w' (.mk 3 attr [] [] lo hi 1 []) e ∧ Below w.heap.size w w' := by
  have B0 := hide ((Below.refl w.heap.size w).alloc (Nat.le_refl _) (.cells #[.int .i64 0, .string ⟨#[]⟩, .slice none 0 0, .slice none 0 0, .int .i64 0, .int .i64 0, .int .i64 0, .slice none 0 0] 56))
  go_enter Tryz.func44, Tryz.ntmps44
  go_wp2_with (first
    | (go_at_call 96; refine (leaf_any _ _ _ _ _ _ _ _ _ _ _).mono ?_; rintro e w2 ⟨rfl, b2⟩; obtain ⟨z1, ⟨r0, r1, r2, r3, r4, r5, r6, r7⟩, rf⟩ := boxR (b2); have B2 := hide b2; clear b2))
  refine bodyPost_ret (v := .agg #[.int .i64 3, .string attr, .slice none 0 0, .slice none 0 0, .int .i64 lo, .int .i64 hi, .int .i64 1, .slice none 0 0]) (by simp [results, Tryz.results44, go_sem, *]) rfl ?_
  refine ⟨⟨⟨3, attr, none, 0, 0, none, 0, 0, lo, hi, 1, none, 0, 0⟩, rfl, ?_⟩, set8_below (below_sub (unhide B0) (unhide B2)) (Nat.le_refl _) _ _ _ _ _ _ _ _⟩
  exact NdFrom.make (ints := []) (words := []) (kids := []) (vs := []) (SlOf.none _) no_from (SlOf.none _) no_from (SlOf.none _) no_from rfl (fun j v x h => by simp at h)
set_option maxHeartbeats 2000000 in
theorem prefix_any (attr : ByteArray) (s : ByteArray) (w : World) :
    Calls Tryz.prog 46 #[.string attr, .string s] w fun e w' => NewT w.heap.size w' (.mk 4 attr [] [s] 0 0 1 []) e ∧ Below w.heap.size w w' := by
  have B0 := hide ((Below.refl w.heap.size w).alloc (Nat.le_refl _) (.cells #[.int .i64 0, .string ⟨#[]⟩, .slice none 0 0, .slice none 0 0, .int .i64 0, .int .i64 0, .int .i64 0, .slice none 0 0] 56))
  go_enter Tryz.func46, Tryz.ntmps46
  go_wp2_with (first
    | (go_at_call 96; refine (leaf_any _ _ _ _ _ _ _ _ _ _ _).mono ?_; rintro e w2 ⟨rfl, b2⟩; obtain ⟨z1, ⟨r0, r1, r2, r3, r4, r5, r6, r7⟩, rf⟩ := boxR (below_sub ((Below.refl _ _).alloc (Nat.le_refl _) _) b2); have B2 := hide b2; clear b2))
  refine bodyPost_ret (v := .agg #[.int .i64 4, .string attr, .slice none 0 0, .slice (some ⟨w.heap.size + 1, 0, none⟩) 1 1, .int .i64 0, .int .i64 0, .int .i64 1, .slice none 0 0]) (by simp [results, Tryz.results46, go_sem, *]) rfl ?_
  have s2 := (unhide B2).size
  simp at s2
  have hcell : ((w.alloc (.cells #[.int .i64 0, .string ⟨#[]⟩, .slice none 0 0, .slice none 0 0, .int .i64 0, .int .i64 0, .int .i64 0, .slice none 0 0] 56)).alloc (.cells #[.string s] 9)).cell? ⟨w.heap.size + 1, 0, none⟩ = some (.string s) := by go_simp
  have hw1 : SlOf encS 1 ((w.alloc (.cells #[.int .i64 0, .string ⟨#[]⟩, .slice none 0 0, .slice none 0 0, .int .i64 0, .int .i64 0, .int .i64 0, .slice none 0 0] 56)).alloc (.cells #[.string s] 9)) (some ⟨w.heap.size + 1, 0, none⟩) 1 [s] := ⟨(fun h => by cases h), Nat.le_refl _, (by unfold maxLen; omega), LsOf.one (by simp) (fun c hc => by
    have h0 : c = 0 := (by omega)
    rw [h0]; exact hcell)⟩
  have f1 : ∀ a : Addr, some (⟨w.heap.size + 1, 0, none⟩ : Addr) = some a → w.heap.size + 1 ≤ a.block := fun a e => by cases e; exact Nat.le_refl _
  refine ⟨⟨⟨4, attr, none, 0, 0, some ⟨w.heap.size + 1, 0, none⟩, 1, 1, 0, 0, 1, none, 0, 0⟩, rfl, ?_⟩, set8_below (below_sub ((unhide B0).alloc (by simp) _) (unhide B2)) (Nat.le_refl _) _ _ _ _ _ _ _ _⟩
  exact (NdFrom.make (kids := []) (vs := []) (SlOf.none _) no_from (hw1.up f1 ((SameUp.of (unhide B2)).trans (set8_up (B := w.heap.size + 1) (g := w.heap.size) _ (Nat.lt_succ_self _) _ _ _ _ _ _ _ _))) f1 (SlOf.none _) no_from rfl (fun j v x h => by simp at h)).mono (Nat.le_succ _)
end Go.Proofs.YtimklglliffpcaaGreat
namespace Go.Proofs.YtimklglliffpcaaGreat
open Go.RowKit Go.Sort Go.Shelf

/-- A row whose cells are told one by one. -/
theorem rowM {α : Type} [Inhabited α] {enc : α → List Value} {k : Nat} {w : World} {M : Nat} {cur : Array Value} {T : TypeId} (l : List α) (n : Nat) (h : w.heap[M]? = some (.cells cur T (0, 0))) (hf : (flatK enc k l.toArray).toList = cur.toList) (hl : l.length = n) (hm : n ≤ maxLen) : SlOf enc k w (some ⟨M, 0, none⟩) n l := by
  subst hl
  refine ⟨(fun e => by cases e), Nat.le_refl _, hm, fun _ => ⟨M, 0, rfl, (Array.getElem?_eq_some_iff.1 h).1, fun j u hj => ?_⟩⟩
  rw [hf] at hj
  rw [Nat.zero_add]
  unfold World.cell?
  simpa [h] using hj
def Nv.pv (v : Nv) : Pv := ⟨v.kind, v.attr, v.qi, v.ni, v.ci, v.qw, v.nw, v.cw, v.lo, v.hi⟩
def Nv.lv (v : Nv) (b : Bool) : Lv := ⟨v.kind, v.attr, v.qi, v.ni, v.ci, v.qw, v.nw, v.cw, v.lo, v.hi, b⟩
theorem leaf_lit {w : World} {v : Nv} {kind : Int} {attr : ByteArray} {ints : List Int} {words : List ByteArray} {lo hi op : Int} {kids : List Nd} (h : NdIn w v (.mk kind attr ints words lo hi op kids)) (b : Bool) : LitIn w (v.lv b) ⟨kind, attr, ints, words, lo, hi, b⟩ := by
  obtain ⟨qi, ci, qw, cw, qk, ck, rfl, h1, h2, _⟩ := h.parts
  exact ⟨rfl, rfl, rfl, rfl, rfl, rfl, rfl, h1, h2⟩
theorem leaf_pd {w : World} {v : Nv} {kind : Int} {attr : ByteArray} {ints : List Int} {words : List ByteArray} {lo hi op : Int} {kids : List Nd} (h : NdIn w v (.mk kind attr ints words lo hi op kids)) : PdIn w v.pv ⟨kind, attr, ints, words, lo, hi⟩ := by
  obtain ⟨qi, ci, qw, cw, qk, ck, rfl, h1, h2, _⟩ := h.parts
  exact ⟨rfl, rfl, rfl, rfl, rfl, rfl, h1, h2⟩
set_option maxHeartbeats 1000000 in
set_option maxRecDepth 100000 in
/-- The law's lit. -/
theorem litV (v : Nv) (b : Bool) (w : World) : Calls Tryz.prog 45 #[.agg #[.int .i64 v.kind, .string v.attr, .slice v.qi v.ni v.ci, .slice v.qw v.nw v.cw, .int .i64 v.lo, .int .i64 v.hi, .int .i64 v.op, .slice v.qk v.nk v.ck], .bool b] w fun e w' => e = .returned (.agg #[.int .i64 v.kind, .string v.attr, .slice v.qi v.ni v.ci, .slice v.qw v.nw v.cw, .int .i64 v.lo, .int .i64 v.hi, .bool b]) ∧ Below w.heap.size w w' := by
  obtain ⟨X, HX⟩ : ∃ X, (w.alloc (.cells #[.int .i64 v.kind, .string v.attr, .slice v.qi v.ni v.ci, .slice v.qw v.nw v.cw, .int .i64 v.lo, .int .i64 v.hi, .int .i64 v.op, .slice v.qk v.nk v.ck] 56)).alloc (.cells #[.int .i64 0, .string ⟨#[]⟩, .slice none 0 0, .slice none 0 0, .int .i64 0, .int .i64 0, .bool false] 64) = X := ⟨_, rfl⟩
  obtain ⟨hX0, hX1, hwX, hXs⟩ := twoM HX
  obtain ⟨y0, y1, y2, y3, y4, y5, y6⟩ := of7' hX1
  obtain ⟨x0, x1, x2, x3, x4, x5, x6, x7⟩ := of8' hX0
  have yf : ∀ o, X.frozen? ⟨w.heap.size + 1, o, none⟩ = false := fun o => frozen_free hX1
  have BX := hide hwX
  clear hwX hX0 hX1 hXs
  go_enter Tryz.func45, Tryz.ntmps45
  go_wp2
  refine bodyPost_ret (v := .agg #[.int .i64 v.kind, .string v.attr, .slice v.qi v.ni v.ci, .slice v.qw v.nw v.cw, .int .i64 v.lo, .int .i64 v.hi, .bool b]) (by simp [results, Tryz.results45, go_sem, *]) rfl ⟨rfl, ?_⟩
  exact ((((((((unhide BX).setCell (p := ⟨w.heap.size + 1, 0, none⟩) (Nat.le_succ _) _).setCell (p := ⟨w.heap.size + 1, 1, none⟩) (Nat.le_succ _) _).setCell (p := ⟨w.heap.size + 1, 2, none⟩) (Nat.le_succ _) _).setCell (p := ⟨w.heap.size + 1, 3, none⟩) (Nat.le_succ _) _).setCell (p := ⟨w.heap.size + 1, 4, none⟩) (Nat.le_succ _) _).setCell (p := ⟨w.heap.size + 1, 5, none⟩) (Nat.le_succ _) _).setCell (p := ⟨w.heap.size + 1, 6, none⟩) (Nat.le_succ _) _)
/-- What a builder of trees answers. -/
def NewV (w' : World) (t : Nd) (e : Ending) : Prop := ∃ v, e = .returned (.agg #[.int .i64 v.kind, .string v.attr, .slice v.qi v.ni v.ci, .slice v.qw v.nw v.cw, .int .i64 v.lo, .int .i64 v.hi, .int .i64 v.op, .slice v.qk v.nk v.ck]) ∧ NdIn w' v t
theorem NewT.nv {B : Nat} {w' : World} {t : Nd} {e : Ending} (h : NewT B w' t e) : NewV w' t e := by
  obtain ⟨v, h1, h2⟩ := h
  exact ⟨v, h1, h2.toIn⟩
theorem cInts (l : List Int) (n M : Nat) (W : World) {cur : Array Value} (h : W.heap[M]? = some (.cells cur 3 (0, 0))) (hc : (flatK encI 1 l.toArray).toList = cur.toList) (hn : l.length = n) (hm : n ≤ 1000) : Calls Tryz.prog 43 #[.string nmA, .slice (some ⟨M, 0, none⟩) n n] W fun e w' => NewV w' (.mk 1 nmA l [] 0 0 1 []) e ∧ Below W.heap.size W w' := by
  subst hn
  exact (ints_any nmA (some ⟨M, 0, none⟩) l.length l W (rowM l l.length h hc rfl (by unfold maxLen; omega)) (by omega)).mono fun e w' ⟨h1, h2⟩ => ⟨h1.nv, h2⟩
theorem cRange (lo hi : Int) (W : World) : Calls Tryz.prog 44 #[.string nmA, .int .i64 lo, .int .i64 hi] W fun e w' => NewV w' (.mk 3 nmA [] [] lo hi 1 []) e ∧ Below W.heap.size W w' := (range_any nmA lo hi W).mono fun _ _ ⟨h1, h2⟩ => ⟨h1.nv, h2⟩
theorem cPre (W : World) : Calls Tryz.prog 46 #[.string nmC, .string wX] W fun e w' => NewV w' T3 e ∧ Below W.heap.size W w' := (prefix_any nmC wX W).mono fun _ _ ⟨h1, h2⟩ => ⟨h1.nv, h2⟩
theorem flat_L4 (v1 v2 v3 v4 : Nv) (b1 b2 b3 b4 : Bool) : (flatK encL 7 [v1.lv b1, v2.lv b2, v3.lv b3, v4.lv b4].toArray).toList = [.int .i64 v1.kind, .string v1.attr, .slice v1.qi v1.ni v1.ci, .slice v1.qw v1.nw v1.cw, .int .i64 v1.lo, .int .i64 v1.hi, .bool b1, .int .i64 v2.kind, .string v2.attr, .slice v2.qi v2.ni v2.ci, .slice v2.qw v2.nw v2.cw, .int .i64 v2.lo, .int .i64 v2.hi, .bool b2, .int .i64 v3.kind, .string v3.attr, .slice v3.qi v3.ni v3.ci, .slice v3.qw v3.nw v3.cw, .int .i64 v3.lo, .int .i64 v3.hi, .bool b3, .int .i64 v4.kind, .string v4.attr, .slice v4.qi v4.ni v4.ci, .slice v4.qw v4.nw v4.cw, .int .i64 v4.lo, .int .i64 v4.hi, .bool b4] := by simp [flatK, List.range_succ, encL, Nv.lv]
theorem flat_L1 (v1 : Nv) (b1 : Bool) : (flatK encL 7 [v1.lv b1].toArray).toList = [.int .i64 v1.kind, .string v1.attr, .slice v1.qi v1.ni v1.ci, .slice v1.qw v1.nw v1.cw, .int .i64 v1.lo, .int .i64 v1.hi, .bool b1] := by simp [flatK, List.range_succ, encL, Nv.lv]
theorem flat_P2 (v1 v2 : Nv) : (flatK encD 6 [v1.pv, v2.pv].toArray).toList = [.int .i64 v1.kind, .string v1.attr, .slice v1.qi v1.ni v1.ci, .slice v1.qw v1.nw v1.cw, .int .i64 v1.lo, .int .i64 v1.hi, .int .i64 v2.kind, .string v2.attr, .slice v2.qi v2.ni v2.ci, .slice v2.qw v2.nw v2.cw, .int .i64 v2.lo, .int .i64 v2.hi] := by simp [flatK, List.range_succ, encD, Nv.pv]
theorem flat_N2 (v1 v2 : Nv) : (flatK encV 8 [v1, v2].toArray).toList = [.int .i64 v1.kind, .string v1.attr, .slice v1.qi v1.ni v1.ci, .slice v1.qw v1.nw v1.cw, .int .i64 v1.lo, .int .i64 v1.hi, .int .i64 v1.op, .slice v1.qk v1.nk v1.ck, .int .i64 v2.kind, .string v2.attr, .slice v2.qi v2.ni v2.ci, .slice v2.qw v2.nw v2.cw, .int .i64 v2.lo, .int .i64 v2.hi, .int .i64 v2.op, .slice v2.qk v2.nk v2.ck] := by simp [flatK, List.range_succ, encV]
theorem smallL1 : SmallL Ls1 := by
  intro l hl
  simp only [Ls1, List.mem_cons, List.not_mem_nil, or_false] at hl
  rcases hl with rfl | rfl | rfl | rfl <;> exact ⟨by decide, by decide⟩
theorem smallL2 : SmallL Ls2 := by
  intro l hl
  simp only [Ls2, List.mem_cons, List.not_mem_nil, or_false] at hl
  rcases hl with rfl
  exact ⟨by decide, by decide⟩
/-- The first conjunction of the fixed facts. -/
theorem cMake1 (v1 v2 v3 v4 : Nv) (M : Nat) (W : World) (h : W.heap[M]? = some (.cells #[.int .i64 v1.kind, .string v1.attr, .slice v1.qi v1.ni v1.ci, .slice v1.qw v1.nw v1.cw, .int .i64 v1.lo, .int .i64 v1.hi, .bool false, .int .i64 v2.kind, .string v2.attr, .slice v2.qi v2.ni v2.ci, .slice v2.qw v2.nw v2.cw, .int .i64 v2.lo, .int .i64 v2.hi, .bool false, .int .i64 v3.kind, .string v3.attr, .slice v3.qi v3.ni v3.ci, .slice v3.qw v3.nw v3.cw, .int .i64 v3.lo, .int .i64 v3.hi, .bool false, .int .i64 v4.kind, .string v4.attr, .slice v4.qi v4.ni v4.ci, .slice v4.qw v4.nw v4.cw, .int .i64 v4.lo, .int .i64 v4.hi, .bool true] 64 (0, 0))) (n1 : NdIn W v1 T1) (n2 : NdIn W v2 T2) (n3 : NdIn W v3 T3) (n4 : NdIn W v4 T4) :
    Calls Tryz.prog 24 #[.slice (some ⟨M, 0, none⟩) 4 4] W fun e w' => (∃ x : Cv, e = .returned (.tuple #[.agg #[.bool x.never, .slice x.qp x.np x.cp, .slice x.qn x.nn x.cn], .int .i64 0]) ∧ CdNew W.heap.size w' x ⟨false, [P1, P2], [P3]⟩) ∧ Below W.heap.size W w' := by
  have hL : LitsOf W (some ⟨M, 0, none⟩) 4 Ls1 := by
    refine ⟨[v1.lv false, v2.lv false, v3.lv false, v4.lv true], rowM _ 4 h (flat_L4 _ _ _ _ _ _ _ _) rfl (by unfold maxLen; omega), rfl, fun j u l hu hl => ?_⟩
    have hj : j < 4 := (List.getElem?_eq_some_iff.1 hu).1
    have hm : j = 0 ∨ j = 1 ∨ j = 2 ∨ j = 3 := by omega
    rcases hm with rfl | rfl | rfl | rfl <;> cases hu <;> cases hl
    · exact leaf_lit n1 false
    · exact leaf_lit n2 false
    · exact leaf_lit n3 false
    · exact leaf_lit n4 true
  have := make_any (some ⟨M, 0, none⟩) 4 Ls1 W hL smallL1 (ok_fit ok1) (by decide)
  rw [made1, show makeE Ls1 = 0 by unfold makeE; rw [ok1]; rfl] at this
  exact this
theorem cMake2 (v1 : Nv) (M : Nat) (W : World) (h : W.heap[M]? = some (.cells #[.int .i64 v1.kind, .string v1.attr, .slice v1.qi v1.ni v1.ci, .slice v1.qw v1.nw v1.cw, .int .i64 v1.lo, .int .i64 v1.hi, .bool false] 64 (0, 0))) (n1 : NdIn W v1 T5) :
    Calls Tryz.prog 24 #[.slice (some ⟨M, 0, none⟩) 1 1] W fun e w' => (∃ x : Cv, e = .returned (.tuple #[.agg #[.bool x.never, .slice x.qp x.np x.cp, .slice x.qn x.nn x.cn], .int .i64 0]) ∧ x.never = true) ∧ Below W.heap.size W w' := by
  have hL : LitsOf W (some ⟨M, 0, none⟩) 1 Ls2 := by
    refine ⟨[v1.lv false], rowM _ 1 h (flat_L1 _ _) rfl (by unfold maxLen; omega), rfl, fun j u l hu hl => ?_⟩
    have hj : j < 1 := (List.getElem?_eq_some_iff.1 hu).1
    obtain rfl : j = 0 := by omega
    cases hu
    cases hl
    exact leaf_lit n1 false
  have := make_any (some ⟨M, 0, none⟩) 1 Ls2 W hL smallL2 (ok_fit ok2) (by decide)
  rw [made2, show makeE Ls2 = 0 by unfold makeE; rw [ok2]; rfl] at this
  exact this.mono fun e w' ⟨⟨x, h1, h2⟩, h3⟩ => ⟨⟨x, h1, h2.1⟩, h3⟩
theorem cMeet (v1 v2 : Nv) (M : Nat) (W : World) (h : W.heap[M]? = some (.cells #[.int .i64 v1.kind, .string v1.attr, .slice v1.qi v1.ni v1.ci, .slice v1.qw v1.nw v1.cw, .int .i64 v1.lo, .int .i64 v1.hi, .int .i64 v2.kind, .string v2.attr, .slice v2.qi v2.ni v2.ci, .slice v2.qw v2.nw v2.cw, .int .i64 v2.lo, .int .i64 v2.hi] 26 (0, 0))) (n1 : NdIn W v1 (.mk 3 nmA [] [] 1 5 1 [])) (n2 : NdIn W v2 (.mk 3 nmA [] [] 5 9 1 [])) :
    Calls Tryz.prog 14 #[.slice (some ⟨M, 0, none⟩) 2 2] W fun e w' => (∃ r : Pv, e = .returned (.tuple #[.agg #[.int .i64 r.kind, .string r.attr, .slice r.qi r.ni r.ci, .slice r.qw r.nw r.cw, .int .i64 r.lo, .int .i64 r.hi], .bool true]) ∧ PdIn w' r ⟨1, nmA, [5], [], 0, 0⟩) ∧ Below W.heap.size W w' := by
  have hL : PdsOf W (some ⟨M, 0, none⟩) 2 [⟨3, nmA, [], [], 1, 5⟩, ⟨3, nmA, [], [], 5, 9⟩] := by
    refine ⟨[v1.pv, v2.pv], rowM _ 2 h (flat_P2 _ _) rfl (by unfold maxLen; omega), rfl, fun j u l hu hl => ?_⟩
    have hj : j < 2 := (List.getElem?_eq_some_iff.1 hu).1
    have hm : j = 0 ∨ j = 1 := by omega
    rcases hm with rfl | rfl <;> cases hu <;> cases hl
    · exact leaf_pd n1
    · exact leaf_pd n2
  have := meet_any (some ⟨M, 0, none⟩) 2 _ W hL (fun p hp => by
    simp only [List.mem_cons, List.not_mem_nil, or_false] at hp
    rcases hp with rfl | rfl <;> exact ⟨by decide, by decide⟩) (by decide)
  rw [meet2] at this
  exact this.mono fun e w' ⟨⟨r, h1, h2⟩, h3⟩ => ⟨⟨r, h1, h2.1⟩, h3⟩
theorem cNorm (v1 : Nv) (W : World) (n1 : NdIn W v1 (.mk 1 nmA [2, 1, 2] [] 0 0 1 [])) :
    Calls Tryz.prog 16 #[.agg #[.int .i64 v1.kind, .string v1.attr, .slice v1.qi v1.ni v1.ci, .slice v1.qw v1.nw v1.cw, .int .i64 v1.lo, .int .i64 v1.hi]] W fun e w' => (∃ r : Pv, e = .returned (.tuple #[.agg #[.int .i64 r.kind, .string r.attr, .slice r.qi r.ni r.ci, .slice r.qw r.nw r.cw, .int .i64 r.lo, .int .i64 r.hi], .bool true]) ∧ PdIn w' r ⟨1, nmA, [1, 2], [], 0, 0⟩) ∧ Below W.heap.size W w' := by
  have := normal_any v1.pv ⟨1, nmA, [2, 1, 2], [], 0, 0⟩ W (leaf_pd n1) ⟨by decide, by decide⟩
  rw [norm5] at this
  exact this.mono fun e w' ⟨⟨r, h1, h2⟩, h3⟩ => ⟨⟨r, h1, h2.1⟩, h3⟩
theorem cOr (v1 v2 : Nv) (M : Nat) (W : World) (h : W.heap[M]? = some (.cells #[.int .i64 v1.kind, .string v1.attr, .slice v1.qi v1.ni v1.ci, .slice v1.qw v1.nw v1.cw, .int .i64 v1.lo, .int .i64 v1.hi, .int .i64 v1.op, .slice v1.qk v1.nk v1.ck, .int .i64 v2.kind, .string v2.attr, .slice v2.qi v2.ni v2.ci, .slice v2.qw v2.nw v2.cw, .int .i64 v2.lo, .int .i64 v2.hi, .int .i64 v2.op, .slice v2.qk v2.nk v2.ck] 56 (0, 0))) (n1 : NdIn W v1 T1) (n2 : NdIn W v2 T2) :
    Calls Tryz.prog 47 #[.slice (some ⟨M, 0, none⟩) 2 2] W fun e w' => NewV w' (joinT 4 [T1, T2]) e ∧ Below W.heap.size W w' := by
  have hL : NdsOf W (some ⟨M, 0, none⟩) 2 [T1, T2] := by
    refine ⟨[v1, v2], rowM _ 2 h (flat_N2 _ _) rfl (by unfold maxLen; omega), rfl, fun j u l hu hl => ?_⟩
    have hj : j < 2 := (List.getElem?_eq_some_iff.1 hu).1
    have hm : j = 0 ∨ j = 1 := by omega
    rcases hm with rfl | rfl <;> cases hu <;> cases hl
    · exact n1
    · exact n2
  exact (or_any (some ⟨M, 0, none⟩) 2 [T1, T2] W hL (by decide)).mono fun e w' ⟨h1, h2⟩ => ⟨h1.nv, h2⟩
theorem cAll (v : Nv) (W : World) (n : NdIn W v (joinT 4 [T1, T2])) :
    Calls Tryz.prog 33 #[.agg #[.int .i64 v.kind, .string v.attr, .slice v.qi v.ni v.ci, .slice v.qw v.nw v.cw, .int .i64 v.lo, .int .i64 v.hi, .int .i64 v.op, .slice v.qk v.nk v.ck], .int .i64 2] W fun e w' => (∃ q c, e = .returned (.tuple #[.slice q 2 c, .int .i64 0])) ∧ Below W.heap.size W w' := by
  have := all_any (joinT 4 [T1, T2]) 2 v W n (by decide)
  rw [exp1.1, show (allC (joinT 4 [T1, T2]) 2).length = 2 by unfold allC; rw [List.length_map]; exact exp1.2] at this
  exact this.mono fun e w' ⟨⟨q, c, h1, _⟩, h3⟩ => ⟨⟨q, c, h1⟩, h3⟩
/-- A list of predicates stays, whatever is written into a block ahead of it. -/
theorem growD_off {B g : Nat} {w W : World} {q : Option Addr} {c n : Nat} {ls : List Pd} (h : GrowD B w q c n ls) (hg : g < B) (hs : w.heap.size ≤ W.heap.size) (hW : ∀ b, b < w.heap.size → b ≠ g → W.heap[b]? = w.heap[b]?) : PdsOf W q c ls := by
  obtain ⟨h1, us, h2, h3, h4⟩ := h
  refine ⟨us, ?_, by omega, fun j u p hj hp => (h4 W hs (fun b o hb hlt hne => World.cell?_of_block (a := ⟨b, o, none⟩) (hW b hlt (by omega))) j u p hj hp).1⟩
  have := h3.ls
  refine ⟨this.1, this.2.1, this.2.2.1, fun h0 => ?_⟩
  obtain ⟨b, off, e1, e2, e3⟩ := this.2.2.2 h0
  refine ⟨b, off, e1, Nat.lt_of_lt_of_le e2 hs, fun j u hj => (World.cell?_of_block (a := ⟨b, off + j, none⟩) (hW b e2 ?_)).trans (e3 j u hj)⟩
  have := h3.from _ e1
  simp only at this
  omega
/-- A conjunction that no write into block g reaches. -/
def CdOff (g : Nat) (w : World) (x : Cv) (d : Cd) : Prop := ∀ W : World, w.heap.size ≤ W.heap.size → (∀ b, b < w.heap.size → b ≠ g → W.heap[b]? = w.heap[b]?) → CdIn W x d
theorem CdNew.off {B g : Nat} {w : World} {x : Cv} {d : Cd} (h : CdNew B w x d) (hg : g < B) : CdOff g w x d := fun _ hs hW => ⟨h.1, h.2.1.1.symm, h.2.2.1.symm, growD_off h.2.1 hg hs hW, growD_off h.2.2 hg hs hW⟩
theorem CdNew.off2 {B : Nat} {w : World} {x : Cv} {d : Cd} (h : CdNew B w x d) (o : Obj) : CdOff w.heap.size (w.alloc o) x d := fun W hs hW => by
  have hc : ∀ b, b < w.heap.size → W.heap[b]? = w.heap[b]? := fun b hb => (hW b (by rw [size_al]; omega) (by omega)).trans (Below.heap_alloc _ _ b hb)
  rw [size_al] at hs
  have pk : ∀ {q : Option Addr} {c n : Nat} {ls : List Pd}, GrowD B w q c n ls → PdsOf W q c ls := fun {q c n ls} hG => by
    obtain ⟨us, a1, a2, a3⟩ := hG.preds
    have sk : ∀ {α : Type} [Inhabited α] {enc : α → List Value} {k : Nat} {q : Option Addr} {c : Nat} {l : List α}, SlOf enc k w q c l → SlOf enc k W q c l := fun hS => ⟨hS.1, hS.2.1, hS.2.2.1, fun h0 => by
      obtain ⟨b, off, e1, e2, e3⟩ := hS.2.2.2 h0
      exact ⟨b, off, e1, by omega, fun j u hj => (World.cell?_of_block (a := ⟨b, off + j, none⟩) (hc b e2)).trans (e3 j u hj)⟩⟩
    exact ⟨us, sk a1, a2, fun j u p hj hp => by
      obtain ⟨p1, p2, p3, p4, p5, p6, p7, p8⟩ := a3 j u p hj hp
      exact ⟨p1, p2, p3, p4, p5, p6, sk p7, sk p8⟩⟩
  exact ⟨h.1, h.2.1.1.symm, h.2.2.1.symm, pk h.2.1, pk h.2.2⟩
end Go.Proofs.YtimklglliffpcaaGreat

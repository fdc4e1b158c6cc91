/- What the reference's Event returns, for every list of attributes and every list of pairs. -/
import Derived.Test.YtojeihchkdkkgabRefNew
namespace Go.Proofs.Ytojeihchkdkkgab
open Go.RowKit Go.Sort Go.Shelf

/-- A pair that the reference lets by. -/
def fit2 (al : List (ByteArray × Int)) (x : ByteArray × Int × Int × ByteArray) : Prop := kindOf al x.1 ≠ 0 ∧ kindOf al x.1 = x.2.1 ∧ chkV x.2.1 x.2.2.1 x.2.2.2 = 0
theorem kindOf_mem {al : List (ByteArray × Int)} {s : ByteArray} (h : kindOf al s ≠ 0) : ∃ y ∈ al, y.1.toList = s.toList ∧ y.2 = kindOf al s := by
  induction al with
  | nil => exact absurd rfl h
  | cons y r ih =>
    unfold kindOf at h ⊢
    by_cases e : (y.1.toList == s.toList) = true
    · rw [if_pos e]
      exact ⟨y, by simp, eq_of_beq e, rfl⟩
    · rw [if_neg e] at h ⊢
      obtain ⟨z, hz, h1, h2⟩ := ih h
      exact ⟨z, List.mem_cons_of_mem _ hz, h1, h2⟩
theorem fit_iff {al : List (ByteArray × Int)} {x : ByteArray × Int × Int × ByteArray} (hok : ∀ y ∈ al, atOk y = true) (hn : (al.map nmA).Nodup) : fitOk al x = true ↔ fit2 al x := by
  constructor
  · intro h
    have hk := kindOf_fit hn h
    unfold fitOk at h
    rw [Bool.and_eq_true, List.any_eq_true] at h
    obtain ⟨hc, y, hy, he⟩ := h
    unfold eqA at he
    rw [Bool.and_eq_true] at he
    have ey : x.2.1 = y.2 := eq_of_beq he.2
    refine ⟨?_, hk, eq_of_beq hc⟩
    rw [hk, ey]
    have := hok y hy
    unfold atOk at this
    rw [Bool.and_eq_true, Bool.or_eq_true] at this
    intro h0
    rcases this.2 with h1 | h1 <;> (have := eq_of_beq h1; omega)
  · rintro ⟨h0, h1, h2⟩
    obtain ⟨y, hy, e1, e2⟩ := kindOf_mem h0
    unfold fitOk
    rw [Bool.and_eq_true, List.any_eq_true]
    refine ⟨by simp [h2], y, hy, ?_⟩
    unfold eqA
    rw [Bool.and_eq_true]
    exact ⟨by simp [e1], by simp [e2, h1]⟩
theorem get_none {o : List (ByteArray × Int × Int × ByteArray)} {s : ByteArray} : getOf o s = none ↔ ∀ y ∈ o, y.1.toList ≠ s.toList := by
  induction o with
  | nil => simp [getOf]
  | cons y r ih =>
    unfold getOf
    by_cases h : y.1.toList = s.toList
    · rw [if_pos (by simp [h])]
      constructor
      · intro h0; cases h0
      · intro h0; exact absurd h (h0 y (by simp))
    · rw [if_neg (by simpa using h), ih]
      constructor
      · intro h0 z hz
        rcases List.mem_cons.1 hz with rfl | hz
        · exact h
        · exact h0 z hz
      · intro h0 z hz; exact h0 z (List.mem_cons_of_mem _ hz)
/-- What the reference's Event returns. -/
def RefEventRes (B : Nat) (al : List (ByteArray × Int)) (l : List (ByteArray × Int × Int × ByteArray)) (e : Ending) (w' : World) : Prop :=
  (¬ ((∀ x ∈ l, fit2 al x) ∧ (l.map nmP).Nodup) ∧ e = .returned (.tuple #[.slice none 0 0, .int .i64 12])) ∨
  ((∀ x ∈ l, fit2 al x) ∧ (l.map nmP).Nodup ∧ ∃ q cap ls, e = .returned (.tuple #[.slice q ls.length cap, .int .i64 0]) ∧ ls.Perm l ∧ Strict nmP ls ∧ NewP B w' q cap ls)
theorem not_fit {al : List (ByteArray × Int)} {l : List (ByteArray × Int × Int × ByteArray)} {k : Nat} {x : ByteArray × Int × Int × ByteArray} (hx : l[k]? = some x) (h : ¬ fit2 al x) : ¬ ((∀ x ∈ l, fit2 al x) ∧ (l.map nmP).Nodup) := fun hh => h (hh.1 x (List.mem_of_getElem? hx))
theorem not_dupP {al : List (ByteArray × Int)} {l o : List (ByteArray × Int × Int × ByteArray)} {k : Nat} {x y : ByteArray × Int × Int × ByteArray} (hp : o.Perm (l.take k)) (hx : l[k]? = some x) (hy : y ∈ o) (h : y.1.toList = x.1.toList) : ¬ ((∀ x ∈ l, fit2 al x) ∧ (l.map nmP).Nodup) := fun hh => by
  have hy' := hp.mem_iff.1 hy
  obtain ⟨j, hj, rfl⟩ := List.mem_iff_getElem.1 hy'
  have hjk : j < k := by simp at hj; omega
  obtain ⟨hkl, ex⟩ := List.getElem?_eq_some_iff.1 hx
  have hn := hh.2
  unfold List.Nodup at hn
  rw [List.pairwise_iff_getElem] at hn
  refine hn j k (by simp; omega) (by simpa using hkl) hjk ?_
  simp only [List.getElem_map, nmP, ex]
  simpa [List.getElem_take] using h
theorem PrsOf.one {w : World} {b off : Nat} {x : ByteArray × Int × Int × ByteArray} (hb : b < w.heap.size) (h0 : w.cell? ⟨b, off, none⟩ = some (.string x.1)) (h1 : w.cell? ⟨b, off + 1, none⟩ = some (.int .i64 x.2.1)) (h2 : w.cell? ⟨b, off + 2, none⟩ = some (.int .i64 x.2.2.1)) (h3 : w.cell? ⟨b, off + 3, none⟩ = some (.string x.2.2.2)) : PrsOf w (some ⟨b, off, none⟩) [x] := fun _ => by
  refine ⟨b, off, rfl, hb, fun j y hj => ?_⟩
  match j, hj with
  | 0, hj => simp only [List.getElem?_cons_zero, Option.some.injEq] at hj; subst hj; exact ⟨by simpa using h0, by simpa using h1, by simpa using h2, by simpa using h3⟩
theorem refGet_two (p : Option Addr) (cap : Nat) (o : List (ByteArray × Int × Int × ByteArray)) (s : ByteArray) (w : World) (hm : o.length ≤ 140737488355328) (hA : PrsOf w p o) :
    Calls Try.prog 22 #[.slice p o.length cap, .string s] w fun e w' => (∃ (a b : Int) (t : ByteArray) (tw : Bool), e = .returned (.tuple #[.agg #[.int .i64 a, .int .i64 b, .string t], .bool tw]) ∧ (tw = false ↔ ∀ y ∈ o, y.1.toList ≠ s.toList)) ∧ Below w.heap.size w w' := by
  refine (refGet_any p cap o s w hm hA).mono fun e w' ⟨he, hb⟩ => ⟨?_, hb⟩
  rw [← get_none]
  cases hg : getOf o s with
  | none => rw [hg] at he; exact ⟨0, 0, ⟨#[]⟩, false, he, by simp⟩
  | some y => rw [hg] at he; exact ⟨y.1, y.2.1, y.2.2, true, he, by simp⟩
theorem block_below {w0 w2 : World} {wr : World} {ob : Obj} (h0 : w0 = wr.alloc ob) (h : Below w0.heap.size w0 w2) (i : Nat) (v : Value) (hc : w0.cell? ⟨wr.heap.size, i, none⟩ = some v) (ob2 : Obj) : (w2.alloc ob2).cell? ⟨wr.heap.size, i, none⟩ = some v := by
  have hlt : wr.heap.size < w0.heap.size := by rw [h0]; simp
  have h1 := (h.cell (p := ⟨wr.heap.size, i, none⟩) hlt).trans hc
  have hb : Below w2.heap.size w2 (w2.alloc ob2) := (Below.refl _ _).alloc (Nat.le_refl _) _
  exact (hb.cell (p := ⟨wr.heap.size, i, none⟩) (Nat.lt_of_lt_of_le hlt h.size)).trans h1
set_option maxHeartbeats 4000000 in
set_option maxRecDepth 100000 in
theorem refEvent_any (pa : Option Addr) (ca : Nat) (al : List (ByteArray × Int)) (p : Option Addr) (cap : Nat) (l : List (ByteArray × Int × Int × ByteArray)) (w : World) (ha : al.length ≤ 140737488355328) (hl : l.length * 48 ≤ 140737488355328) (hsz : ∀ x ∈ l, x.1.size ≤ maxLen) (hA : AtsOf w pa al) (hP : PrsOf w p l) :
    Calls Try.prog 14 #[.slice pa al.length ca, .slice p l.length cap] w fun e w' => RefEventRes w.heap.size al l e w' ∧ Below w.heap.size w w' := by
  have mixed : Try.prog.follows .mixedOrders = true := by kernel_rfl
  have e31 : ∀ args w, (callFunc 31 args).run Try.prog w = .ok (.enter 31 args) w := enters_of Try.func31 (by kernel_rfl) rfl
  have e18 : ∀ args w, (callFunc 18 args).run Try.prog w = .ok (.enter 18 args) w := enters_of Try.func18 (by kernel_rfl) rfl
  have e36 : ∀ args w, (callFunc 36 args).run Try.prog w = .ok (.enter 36 args) w := enters_of Try.func36 (by kernel_rfl) rfl
  have HA := hide hA
  have HP := hide hP
  have Hsz := hide hsz
  clear hA hP hsz
  go_enter Try.func14, Try.ntmps14
  go_wp2
  go_loopw [6, 7] (fun v i wr => ∃ (m : Nat) (o : List (ByteArray × Int × Int × ByteArray)) (q : Option Addr) (cp : Nat), m ≤ l.length ∧ i = .int .i64 m ∧ v = .slice q o.length cp ∧ Hid (o.Perm (l.take m)) ∧ Hid (Strict nmP o) ∧ Hid (NewP w.heap.size wr q cp o) ∧ Hid (∀ y ∈ o, fit2 al y) ∧ Below w.heap.size w wr) (fun _ i _ => l.length - (intOf i).toNat)
  case atStart => exact ⟨0, [], none, 0, by omega, rfl, rfl, hide (List.Perm.refl _), hide List.Pairwise.nil, hide (Or.inl ⟨rfl, rfl, rfl⟩), hide (fun y hy => by cases hy), Below.refl _ _⟩
  case round =>
    obtain ⟨m, o, q, cp, hm, rfl, rfl, Hp, Hs, HN, Hok, hbel⟩ := hrel
    by_cases hlt : m < l.length
    · obtain ⟨bb, off, rfl, hbb, hPt⟩ := unhide HP (by omega)
      obtain ⟨x, hx, -⟩ := get_at hlt
      have ki0 : (0 : Int) ≤ (m : Int) := by omega
      have ki1 : (m : Int) < (l.length : Int) := by omega
      obtain ⟨g0, g1, g2, g3⟩ := hPt.below hbel hbb m x hx
      have Hx := hide hx
      have Hbel := hide hbel
      have Hol : Hid (o.length = m) := hide (by rw [(unhide Hp).length_eq, List.length_take]; omega)
      have hom : o.length * 48 + 48 ≤ 140737488355328 := by rw [unhide Hol]; omega
      obtain ⟨w0, hw0⟩ : ∃ w0, w0 = wr.alloc (.cells #[.string x.1, .int .i64 x.2.1, .int .i64 x.2.2.1, .string x.2.2.2] 52) := ⟨_, rfl⟩
      have hb0 : Below wr.heap.size wr w0 := by rw [hw0]; exact (Below.refl _ _).alloc (Nat.le_refl _) _
      have hget := refGet_two q cp o x.1 w0 (by omega) ((unhide HN).of.below hb0)
      have HAr := hide (((unhide HA).below (unhide Hbel)).below hb0)
      have HNr := hide ((unhide HN).below hb0)
      have hc0 : w0.cell? ⟨wr.heap.size, 0, none⟩ = some (.string x.1) := by subst hw0; go_simp
      have hc1 : w0.cell? ⟨wr.heap.size, 1, none⟩ = some (.int .i64 x.2.1) := by subst hw0; go_simp
      have hc2 : w0.cell? ⟨wr.heap.size, 2, none⟩ = some (.int .i64 x.2.2.1) := by subst hw0; go_simp
      have hc3 : w0.cell? ⟨wr.heap.size, 3, none⟩ = some (.string x.2.2.2) := by subst hw0; go_simp
      have Hc : Hid (∀ (w2 : World), Below w0.heap.size w0 w2 → ∀ ob2, (w2.alloc ob2).cell? ⟨wr.heap.size, 0, none⟩ = some (.string x.1) ∧ (w2.alloc ob2).cell? ⟨wr.heap.size, 1, none⟩ = some (.int .i64 x.2.1) ∧ (w2.alloc ob2).cell? ⟨wr.heap.size, 2, none⟩ = some (.int .i64 x.2.2.1) ∧ (w2.alloc ob2).cell? ⟨wr.heap.size, 3, none⟩ = some (.string x.2.2.2)) := hide (fun w2 hb ob2 => ⟨block_below hw0 hb 0 _ hc0 ob2, block_below hw0 hb 1 _ hc1 ob2, block_below hw0 hb 2 _ hc2 ob2, block_below hw0 hb 3 _ hc3 ob2⟩)
      have Hwr : Hid (wr.heap.size < w0.heap.size) := hide (by rw [hw0]; simp)
      have Hbel0 := hide (below_sub (unhide Hbel) hb0)
      have Heq := hide hw0
      clear hw0
      have Hget := hide hget
      clear hx hbel hPt hc0 hc1 hc2 hc3 HA HP hget hb0
      go_wp2_with (first | (go_at_call 22; rw [← unhide Heq]; refine (unhide Hget).mono ?_; rintro e w2 ⟨⟨ga, gb, gs, tw, rfl, htw⟩, b2⟩; have B2 := hide b2; have Htw := hide htw; clear b2 htw))
      obtain ⟨V, hV⟩ : ∃ V, V = w2.alloc (.cells #[.int .i64 ga, .int .i64 gb, .string gs] 45) := ⟨_, rfl⟩
      rw [← hV]
      have BV0 : Hid (Below w0.heap.size w0 V) := hide (by rw [hV]; exact (unhide B2).alloc (unhide B2).size _)
      obtain ⟨z0, z1, z2, z3⟩ := unhide Hc w2 (unhide B2) (.cells #[.int .i64 ga, .int .i64 gb, .string gs] 45)
      rw [← hV] at z0 z1 z2 z3
      clear hV
      have y0 : ∀ n os, (grow (redrawn V n) os).cell? ⟨wr.heap.size, 0, none⟩ = some (.string x.1) := cell_regrown z0
      have y1 : ∀ n os, (grow (redrawn V n) os).cell? ⟨wr.heap.size, 1, none⟩ = some (.int .i64 x.2.1) := cell_regrown z1
      have y2 : ∀ n os, (grow (redrawn V n) os).cell? ⟨wr.heap.size, 2, none⟩ = some (.int .i64 x.2.2.1) := cell_regrown z2
      have y3 : ∀ n os, (grow (redrawn V n) os).cell? ⟨wr.heap.size, 3, none⟩ = some (.string x.2.2.2) := cell_regrown z3
      have hkx := fun (n : Nat) (os : Array Obj) => refKind_any pa ca al x.1 (grow (redrawn V n) os) ha ((unhide HAr).below (below_sub (unhide BV0) (below_regrown V n os)))
      have hck := fun (W : World) => refCheck_any x.2.1 x.2.2.1 x.2.2.2 W
      clear z0 z1 z2 z3
      by_cases c1 : kindOf al x.1 = 0
      · have Hno := hide (not_fit (unhide Hx) (fun h => h.1 c1))
        rw [c1] at hkx
        clear c1
        refine wp_region_quiet_below (by assumption) (by kernel_rfl) ?_
        repeat (go_big_quiet_step (first
          | (go_at_fn 18; refine Calls.regrown_of (hkx _ _))
          | (go_at_fn 36; refine Calls.regrown_of (hck _))))
        refine wpQuiet_nil ?_
        intro _ hw'
        obtain ⟨⟨dq, osq⟩, hw''⟩ := hw'
        subst hw''
        go_wp2
        go_ret2
        exact ⟨Or.inl ⟨unhide Hno, rfl⟩, below_sub (unhide Hbel0) (below_sub (unhide BV0) (below_regrown _ _ _))⟩
      · by_cases c2 : kindOf al x.1 = x.2.1
        · have Hc12 : Hid (kindOf al x.1 ≠ 0 ∧ kindOf al x.1 = x.2.1) := hide ⟨c1, c2⟩
          rw [c2] at hkx c1
          have k1 : (x.2.1 == 0) = false := by simpa using c1
          have k2 : (x.2.1 != x.2.1) = false := by simp
          clear c1 c2
          by_cases c3 : chkV x.2.1 x.2.2.1 x.2.2.2 = 0
          · have Hft : Hid (fit2 al x) := hide ⟨(unhide Hc12).1, (unhide Hc12).2, c3⟩
            rw [c3] at hck
            clear c3
            cases tw with
            | true =>
              have Hno : Hid (¬ ((∀ x ∈ l, fit2 al x) ∧ (l.map nmP).Nodup)) := hide (fun hh => by
                have := unhide Htw
                rcases Classical.em (∀ y ∈ o, y.1.toList ≠ x.1.toList) with h | h
                · exact absurd (this.2 h) (by simp)
                · refine h fun y hy he => not_dupP (al := al) (unhide Hp) (unhide Hx) hy he hh)
              refine wp_region_quiet_below (by assumption) (by kernel_rfl) ?_
              repeat (go_big_quiet_step (first
                | (go_at_fn 18; refine Calls.regrown_of (hkx _ _))
                | (go_at_fn 36; refine Calls.regrown_of (hck _))))
              refine wpQuiet_nil ?_
              intro _ hw'
              obtain ⟨⟨dq, osq⟩, hw''⟩ := hw'
              subst hw''
              go_wp2
              go_ret2
              exact ⟨Or.inl ⟨unhide Hno, rfl⟩, below_sub (unhide Hbel0) (below_sub (unhide BV0) (below_regrown _ _ _))⟩
            | false =>
              have Hne : Hid (∀ y ∈ o, nmP y ≠ nmP x) := hide ((unhide Htw).1 rfl)
              refine wp_region_quiet_below (by assumption) (by kernel_rfl) ?_
              repeat (go_big_quiet_step (first
                | (go_at_fn 18; refine Calls.regrown_of (hkx _ _))
                | (go_at_fn 36; refine Calls.regrown_of (hck _))))
              refine wpQuiet_nil ?_
              intro _ hw'
              obtain ⟨⟨dq, osq⟩, hw''⟩ := hw'
              subst hw''
              have hBr := below_regrown V dq osq
              have BV1 : Hid (Below w0.heap.size w0 (grow (redrawn V dq) osq)) := hide (below_sub (unhide BV0) hBr)
              have Hzz : Hid (∀ V', Below (grow (redrawn V dq) osq).heap.size (grow (redrawn V dq) osq) V' → V'.cell? ⟨wr.heap.size, 0, none⟩ = some (.string x.1) ∧ V'.cell? ⟨wr.heap.size, 1, none⟩ = some (.int .i64 x.2.1) ∧ V'.cell? ⟨wr.heap.size, 2, none⟩ = some (.int .i64 x.2.2.1) ∧ V'.cell? ⟨wr.heap.size, 3, none⟩ = some (.string x.2.2.2)) := hide (fun V' hv => by
                have hlt : wr.heap.size < (grow (redrawn V dq) osq).heap.size := Nat.lt_of_lt_of_le (unhide Hwr) (unhide BV1).size
                exact ⟨(hv.cell (p := ⟨_, 0, none⟩) hlt).trans (y0 dq osq), (hv.cell (p := ⟨_, 1, none⟩) hlt).trans (y1 dq osq), (hv.cell (p := ⟨_, 2, none⟩) hlt).trans (y2 dq osq), (hv.cell (p := ⟨_, 3, none⟩) hlt).trans (y3 dq osq)⟩)
              have Hhp : Hid (wr.heap.size < (grow (redrawn V dq) osq).heap.size) := hide (Nat.lt_of_lt_of_le (unhide Hwr) (unhide BV1).size)
              clear hBr y0 y1 y2 y3 hkx hck g0 g1 g2 g3 Hc Heq Hget BV0
              generalize grow (redrawn V dq) osq = V1 at *
              generalize wr.heap.size = hp at *
              go_wp2
              go_loopw [11] (fun kv wv => ∃ kk : Nat, kk ≤ o.length ∧ kv = .int .i64 kk ∧ Hid (∀ (j : Nat) (y : ByteArray × Int × Int × ByteArray), j < kk → o[j]? = some y → Op.bytesLess (nmP y) (nmP x) = true) ∧ Below V1.heap.size V1 wv) (fun kv _ => o.length - (intOf kv).toNat)
              case atStart => exact ⟨0, by omega, rfl, hide (fun j y hj => by omega), Below.refl _ _⟩
              case round =>
                obtain ⟨kk, hkk, rfl, Hlo, hbel2⟩ := hrel
                obtain ⟨y0, y1, y2, y3⟩ := unhide Hzz wr hbel2
                have Hbel2 := hide hbel2
                rcases (unhide HNr).below (below_sub (unhide BV1) hbel2) with ⟨rfl, rfl, rfl⟩ | ⟨g, rfl, hB, hg, hH, hcp, hcm⟩
                · obtain rfl : kk = 0 := by simpa using hkk
                  have Hnl : Hid (∀ y, ([] : List (ByteArray × Int × Int × ByteArray))[0]? = some y → Op.bytesLess (nmP y) (nmP x) = false) := hide (fun y hy => by cases hy)
                  simp only [List.length_nil, Int.natCast_zero]
                  clear hkk hom hbel2
                  go_wp2
                  refine wp_region_quiet_below (by assumption) (by kernel_rfl) ?_
                  repeat (go_big_quiet_step (fail))
                  refine wpQuiet_nil ?_
                  intro _ hw'
                  obtain ⟨⟨dq', osq'⟩, hw''⟩ := hw'
                  subst hw''
                  have hBV := below_regrown wr dq' osq'
                  obtain ⟨g0, g1, g2, g3⟩ := unhide Hzz (grow (redrawn wr dq') osq') (below_sub (unhide Hbel2) hBV)
                  have hpV : hp < (grow (redrawn wr dq') osq').heap.size := by have h1 := (below_sub (unhide Hbel2) hBV).size; have h2 := unhide Hhp; omega
                  have BV := hide (below_sub (below_sub (unhide Hbel0) (unhide BV1)) (below_sub (unhide Hbel2) hBV))
                  clear hBV y0 y1 y2 y3
                  generalize grow (redrawn wr dq') osq' = V0 at *
                  go_wp2
                  go_region_held3 (fun w' => w'.cell? ⟨hp, 0, none⟩ = some (.string x.1) ∧ w'.cell? ⟨hp, 1, none⟩ = some (.int .i64 x.2.1) ∧ w'.cell? ⟨hp, 2, none⟩ = some (.int .i64 x.2.2.1) ∧ w'.cell? ⟨hp, 3, none⟩ = some (.string x.2.2.2)) (first | go_keep | exact ⟨(hb10'.cell (p := ⟨hp, 0, none⟩) hpV).trans g0, (hb10'.cell (p := ⟨hp, 1, none⟩) hpV).trans g1, (hb10'.cell (p := ⟨hp, 2, none⟩) hpV).trans g2, (hb10'.cell (p := ⟨hp, 3, none⟩) hpV).trans g3⟩ | exact ⟨(hb9'.cell (p := ⟨hp, 0, none⟩) hpV).trans g0, (hb9'.cell (p := ⟨hp, 1, none⟩) hpV).trans g1, (hb9'.cell (p := ⟨hp, 2, none⟩) hpV).trans g2, (hb9'.cell (p := ⟨hp, 3, none⟩) hpV).trans g3⟩ | exact ⟨(hb8'.cell (p := ⟨hp, 0, none⟩) hpV).trans g0, (hb8'.cell (p := ⟨hp, 1, none⟩) hpV).trans g1, (hb8'.cell (p := ⟨hp, 2, none⟩) hpV).trans g2, (hb8'.cell (p := ⟨hp, 3, none⟩) hpV).trans g3⟩) ((first
                    | (refine step_app rowP (by rfl) (.tmp 70) (.tmp 73) (by rfl) V0.heap.size (some ⟨V0.heap.size, 0, none⟩) 0 [] none 0 [] 0 0 0 rfl rfl (by simp) (by rfl) (by rfl) (by first | exact OwnK.made _ _ (Nat.le_refl _) | exact (OwnK.made _ _ (Nat.le_refl _)).below (by repeat (first | exact Below.refl _ _ | refine Below.drew ?_ | refine Below.alloc ?_ (by first | exact Nat.le_refl _ | (simp; done) | (simp; omega)) _))) ((fun V (_ : Below V0.heap.size V0 V) => SrcK.ofP (w := V) (fun _ => ⟨rfl, rfl⟩) (PrsOf.nil _ _)) _ (by repeat (first | exact Below.refl _ _ | refine Below.drew ?_ | refine Below.alloc ?_ (by first | exact Nat.le_refl _ | (simp; done) | (simp; omega)) _))) (by unfold maxLen; omega) (by omega) (by first | (simp; done) | (simp; omega)) ?_; intro q8 cp8 w8 hown8 hb8 _ hg8; have hb8' : Below V0.heap.size V0 w8 := Below.trans (by repeat (first | exact Below.refl _ _ | refine Below.drew ?_ | refine Below.alloc ?_ (by first | exact Nat.le_refl _ | (simp; done) | (simp; omega)) _)) hb8)
                    | (refine step_app rowP (by rfl) (.tmp 70) (.tmp 73) (by rfl) V0.heap.size (some ⟨V0.heap.size + 1, 0, none⟩) 0 [] none 0 [] 0 0 0 rfl rfl (by simp) (by rfl) (by rfl) (OwnK.made_at _ _ (V0.alloc (.cells #[.string x.1, .int .i64 x.2.1, .int .i64 x.2.2.1, .string x.2.2.2] 52)) (by simp) (by simp)) ((fun V (_ : Below V0.heap.size V0 V) => SrcK.ofP (w := V) (fun _ => ⟨rfl, rfl⟩) (PrsOf.nil _ _)) _ (by repeat (first | exact Below.refl _ _ | refine Below.drew ?_ | refine Below.alloc ?_ (by first | exact Nat.le_refl _ | (simp; done) | (simp; omega)) _))) (by unfold maxLen; omega) (by omega) (by first | (simp; done) | (simp; omega)) ?_; intro q8 cp8 w8 hown8 hb8 _ hg8; have hb8' : Below V0.heap.size V0 w8 := Below.trans (by repeat (first | exact Below.refl _ _ | refine Below.drew ?_ | refine Below.alloc ?_ (by first | exact Nat.le_refl _ | (simp; done) | (simp; omega)) _)) hb8)
                    | (refine step_app rowP (by rfl) (.tmp 74) (.tmp 76) (by rfl) V0.heap.size q8 cp8 [] (some ⟨w8.heap.size, 0, none⟩) 1 [x] 0 1 (0 + 1) rfl rfl rfl (by rfl) (by rfl) (hown8.below (by repeat (first | exact Below.refl _ _ | refine Below.drew ?_ | refine Below.alloc ?_ (by first | exact Nat.le_refl _ | (simp; done) | (simp; omega)) _))) (SrcK.ofP (fun h => by cases h) (PrsOf.one (by simp) (by go_simp) (by go_simp) (by go_simp) (by go_simp))) (by unfold maxLen; omega) (by omega) (by have := hb8'.size; simp; omega) ?_; intro q9 cp9 w9 hown9 hb9 _ _; have hb9' : Below V0.heap.size V0 w9 := (hb8'.trans (by repeat (first | exact Below.refl _ _ | refine Below.drew ?_ | refine Below.alloc ?_ (by first | exact Nat.le_refl _ | exact hb8'.size | (have := hb8'.size; simp; omega)) _))).trans hb9)
                    | (refine step_app rowP (by rfl) (.tmp 74) (.tmp 76) (by rfl) V0.heap.size q8 cp8 [] (some ⟨V0.heap.size + 1, 0, none⟩) 1 [x] 0 1 (0 + 1) rfl rfl rfl (by rfl) (by rfl) (hown8.below (by repeat (first | exact Below.refl _ _ | refine Below.drew ?_ | refine Below.alloc ?_ (by first | exact Nat.le_refl _ | (simp; done) | (simp; omega)) _))) (SrcK.ofP (fun h => by cases h) (PrsOf.one (by have := hg8.size; simp at this; omega) (by rw [hg8.cell_far _ (by first | (simp; done) | (simp; omega)) (by simp [Value.ownBlock])]; go_simp) (by rw [hg8.cell_far _ (by first | (simp; done) | (simp; omega)) (by simp [Value.ownBlock])]; go_simp) (by rw [hg8.cell_far _ (by first | (simp; done) | (simp; omega)) (by simp [Value.ownBlock])]; go_simp) (by rw [hg8.cell_far _ (by first | (simp; done) | (simp; omega)) (by simp [Value.ownBlock])]; go_simp))) (by unfold maxLen; omega) (by omega) (by have := hb8'.size; simp; omega) ?_; intro q9 cp9 w9 hown9 hb9 _ _; have hb9' : Below V0.heap.size V0 w9 := (hb8'.trans (by repeat (first | exact Below.refl _ _ | refine Below.drew ?_ | refine Below.alloc ?_ (by first | exact Nat.le_refl _ | exact hb8'.size | (have := hb8'.size; simp; omega)) _))).trans hb9)
                    | (refine step_app rowP (by rfl) (.tmp 74) (.tmp 76) (by rfl) V0.heap.size q8 cp8 [] (some ⟨V0.heap.size, 0, none⟩) 1 [x] 0 1 (0 + 1) rfl rfl rfl (by rfl) (by rfl) (hown8.below (by repeat (first | exact Below.refl _ _ | refine Below.drew ?_ | refine Below.alloc ?_ (by first | exact Nat.le_refl _ | (simp; done) | (simp; omega)) _))) (SrcK.ofP (fun h => by cases h) (PrsOf.one (by have := hg8.size; simp at this; omega) (by rw [hg8.cell_far _ (by first | (simp; done) | (simp; omega)) (by simp [Value.ownBlock])]; go_simp) (by rw [hg8.cell_far _ (by first | (simp; done) | (simp; omega)) (by simp [Value.ownBlock])]; go_simp) (by rw [hg8.cell_far _ (by first | (simp; done) | (simp; omega)) (by simp [Value.ownBlock])]; go_simp) (by rw [hg8.cell_far _ (by first | (simp; done) | (simp; omega)) (by simp [Value.ownBlock])]; go_simp))) (by unfold maxLen; omega) (by omega) (by have := hb8'.size; simp; omega) ?_; intro q9 cp9 w9 hown9 hb9 _ _; have hb9' : Below V0.heap.size V0 w9 := (hb8'.trans (by repeat (first | exact Below.refl _ _ | refine Below.drew ?_ | refine Below.alloc ?_ (by first | exact Nat.le_refl _ | exact hb8'.size | (have := hb8'.size; simp; omega)) _))).trans hb9)
                    | (refine step_app rowP (by rfl) (.tmp 77) (.tmp 80) (by rfl) V0.heap.size q9 cp9 ([] ++ [x]) none 0 [] (0 + 1) 0 1 rfl (by simp) rfl (by rfl) (by rfl) hown9 ((fun V (_ : Below V0.heap.size V0 V) => SrcK.ofP (w := V) (fun _ => ⟨rfl, rfl⟩) (PrsOf.nil _ _)) _ hb9') (by unfold maxLen; omega) (by omega) (by have := hb9'.size; simpa using this) ?_; intro q10 cp10 w10 hown10 hb10 _ _; have hb10' := hb9'.trans hb10)))
                  all_goals
                    have HNx : Hid (NewP w.heap.size w10 q10 cp10 (putAt [] 0 x)) := hide (OwnK.newP (hown10.mono (unhide BV).size))
                    have Hb10 := hide (below_sub (unhide BV) hb10')
                    have Hpp : Hid ((putAt [] 0 x).Perm (l.take (m + 1))) := hide (by rw [take_snoc (unhide Hx)]; exact (put_perm [] 0 x).trans ((unhide Hp).append_right [x]))
                    have Hss : Hid (Strict nmP (putAt [] 0 x)) := hide (put_strict (unhide Hs) (take_less (unhide Hlo)) (drop_more (unhide Hs) (unhide Hne) (unhide Hnl)))
                    have Hoo : Hid (∀ y ∈ putAt [] 0 x, fit2 al y) := hide (fun y hy => by
                      rcases List.mem_append.1 ((put_perm [] 0 x).mem_iff.1 hy) with h | h
                      · exact unhide Hok y h
                      · obtain rfl : y = x := by simpa using h
                        exact unhide Hft)
                    clear hown8 hown9 hown10 hb8 hb9 hb10 hb8' hb9' hb10' hg8 g0 g1 g2 g3 hpV
                    go_wp2
                    go_roundw
                    case rel => exact ⟨m + 1, putAt [] 0 x, q10, cp10, by omega, by go_num, by rw [put_length]; rfl, Hpp, Hss, HNx, Hoo, unhide Hb10⟩
                    case measure => simp [intOf]; omega
                · have hAo : PrsAt wr g 0 o := PrsAt.of_holds hH
                  have HAo := hide hAo
                  have Hg := hide hg
                  have kk0 : (0 : Int) ≤ (kk : Int) := by omega
                  have kk1 : (kk : Int) ≤ (o.length : Int) := by omega
                  have kk2 : (kk : Int) ≤ (cp : Int) := by omega
                  have kk3 : (o.length : Int) ≤ (cp : Int) := by omega
                  have v0 : ∀ n os, (grow (redrawn wr n) os).cell? ⟨hp, 0, none⟩ = some (.string x.1) := cell_regrown y0
                  have v1 : ∀ n os, (grow (redrawn wr n) os).cell? ⟨hp, 1, none⟩ = some (.int .i64 x.2.1) := cell_regrown y1
                  have v2 : ∀ n os, (grow (redrawn wr n) os).cell? ⟨hp, 2, none⟩ = some (.int .i64 x.2.2.1) := cell_regrown y2
                  have v3 : ∀ n os, (grow (redrawn wr n) os).cell? ⟨hp, 3, none⟩ = some (.string x.2.2.2) := cell_regrown y3
                  clear hH hAo hg hB hbel2 HN HNr
                  by_cases hkl : kk < o.length
                  · obtain ⟨y, hy, -⟩ := get_at hkl
                    have kk4 : (kk : Int) < (o.length : Int) := by omega
                    have z0 : ∀ n os, (grow (redrawn wr n) os).cell? ⟨g, kk * 4, none⟩ = some (.string y.1) := cell_regrown (by simpa using ((unhide HAo) kk y hy).1)
                    have htx := fun (V : World) => texts_any y.1 x.1 V (unhide Hsz y (List.mem_of_mem_take ((unhide Hp).mem_iff.1 (List.mem_of_getElem? hy))))
                    have Hy := hide hy
                    clear hy
                    by_cases hneg : cmpS y.1.toList x.1.toList < 0
                    · have Hlo2 : Hid (∀ (j : Nat) (z : ByteArray × Int × Int × ByteArray), j < kk + 1 → o[j]? = some z → Op.bytesLess (nmP z) (nmP x) = true) := hide (fun j z hj hz => by
                        by_cases e : j = kk
                        · subst e
                          obtain rfl : z = y := Option.some.inj (hz.symm.trans (unhide Hy))
                          exact cmpS_neg.1 hneg
                        · exact unhide Hlo j z (by omega) hz)
                      generalize cmpS y.1.toList x.1.toList = r at htx hneg
                      go_wp2
                      refine wp_region_quiet_below (by assumption) (by kernel_rfl) ?_
                      repeat (go_big_quiet_step (first | (go_at_fn 31; refine Calls.regrown_of (htx _))))
                      refine wpQuiet_nil ?_
                      intro _ hw'
                      obtain ⟨⟨dq', osq'⟩, hw''⟩ := hw'
                      subst hw''
                      go_wp2
                      go_roundw
                      case rel => exact ⟨kk + 1, by omega, by go_num, Hlo2, below_sub (unhide Hbel2) (below_regrown _ _ _)⟩
                      case measure => simp [intOf]; omega
                    · have hnb : Op.bytesLess (nmP y) (nmP x) = false := by
                        rw [Bool.eq_false_iff]; intro h; exact hneg (cmpS_neg.2 h)
                      generalize cmpS y.1.toList x.1.toList = r at htx hneg
                      have Hnl : Hid (∀ y, o[kk]? = some y → Op.bytesLess (nmP y) (nmP x) = false) := hide (fun z hz => by obtain rfl : z = y := Option.some.inj (hz.symm.trans (unhide Hy)); exact hnb)
                      go_wp2
                      refine wp_region_quiet_below (by assumption) (by kernel_rfl) ?_
                      repeat (go_big_quiet_step (first | (go_at_fn 31; refine Calls.regrown_of (htx _))))
                      refine wpQuiet_nil ?_
                      intro _ hw'
                      obtain ⟨⟨dq', osq'⟩, hw''⟩ := hw'
                      subst hw''
                      have hBV := below_regrown wr dq' osq'
                      obtain ⟨g0, g1, g2, g3⟩ := unhide Hzz (grow (redrawn wr dq') osq') (below_sub (unhide Hbel2) hBV)
                      have hpV : hp < (grow (redrawn wr dq') osq').heap.size := by have h1 := (below_sub (unhide Hbel2) hBV).size; have h2 := unhide Hhp; omega
                      have hAoV : PrsAt (grow (redrawn wr dq') osq') g 0 o := (unhide HAo).below hBV (unhide Hg)
                      have hgV : g < (grow (redrawn wr dq') osq').heap.size := Nat.lt_of_lt_of_le (unhide Hg) hBV.size
                      have BV := hide (below_sub (below_sub (unhide Hbel0) (unhide BV1)) (below_sub (unhide Hbel2) hBV))
                      clear hBV y0 y1 y2 y3 v0 v1 v2 v3 z0
                      generalize grow (redrawn wr dq') osq' = V0 at *
                      obtain ⟨pd, hpd⟩ : ∃ pd : Option Addr, pd = if cp = kk then some ⟨g, 0, none⟩ else some ⟨g, kk * 4, none⟩ := ⟨_, rfl⟩
                      have HSt : Hid (∀ V, Below V0.heap.size V0 V → SrcK encP 4 V (some ⟨g, 0, none⟩) cp (o.take kk)) := hide (fun V hv => SrcK.ofP (fun h => by cases h) (fun _ => ⟨g, 0, rfl, Nat.lt_of_lt_of_le hgV hv.size, (hAoV.below hv hgV).take kk⟩))
                      have HSd : Hid (∀ V, Below V0.heap.size V0 V → SrcK encP 4 V pd (cp - kk) (o.drop kk)) := hide (fun V hv => SrcK.ofP (fun h => by rw [hpd] at h; split at h <;> cases h) (fun h0 => by
                        have h1 : ¬ cp = kk := by first | (simp at h0; done) | (simp at h0; omega)
                        exact ⟨g, kk * 4, by rw [hpd, if_neg h1], Nat.lt_of_lt_of_le hgV hv.size, by simpa using (hAoV.below hv hgV).drop kk⟩))
                      have Hpd := hide hpd
                      have Hlen : Hid (kk + 1 + (o.length - kk) = o.length + 1) := hide (by omega)
                      clear hpd hAoV hgV
                      go_wp2
                      go_region_held3 (fun w' => w'.cell? ⟨hp, 0, none⟩ = some (.string x.1) ∧ w'.cell? ⟨hp, 1, none⟩ = some (.int .i64 x.2.1) ∧ w'.cell? ⟨hp, 2, none⟩ = some (.int .i64 x.2.2.1) ∧ w'.cell? ⟨hp, 3, none⟩ = some (.string x.2.2.2)) (first | go_keep | exact ⟨(hb10'.cell (p := ⟨hp, 0, none⟩) hpV).trans g0, (hb10'.cell (p := ⟨hp, 1, none⟩) hpV).trans g1, (hb10'.cell (p := ⟨hp, 2, none⟩) hpV).trans g2, (hb10'.cell (p := ⟨hp, 3, none⟩) hpV).trans g3⟩ | exact ⟨(hb9'.cell (p := ⟨hp, 0, none⟩) hpV).trans g0, (hb9'.cell (p := ⟨hp, 1, none⟩) hpV).trans g1, (hb9'.cell (p := ⟨hp, 2, none⟩) hpV).trans g2, (hb9'.cell (p := ⟨hp, 3, none⟩) hpV).trans g3⟩ | exact ⟨(hb8'.cell (p := ⟨hp, 0, none⟩) hpV).trans g0, (hb8'.cell (p := ⟨hp, 1, none⟩) hpV).trans g1, (hb8'.cell (p := ⟨hp, 2, none⟩) hpV).trans g2, (hb8'.cell (p := ⟨hp, 3, none⟩) hpV).trans g3⟩) ((first
                        | (refine step_app rowP (by rfl) (.tmp 70) (.tmp 73) (by rfl) V0.heap.size (some ⟨V0.heap.size, 0, none⟩) 0 [] (some ⟨g, 0, none⟩) cp (o.take kk) 0 kk kk rfl (by first | (simp; done) | (simp; omega)) (by simp) (by rfl) (by rfl) (by first | exact OwnK.made _ _ (Nat.le_refl _) | exact (OwnK.made _ _ (Nat.le_refl _)).below (by repeat (first | exact Below.refl _ _ | refine Below.drew ?_ | refine Below.alloc ?_ (by first | exact Nat.le_refl _ | (simp; done) | (simp; omega)) _))) (unhide HSt _ (by repeat (first | exact Below.refl _ _ | refine Below.drew ?_ | refine Below.alloc ?_ (by first | exact Nat.le_refl _ | (simp; done) | (simp; omega)) _))) (by unfold maxLen; omega) (by omega) (by first | (simp; done) | (simp; omega)) ?_; intro q8 cp8 w8 hown8 hb8 _ hg8; have hb8' : Below V0.heap.size V0 w8 := Below.trans (by repeat (first | exact Below.refl _ _ | refine Below.drew ?_ | refine Below.alloc ?_ (by first | exact Nat.le_refl _ | (simp; done) | (simp; omega)) _)) hb8)
                        | (refine step_app rowP (by rfl) (.tmp 70) (.tmp 73) (by rfl) V0.heap.size (some ⟨V0.heap.size + 1, 0, none⟩) 0 [] (some ⟨g, 0, none⟩) cp (o.take kk) 0 kk kk rfl (by first | (simp; done) | (simp; omega)) (by simp) (by rfl) (by rfl) (OwnK.made_at _ _ (V0.alloc (.cells #[.string x.1, .int .i64 x.2.1, .int .i64 x.2.2.1, .string x.2.2.2] 52)) (by simp) (by simp)) (unhide HSt _ (by repeat (first | exact Below.refl _ _ | refine Below.drew ?_ | refine Below.alloc ?_ (by first | exact Nat.le_refl _ | (simp; done) | (simp; omega)) _))) (by unfold maxLen; omega) (by omega) (by first | (simp; done) | (simp; omega)) ?_; intro q8 cp8 w8 hown8 hb8 _ hg8; have hb8' : Below V0.heap.size V0 w8 := Below.trans (by repeat (first | exact Below.refl _ _ | refine Below.drew ?_ | refine Below.alloc ?_ (by first | exact Nat.le_refl _ | (simp; done) | (simp; omega)) _)) hb8)
                        | (refine step_app rowP (by rfl) (.tmp 74) (.tmp 76) (by rfl) V0.heap.size q8 cp8 (o.take kk) (some ⟨w8.heap.size, 0, none⟩) 1 [x] kk 1 (kk + 1) (by first | (simp; done) | (simp; omega)) rfl rfl (by rfl) (by rfl) (hown8.below (by repeat (first | exact Below.refl _ _ | refine Below.drew ?_ | refine Below.alloc ?_ (by first | exact Nat.le_refl _ | (simp; done) | (simp; omega)) _))) (SrcK.ofP (fun h => by cases h) (PrsOf.one (by simp) (by go_simp) (by go_simp) (by go_simp) (by go_simp))) (by unfold maxLen; omega) (by omega) (by have := hb8'.size; simp; omega) ?_; intro q9 cp9 w9 hown9 hb9 _ _; have hb9' : Below V0.heap.size V0 w9 := (hb8'.trans (by repeat (first | exact Below.refl _ _ | refine Below.drew ?_ | refine Below.alloc ?_ (by first | exact Nat.le_refl _ | exact hb8'.size | (have := hb8'.size; simp; omega)) _))).trans hb9)
                        | (refine step_app rowP (by rfl) (.tmp 74) (.tmp 76) (by rfl) V0.heap.size q8 cp8 (o.take kk) (some ⟨V0.heap.size + 1, 0, none⟩) 1 [x] kk 1 (kk + 1) (by first | (simp; done) | (simp; omega)) rfl rfl (by rfl) (by rfl) (hown8.below (by repeat (first | exact Below.refl _ _ | refine Below.drew ?_ | refine Below.alloc ?_ (by first | exact Nat.le_refl _ | (simp; done) | (simp; omega)) _))) (SrcK.ofP (fun h => by cases h) (PrsOf.one (by have := hg8.size; simp at this; omega) (by rw [hg8.cell_far _ (by first | (simp; done) | (simp; omega)) (by simp [Value.ownBlock])]; go_simp) (by rw [hg8.cell_far _ (by first | (simp; done) | (simp; omega)) (by simp [Value.ownBlock])]; go_simp) (by rw [hg8.cell_far _ (by first | (simp; done) | (simp; omega)) (by simp [Value.ownBlock])]; go_simp) (by rw [hg8.cell_far _ (by first | (simp; done) | (simp; omega)) (by simp [Value.ownBlock])]; go_simp))) (by unfold maxLen; omega) (by omega) (by have := hb8'.size; simp; omega) ?_; intro q9 cp9 w9 hown9 hb9 _ _; have hb9' : Below V0.heap.size V0 w9 := (hb8'.trans (by repeat (first | exact Below.refl _ _ | refine Below.drew ?_ | refine Below.alloc ?_ (by first | exact Nat.le_refl _ | exact hb8'.size | (have := hb8'.size; simp; omega)) _))).trans hb9)
                        | (refine step_app rowP (by rfl) (.tmp 74) (.tmp 76) (by rfl) V0.heap.size q8 cp8 (o.take kk) (some ⟨V0.heap.size, 0, none⟩) 1 [x] kk 1 (kk + 1) (by first | (simp; done) | (simp; omega)) rfl rfl (by rfl) (by rfl) (hown8.below (by repeat (first | exact Below.refl _ _ | refine Below.drew ?_ | refine Below.alloc ?_ (by first | exact Nat.le_refl _ | (simp; done) | (simp; omega)) _))) (SrcK.ofP (fun h => by cases h) (PrsOf.one (by have := hg8.size; simp at this; omega) (by rw [hg8.cell_far _ (by first | (simp; done) | (simp; omega)) (by simp [Value.ownBlock])]; go_simp) (by rw [hg8.cell_far _ (by first | (simp; done) | (simp; omega)) (by simp [Value.ownBlock])]; go_simp) (by rw [hg8.cell_far _ (by first | (simp; done) | (simp; omega)) (by simp [Value.ownBlock])]; go_simp) (by rw [hg8.cell_far _ (by first | (simp; done) | (simp; omega)) (by simp [Value.ownBlock])]; go_simp))) (by unfold maxLen; omega) (by omega) (by have := hb8'.size; simp; omega) ?_; intro q9 cp9 w9 hown9 hb9 _ _; have hb9' : Below V0.heap.size V0 w9 := (hb8'.trans (by repeat (first | exact Below.refl _ _ | refine Below.drew ?_ | refine Below.alloc ?_ (by first | exact Nat.le_refl _ | exact hb8'.size | (have := hb8'.size; simp; omega)) _))).trans hb9)
                        | (refine step_app rowP (by rfl) (.tmp 77) (.tmp 80) (by rfl) V0.heap.size q9 cp9 ((o.take kk) ++ [x]) pd (cp - kk) (o.drop kk) (kk + 1) (o.length - kk) (o.length + 1) (by first | (simp; done) | (simp; omega)) (by simp) (unhide Hlen) (by rfl) (by rw [unhide Hpd]; rfl) hown9 (unhide HSd _ hb9') (by unfold maxLen; omega) (by omega) (by have := hb9'.size; simpa using this) ?_; intro q10 cp10 w10 hown10 hb10 _ _; have hb10' := hb9'.trans hb10)))
                      all_goals
                        have HNx : Hid (NewP w.heap.size w10 q10 cp10 (putAt o kk x)) := hide (OwnK.newP (hown10.mono (unhide BV).size))
                        have Hb10 := hide (below_sub (unhide BV) hb10')
                        have Hpp : Hid ((putAt o kk x).Perm (l.take (m + 1))) := hide (by rw [take_snoc (unhide Hx)]; exact (put_perm o kk x).trans ((unhide Hp).append_right [x]))
                        have Hss : Hid (Strict nmP (putAt o kk x)) := hide (put_strict (unhide Hs) (take_less (unhide Hlo)) (drop_more (unhide Hs) (unhide Hne) (unhide Hnl)))
                        have Hoo : Hid (∀ y ∈ putAt o kk x, fit2 al y) := hide (fun y hy => by
                          rcases List.mem_append.1 ((put_perm o kk x).mem_iff.1 hy) with h | h
                          · exact unhide Hok y h
                          · obtain rfl : y = x := by simpa using h
                            exact unhide Hft)
                        clear hown8 hown9 hown10 hb8 hb9 hb10 hb8' hb9' hb10' hg8 g0 g1 g2 g3 hpV
                        go_wp2
                        go_roundw
                        case rel => exact ⟨m + 1, putAt o kk x, q10, cp10, by omega, by go_num, by rw [put_length], Hpp, Hss, HNx, Hoo, unhide Hb10⟩
                        case measure => simp [intOf]; omega
                  · have kk5 : ¬ (kk : Int) < (o.length : Int) := by omega
                    have Hnl : Hid (∀ y, o[kk]? = some y → Op.bytesLess (nmP y) (nmP x) = false) := hide (fun z hz => absurd (List.getElem?_eq_some_iff.1 hz).1 hkl)
                    go_wp2
                    refine wp_region_quiet_below (by assumption) (by kernel_rfl) ?_
                    repeat (go_big_quiet_step (fail))
                    refine wpQuiet_nil ?_
                    intro _ hw'
                    obtain ⟨⟨dq', osq'⟩, hw''⟩ := hw'
                    subst hw''
                    have hBV := below_regrown wr dq' osq'
                    obtain ⟨g0, g1, g2, g3⟩ := unhide Hzz (grow (redrawn wr dq') osq') (below_sub (unhide Hbel2) hBV)
                    have hpV : hp < (grow (redrawn wr dq') osq').heap.size := by have h1 := (below_sub (unhide Hbel2) hBV).size; have h2 := unhide Hhp; omega
                    have hAoV : PrsAt (grow (redrawn wr dq') osq') g 0 o := (unhide HAo).below hBV (unhide Hg)
                    have hgV : g < (grow (redrawn wr dq') osq').heap.size := Nat.lt_of_lt_of_le (unhide Hg) hBV.size
                    have BV := hide (below_sub (below_sub (unhide Hbel0) (unhide BV1)) (below_sub (unhide Hbel2) hBV))
                    clear hBV y0 y1 y2 y3 v0 v1 v2 v3
                    generalize grow (redrawn wr dq') osq' = V0 at *
                    obtain ⟨pd, hpd⟩ : ∃ pd : Option Addr, pd = if cp = kk then some ⟨g, 0, none⟩ else some ⟨g, kk * 4, none⟩ := ⟨_, rfl⟩
                    have HSt : Hid (∀ V, Below V0.heap.size V0 V → SrcK encP 4 V (some ⟨g, 0, none⟩) cp (o.take kk)) := hide (fun V hv => SrcK.ofP (fun h => by cases h) (fun _ => ⟨g, 0, rfl, Nat.lt_of_lt_of_le hgV hv.size, (hAoV.below hv hgV).take kk⟩))
                    have HSd : Hid (∀ V, Below V0.heap.size V0 V → SrcK encP 4 V pd (cp - kk) (o.drop kk)) := hide (fun V hv => SrcK.ofP (fun h => by rw [hpd] at h; split at h <;> cases h) (fun h0 => by
                      have h1 : ¬ cp = kk := by first | (simp at h0; done) | (simp at h0; omega)
                      exact ⟨g, kk * 4, by rw [hpd, if_neg h1], Nat.lt_of_lt_of_le hgV hv.size, by simpa using (hAoV.below hv hgV).drop kk⟩))
                    have Hpd := hide hpd
                    have Hlen : Hid (kk + 1 + (o.length - kk) = o.length + 1) := hide (by omega)
                    clear hpd hAoV hgV
                    go_wp2
                    go_region_held3 (fun w' => w'.cell? ⟨hp, 0, none⟩ = some (.string x.1) ∧ w'.cell? ⟨hp, 1, none⟩ = some (.int .i64 x.2.1) ∧ w'.cell? ⟨hp, 2, none⟩ = some (.int .i64 x.2.2.1) ∧ w'.cell? ⟨hp, 3, none⟩ = some (.string x.2.2.2)) (first | go_keep | exact ⟨(hb10'.cell (p := ⟨hp, 0, none⟩) hpV).trans g0, (hb10'.cell (p := ⟨hp, 1, none⟩) hpV).trans g1, (hb10'.cell (p := ⟨hp, 2, none⟩) hpV).trans g2, (hb10'.cell (p := ⟨hp, 3, none⟩) hpV).trans g3⟩ | exact ⟨(hb9'.cell (p := ⟨hp, 0, none⟩) hpV).trans g0, (hb9'.cell (p := ⟨hp, 1, none⟩) hpV).trans g1, (hb9'.cell (p := ⟨hp, 2, none⟩) hpV).trans g2, (hb9'.cell (p := ⟨hp, 3, none⟩) hpV).trans g3⟩ | exact ⟨(hb8'.cell (p := ⟨hp, 0, none⟩) hpV).trans g0, (hb8'.cell (p := ⟨hp, 1, none⟩) hpV).trans g1, (hb8'.cell (p := ⟨hp, 2, none⟩) hpV).trans g2, (hb8'.cell (p := ⟨hp, 3, none⟩) hpV).trans g3⟩) ((first
                      | (refine step_app rowP (by rfl) (.tmp 70) (.tmp 73) (by rfl) V0.heap.size (some ⟨V0.heap.size, 0, none⟩) 0 [] (some ⟨g, 0, none⟩) cp (o.take kk) 0 kk kk rfl (by first | (simp; done) | (simp; omega)) (by simp) (by rfl) (by rfl) (by first | exact OwnK.made _ _ (Nat.le_refl _) | exact (OwnK.made _ _ (Nat.le_refl _)).below (by repeat (first | exact Below.refl _ _ | refine Below.drew ?_ | refine Below.alloc ?_ (by first | exact Nat.le_refl _ | (simp; done) | (simp; omega)) _))) (unhide HSt _ (by repeat (first | exact Below.refl _ _ | refine Below.drew ?_ | refine Below.alloc ?_ (by first | exact Nat.le_refl _ | (simp; done) | (simp; omega)) _))) (by unfold maxLen; omega) (by omega) (by first | (simp; done) | (simp; omega)) ?_; intro q8 cp8 w8 hown8 hb8 _ hg8; have hb8' : Below V0.heap.size V0 w8 := Below.trans (by repeat (first | exact Below.refl _ _ | refine Below.drew ?_ | refine Below.alloc ?_ (by first | exact Nat.le_refl _ | (simp; done) | (simp; omega)) _)) hb8)
                      | (refine step_app rowP (by rfl) (.tmp 70) (.tmp 73) (by rfl) V0.heap.size (some ⟨V0.heap.size + 1, 0, none⟩) 0 [] (some ⟨g, 0, none⟩) cp (o.take kk) 0 kk kk rfl (by first | (simp; done) | (simp; omega)) (by simp) (by rfl) (by rfl) (OwnK.made_at _ _ (V0.alloc (.cells #[.string x.1, .int .i64 x.2.1, .int .i64 x.2.2.1, .string x.2.2.2] 52)) (by simp) (by simp)) (unhide HSt _ (by repeat (first | exact Below.refl _ _ | refine Below.drew ?_ | refine Below.alloc ?_ (by first | exact Nat.le_refl _ | (simp; done) | (simp; omega)) _))) (by unfold maxLen; omega) (by omega) (by first | (simp; done) | (simp; omega)) ?_; intro q8 cp8 w8 hown8 hb8 _ hg8; have hb8' : Below V0.heap.size V0 w8 := Below.trans (by repeat (first | exact Below.refl _ _ | refine Below.drew ?_ | refine Below.alloc ?_ (by first | exact Nat.le_refl _ | (simp; done) | (simp; omega)) _)) hb8)
                      | (refine step_app rowP (by rfl) (.tmp 74) (.tmp 76) (by rfl) V0.heap.size q8 cp8 (o.take kk) (some ⟨w8.heap.size, 0, none⟩) 1 [x] kk 1 (kk + 1) (by first | (simp; done) | (simp; omega)) rfl rfl (by rfl) (by rfl) (hown8.below (by repeat (first | exact Below.refl _ _ | refine Below.drew ?_ | refine Below.alloc ?_ (by first | exact Nat.le_refl _ | (simp; done) | (simp; omega)) _))) (SrcK.ofP (fun h => by cases h) (PrsOf.one (by simp) (by go_simp) (by go_simp) (by go_simp) (by go_simp))) (by unfold maxLen; omega) (by omega) (by have := hb8'.size; simp; omega) ?_; intro q9 cp9 w9 hown9 hb9 _ _; have hb9' : Below V0.heap.size V0 w9 := (hb8'.trans (by repeat (first | exact Below.refl _ _ | refine Below.drew ?_ | refine Below.alloc ?_ (by first | exact Nat.le_refl _ | exact hb8'.size | (have := hb8'.size; simp; omega)) _))).trans hb9)
                      | (refine step_app rowP (by rfl) (.tmp 74) (.tmp 76) (by rfl) V0.heap.size q8 cp8 (o.take kk) (some ⟨V0.heap.size + 1, 0, none⟩) 1 [x] kk 1 (kk + 1) (by first | (simp; done) | (simp; omega)) rfl rfl (by rfl) (by rfl) (hown8.below (by repeat (first | exact Below.refl _ _ | refine Below.drew ?_ | refine Below.alloc ?_ (by first | exact Nat.le_refl _ | (simp; done) | (simp; omega)) _))) (SrcK.ofP (fun h => by cases h) (PrsOf.one (by have := hg8.size; simp at this; omega) (by rw [hg8.cell_far _ (by first | (simp; done) | (simp; omega)) (by simp [Value.ownBlock])]; go_simp) (by rw [hg8.cell_far _ (by first | (simp; done) | (simp; omega)) (by simp [Value.ownBlock])]; go_simp) (by rw [hg8.cell_far _ (by first | (simp; done) | (simp; omega)) (by simp [Value.ownBlock])]; go_simp) (by rw [hg8.cell_far _ (by first | (simp; done) | (simp; omega)) (by simp [Value.ownBlock])]; go_simp))) (by unfold maxLen; omega) (by omega) (by have := hb8'.size; simp; omega) ?_; intro q9 cp9 w9 hown9 hb9 _ _; have hb9' : Below V0.heap.size V0 w9 := (hb8'.trans (by repeat (first | exact Below.refl _ _ | refine Below.drew ?_ | refine Below.alloc ?_ (by first | exact Nat.le_refl _ | exact hb8'.size | (have := hb8'.size; simp; omega)) _))).trans hb9)
                      | (refine step_app rowP (by rfl) (.tmp 74) (.tmp 76) (by rfl) V0.heap.size q8 cp8 (o.take kk) (some ⟨V0.heap.size, 0, none⟩) 1 [x] kk 1 (kk + 1) (by first | (simp; done) | (simp; omega)) rfl rfl (by rfl) (by rfl) (hown8.below (by repeat (first | exact Below.refl _ _ | refine Below.drew ?_ | refine Below.alloc ?_ (by first | exact Nat.le_refl _ | (simp; done) | (simp; omega)) _))) (SrcK.ofP (fun h => by cases h) (PrsOf.one (by have := hg8.size; simp at this; omega) (by rw [hg8.cell_far _ (by first | (simp; done) | (simp; omega)) (by simp [Value.ownBlock])]; go_simp) (by rw [hg8.cell_far _ (by first | (simp; done) | (simp; omega)) (by simp [Value.ownBlock])]; go_simp) (by rw [hg8.cell_far _ (by first | (simp; done) | (simp; omega)) (by simp [Value.ownBlock])]; go_simp) (by rw [hg8.cell_far _ (by first | (simp; done) | (simp; omega)) (by simp [Value.ownBlock])]; go_simp))) (by unfold maxLen; omega) (by omega) (by have := hb8'.size; simp; omega) ?_; intro q9 cp9 w9 hown9 hb9 _ _; have hb9' : Below V0.heap.size V0 w9 := (hb8'.trans (by repeat (first | exact Below.refl _ _ | refine Below.drew ?_ | refine Below.alloc ?_ (by first | exact Nat.le_refl _ | exact hb8'.size | (have := hb8'.size; simp; omega)) _))).trans hb9)
                      | (refine step_app rowP (by rfl) (.tmp 77) (.tmp 80) (by rfl) V0.heap.size q9 cp9 ((o.take kk) ++ [x]) pd (cp - kk) (o.drop kk) (kk + 1) (o.length - kk) (o.length + 1) (by first | (simp; done) | (simp; omega)) (by simp) (unhide Hlen) (by rfl) (by rw [unhide Hpd]; rfl) hown9 (unhide HSd _ hb9') (by unfold maxLen; omega) (by omega) (by have := hb9'.size; simpa using this) ?_; intro q10 cp10 w10 hown10 hb10 _ _; have hb10' := hb9'.trans hb10)))
                    all_goals
                      have HNx : Hid (NewP w.heap.size w10 q10 cp10 (putAt o kk x)) := hide (OwnK.newP (hown10.mono (unhide BV).size))
                      have Hb10 := hide (below_sub (unhide BV) hb10')
                      have Hpp : Hid ((putAt o kk x).Perm (l.take (m + 1))) := hide (by rw [take_snoc (unhide Hx)]; exact (put_perm o kk x).trans ((unhide Hp).append_right [x]))
                      have Hss : Hid (Strict nmP (putAt o kk x)) := hide (put_strict (unhide Hs) (take_less (unhide Hlo)) (drop_more (unhide Hs) (unhide Hne) (unhide Hnl)))
                      have Hoo : Hid (∀ y ∈ putAt o kk x, fit2 al y) := hide (fun y hy => by
                        rcases List.mem_append.1 ((put_perm o kk x).mem_iff.1 hy) with h | h
                        · exact unhide Hok y h
                        · obtain rfl : y = x := by simpa using h
                          exact unhide Hft)
                      clear hown8 hown9 hown10 hb8 hb9 hb10 hb8' hb9' hb10' hg8 g0 g1 g2 g3 hpV
                      go_wp2
                      go_roundw
                      case rel => exact ⟨m + 1, putAt o kk x, q10, cp10, by omega, by go_num, by rw [put_length], Hpp, Hss, HNx, Hoo, unhide Hb10⟩
                      case measure => simp [intOf]; omega
          · have Hno := hide (not_fit (al := al) (unhide Hx) (fun h => c3 h.2.2))
            have k3 : (chkV x.2.1 x.2.2.1 x.2.2.2 != 0) = true := by simpa using c3
            clear c3
            generalize chkV x.2.1 x.2.2.1 x.2.2.2 = r at hck k3
            refine wp_region_quiet_below (by assumption) (by kernel_rfl) ?_
            repeat (go_big_quiet_step (first
              | (go_at_fn 18; refine Calls.regrown_of (hkx _ _))
              | (go_at_fn 36; refine Calls.regrown_of (hck _))))
            refine wpQuiet_nil ?_
            intro _ hw'
            obtain ⟨⟨dq, osq⟩, hw''⟩ := hw'
            subst hw''
            go_wp2
            go_ret2
            exact ⟨Or.inl ⟨unhide Hno, rfl⟩, below_sub (unhide Hbel0) (below_sub (unhide BV0) (below_regrown _ _ _))⟩
        · have Hno := hide (not_fit (al := al) (unhide Hx) (fun h => c2 h.2.1))
          have k1 : (kindOf al x.1 == 0) = false := by simpa using c1
          have k2 : (kindOf al x.1 != x.2.1) = true := by simpa using c2
          clear c1 c2
          generalize kindOf al x.1 = r at hkx k1 k2
          refine wp_region_quiet_below (by assumption) (by kernel_rfl) ?_
          repeat (go_big_quiet_step (first
            | (go_at_fn 18; refine Calls.regrown_of (hkx _ _))
            | (go_at_fn 36; refine Calls.regrown_of (hck _))))
          refine wpQuiet_nil ?_
          intro _ hw'
          obtain ⟨⟨dq, osq⟩, hw''⟩ := hw'
          subst hw''
          go_wp2
          go_ret2
          exact ⟨Or.inl ⟨unhide Hno, rfl⟩, below_sub (unhide Hbel0) (below_sub (unhide BV0) (below_regrown _ _ _))⟩
    · obtain rfl : m = l.length := by omega
      have Hp2 : Hid (o.Perm l) := hide (by have := unhide Hp; rwa [List.take_length] at this)
      go_wp2
      go_ret2
      exact ⟨Or.inr ⟨fun y hy => unhide Hok y ((unhide Hp2).mem_iff.2 hy), strict_nodup (unhide Hs) (unhide Hp2), q, cp, o, rfl, unhide Hp2, unhide Hs, unhide HN⟩, hbel⟩
end Go.Proofs.Ytojeihchkdkkgab

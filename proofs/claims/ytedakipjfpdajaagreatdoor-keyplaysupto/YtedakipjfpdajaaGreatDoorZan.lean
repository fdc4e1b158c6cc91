/- key.firsts over any list: for each name the first pair, in the order of the names. -/
import Derived.Test.YtedakipjfpdajaaGreatDoorZam
import Derived.Test.YtedakipjfpdajaaGreatDoorStV
import Derived.Test.YtedakipjfpdajaaGreatDoorEvH
import Derived.Test.YtedakipjfpdajaaGreatDoorRefA
import Derived.Deep.Cut
import Derived.Test.YtedakipjfpdajaaGreatDoorZag
namespace Go.Proofs.YtedakipjfpdajaaGreatDoor
open Go.RowKit Go.Sort Go.Shelf

/-- Nothing is sorted where there is nothing. -/
theorem insR0 (q : Option Addr) (c : Nat) (f : Value) (w : World) : Calls Tryz.prog 152 #[.slice q 0 c, .int .i64 0, .int .i64 0, f] w fun e w' => e = .returned (.tuple #[]) ∧ w' = w := by
  go_enter Tryz.func152, Tryz.ntmps152
  go_wp2
  go_loopw [8] (fun i wr => i = .int .i64 1 ∧ wr = w) (fun _ _ => 0)
  case atStart => exact ⟨rfl, rfl⟩
  case round =>
    obtain ⟨rfl, hw⟩ := hrel
    obtain rfl := hw.symm
    go_wp2
    go_end0
    exact ⟨rfl, rfl⟩
theorem stabR0 (q : Option Addr) (c : Nat) (f : Value) (w : World) : Calls Tryz.prog 145 #[.slice q 0 c, .int .i64 0, f] w fun e w' => e = .returned (.tuple #[]) ∧ w' = w := by
  have hi := insR0 q c f w
  go_enter Tryz.func145, Tryz.ntmps145
  go_wp2
  go_loopw [7, 8] (fun a b wr => a = .int .i64 0 ∧ b = .int .i64 20 ∧ wr = w) (fun _ _ _ => 0)
  case atStart => exact ⟨rfl, rfl, rfl⟩
  case round =>
    obtain ⟨rfl, rfl, hw⟩ := hrel
    obtain rfl := hw.symm
    go_wp2_with (go_at_call 152; refine hi.mono ?_; rintro e w1 ⟨rfl, hw1⟩; obtain rfl := hw1.symm)
    go_loopw [6] (fun a wr => a = .int .i64 20 ∧ wr = w) (fun _ _ => 0)
    case atStart => exact ⟨rfl, rfl⟩
    case round =>
      obtain ⟨rfl, hw⟩ := hrel
      obtain rfl := hw.symm
      go_wp2
      go_end0
      exact ⟨rfl, rfl⟩
/-- slices.stableCmpFunc over any list of the call's own. -/
theorem stable_any (B : Nat) (q : Option Addr) (cap : Nat) (l : List Pr) (w : World) (h : OwnK encR 42 4 B w q cap l) (hl : l.length < 1152921504606846976) :
    Calls Tryz.prog 145 #[.slice q l.length cap, .int .i64 l.length, .func (.func 66) #[] #[]] w fun e w' => e = .returned (.tuple #[]) ∧ ∃ D, Sd D ∧ Stb l D ∧ OwnK encR 42 4 B w' q cap D ∧ Below B w w' := by
  by_cases h0 : 0 < l.length
  · obtain ⟨g, rfl, _⟩ := someR h h0
    exact stable B g cap l.length l w h rfl hl
  · obtain rfl : l = [] := List.length_eq_zero_iff.1 (by omega)
    refine (stabR0 q cap _ w).mono ?_
    rintro e w' ⟨he, hw⟩
    subst hw
    exact ⟨he, [], sd_nil, Stb.refl _, h, Below.refl _ _⟩
theorem sortR (B : Nat) (q : Option Addr) (cap : Nat) (l : List Pr) (w : World) (h : OwnK encR 42 4 B w q cap l) (hl : l.length < 1152921504606846976) :
    Calls Tryz.prog 115 #[.slice q l.length cap, .func (.func 66) #[] #[]] w fun e w' => e = .returned (.tuple #[]) ∧ ∃ D, Sd D ∧ Stb l D ∧ OwnK encR 42 4 B w' q cap D ∧ Below B w w' := by
  have hi := stable_any B q cap l w h hl
  have hlz : (l.length : Int) < 1152921504606846976 := by omega
  clear h
  go_enter Tryz.func115, Tryz.ntmps115
  go_wp2_with (go_at_call 145; refine hi.mono ?_; rintro e w1 ⟨rfl, HH⟩; have HH := hide HH)
  go_end0
  exact ⟨rfl, unhide HH⟩
theorem sortedR (Bs : Nat) (p : Option Addr) (c : Nat) (l : List Pr) (w : World) (hl : l.length * 48 ≤ 140737488355328) (hBs : Bs < w.heap.size) (hcell : w.cell? ⟨Bs, 0, none⟩ = some (.slice p l.length c)) (hc : SlOf encR 4 w p c l) :
    Calls Tryz.prog 69 #[.func (.func 116) #[] #[.pointer (some ⟨Bs, 0, none⟩)], .func (.func 66) #[] #[]] w fun e w' => (∃ q cap D, e = .returned (.slice q l.length cap) ∧ Sd D ∧ Stb l D ∧ OwnK encR 42 4 w.heap.size w' q cap D) ∧ Below w.heap.size w w' := by
  have h := collectR Bs p c l hl w hBs hcell hc
  clear hcell hc
  have hl2 : l.length < 1152921504606846976 := by omega
  go_enter Tryz.func69, Tryz.ntmps69
  go_wp2_with (first
    | (go_at_call 114; refine h.mono ?_; rintro e w1 ⟨⟨q, cap, rfl, ho⟩, hb⟩; have HS := hide (sortR _ q cap l _ ho hl2); have HB := hide hb; clear ho hb)
    | (go_at_call 115; refine (unhide HS).mono ?_; rintro e w2 ⟨rfl, D, s1, s2, o2, b2⟩; have HD := hide (show Sd D ∧ Stb l D from ⟨s1, s2⟩); have HO := hide o2; have HB2 := hide ((unhide HB).trans b2); clear s1 s2 o2 b2))
  go_ret
  exact ⟨⟨q, cap, D, rfl, (unhide HD).1, (unhide HD).2, unhide HO⟩, unhide HB2⟩
/-- key.firsts: sorted by names and stable, then the first of each name. -/
theorem firsts_of (p : Option Addr) (c : Nat) (l : List Pr) (w : World) (hl : l.length * 48 ≤ 140737488355328) (hc : SlOf encR 4 w p c l) :
    Calls Tryz.prog 30 #[.slice p l.length c] w fun e w' => (∃ q cap D, e = .returned (.slice q (cptR D).length cap) ∧ Sd D ∧ Stb l D ∧ OwnK encR 42 4 w.heap.size w' q cap (cptR D)) ∧ Below w.heap.size w w' := by
  have hal : Below w.heap.size w (w.alloc (.cells #[.slice p l.length c] 26)) := (Below.refl _ _).alloc (Nat.le_refl _) _
  have hs := sortedR w.heap.size p c l (w.alloc (.cells #[.slice p l.length c] 26)) hl (by simp) (Boxed.new w 26 _).cell (hc.below hal)
  have hv := valuesR p l.length c w
  have HAL := hide hal
  have hC : ∀ (q : Option Addr) (cap : Nat) (D : List Pr) (w2 : World), Stb l D → OwnK encR 42 4 (w.alloc (.cells #[.slice p l.length c] 26)).heap.size w2 q cap D → Below (w.alloc (.cells #[.slice p l.length c] 26)).heap.size (w.alloc (.cells #[.slice p l.length c] 26)) w2 →
      Calls Tryz.prog 68 #[.slice q l.length cap, .func (.func 67) #[] #[]] w2 fun e w' => e = .returned (.slice q (cptR D).length cap) ∧ OwnK encR 42 4 w.heap.size w' q cap (cptR D) ∧ Below w.heap.size w2 w' := by
    intro q cap D w2 s2 ho hb
    have h1 : w.heap.size ≤ (w.alloc (.cells #[.slice p l.length c] 26)).heap.size := by simp
    have h2 := compactR w.heap.size q cap D w2 (ho.mono h1) (Nat.le_trans h1 hb.size) (by have := s2.1; omega)
    rw [s2.1] at h2
    exact h2
  clear hc hal hl
  go_enter Tryz.func30, Tryz.ntmps30
  go_wp2_with (first
    | (go_at_call 70; refine hv.mono ?_; rintro e w1 ⟨rfl, rfl⟩)
    | (go_at_call 69; refine hs.mono ?_; rintro e w2 ⟨⟨q, cap, D, rfl, s1, s2, ho⟩, hb⟩; have HD := hide (show Sd D ∧ Stb l D from ⟨s1, s2⟩); have HC := hide (hC q cap D w2 s2 ho hb); have HB := hide hb; clear ho hb s1 s2)
    | (go_at_call 68; refine (unhide HC).mono ?_; rintro e w3 ⟨rfl, o3, b3⟩; have HO := hide o3; have HB3 := hide b3; clear o3 b3))
  go_ret
  exact ⟨⟨q, cap, D, rfl, (unhide HD).1, (unhide HD).2, unhide HO⟩, (below_sub (unhide HAL) (unhide HB)).trans (unhide HB3)⟩
end Go.Proofs.YtedakipjfpdajaaGreatDoor
namespace Go.Proofs.YtedakipjfpdajaaGreatDoor
open Go.RowKit Go.Sort Go.Shelf

def nmIs (nm : ByteArray) (x : Pr) : Bool := x.name.data.toList == nm.data.toList
theorem nm_iff {nm : ByteArray} {x : Pr} : nmIs nm x = true ↔ x.name = nm := by
  unfold nmIs
  exact ⟨fun h => bytes_ext (by simpa using h), fun h => by simp [h]⟩
theorem nm_no {nm : ByteArray} {x : Pr} (h : x.name ≠ nm) : nmIs nm x = false := by
  rw [Bool.eq_false_iff]
  exact fun e => h (nm_iff.1 e)
theorem getP_find (s : ByteArray) (l : List Pr) : getP s l = l.find? (nmIs s) := by
  induction l with
  | nil => rfl
  | cons x l ih =>
    rw [List.find?_cons]
    show (if x.name.toList == s.toList then some x else getP s l) = _
    rw [ByteArray.toList_eq, ByteArray.toList_eq, ih]
    show (if nmIs s x = true then some x else _) = _
    cases nmIs s x <;> rfl
theorem stb_find {l D : List Pr} (h : Stb l D) (nm : ByteArray) : D.find? (nmIs nm) = l.find? (nmIs nm) := by
  rw [← List.head?_filter, ← List.head?_filter]
  exact congrArg List.head? (h.2 nm)
theorem sd_exists (l : List Pr) : ∃ D, Sd D ∧ Stb l D := by
  obtain ⟨j1, j2, j3⟩ := outer_spec (a := 0) (b := l.length) (l.length - 1) 1 l.toArray (by omega) (by omega) (by simp) (srt_one _ _)
  obtain ⟨M', _, h1, h2⟩ := seg_of (P := []) (M := l) (S := []) (a := 0) (b := l.length) rfl (by simp) (by simpa using j1) (by simpa using j2) j3
  exact ⟨M', h1, h2⟩
theorem sd_unique : ∀ (D D' : List Pr), Sd D → Sd D' → (∀ nm, D.filter (nmIs nm) = D'.filter (nmIs nm)) → D = D'
  | [], D', _, _, h => by
    cases D' with
    | nil => rfl
    | cons y T =>
      have := h y.name
      rw [List.filter_cons, if_pos (nm_iff.2 rfl)] at this
      cases this
  | x :: T, D', hs, hs', h => by
    cases D' with
    | nil =>
      have := h x.name
      rw [List.filter_cons, if_pos (nm_iff.2 rfl)] at this
      cases this
    | cons y T' =>
      have m1 : ∀ u, u ∈ x :: T → u ∈ y :: T' := fun u hu => by
        have : u ∈ (x :: T).filter (nmIs u.name) := List.mem_filter.2 ⟨hu, nm_iff.2 rfl⟩
        rw [h] at this
        exact (List.mem_filter.1 this).1
      have m2 : ∀ u, u ∈ y :: T' → u ∈ x :: T := fun u hu => by
        have : u ∈ (y :: T').filter (nmIs u.name) := List.mem_filter.2 ⟨hu, nm_iff.2 rfl⟩
        rw [← h] at this
        exact (List.mem_filter.1 this).1
      have c1 : cmpN y x ≤ 0 := by
        rcases List.mem_cons.1 (m1 x (by simp)) with e | e
        · rw [e]; exact Int.le_of_eq (cmpN_zero.2 rfl)
        · exact (List.pairwise_cons.1 hs').1 x e
      have c2 : cmpN x y ≤ 0 := by
        rcases List.mem_cons.1 (m2 y (by simp)) with e | e
        · rw [e]; exact Int.le_of_eq (cmpN_zero.2 rfl)
        · exact (List.pairwise_cons.1 hs).1 y e
      have hn : x.name = y.name := cmpN_zero.1 (by have := cmpN_neg x y; omega)
      have he := h x.name
      rw [List.filter_cons, if_pos (nm_iff.2 rfl), List.filter_cons, if_pos (nm_iff.2 hn.symm)] at he
      obtain ⟨rfl, _⟩ := List.cons.inj he
      rw [sd_unique T T' (List.pairwise_cons.1 hs).2 (List.pairwise_cons.1 hs').2 fun nm => ?_]
      have := h nm
      rw [List.filter_cons, List.filter_cons] at this
      by_cases e : nmIs nm x = true
      · rw [if_pos e, if_pos e] at this; exact (List.cons.inj this).2
      · rw [if_neg e, if_neg e] at this; exact this
theorem cptR_mem : ∀ (n : Nat) (D : List Pr), D.length = n → Sd D → ∀ x, x ∈ cptR D ↔ D.find? (nmIs x.name) = some x
  | 0, D, h, _, x => by
    obtain rfl := List.length_eq_zero_iff.1 h
    simp [cptR]
  | n + 1, D, h, hs, x => by
    rcases List.eq_nil_or_concat D with rfl | ⟨L, y, hD⟩
    · simp at h
    · rw [List.concat_eq_append] at hD
      subst hD
      obtain ⟨h1, _, h3⟩ := sd_app.1 hs
      have ih := cptR_mem n L (by simpa using h) h1
      rw [cptR_snoc, List.find?_append]
      unfold stepR
      split
      · next hl =>
        have hz : ∃ z ∈ L, z.name = y.name := by
          cases hg : (cptR L).getLast? with
          | none => rw [hg] at hl; cases hl
          | some z =>
            rw [hg] at hl
            have hz1 : z ∈ cptR L := List.mem_of_getLast? hg
            exact ⟨z, List.mem_of_find?_eq_some ((ih z).1 hz1), Option.some.inj hl⟩
        rw [ih x]
        by_cases e : x.name = y.name
        · cases hf : L.find? (nmIs x.name) with
          | none =>
            obtain ⟨z, hz1, hz2⟩ := hz
            exact absurd (nm_iff.2 (hz2.trans e.symm)) (List.find?_eq_none.1 hf z hz1)
          | some u => simp
        · have : [y].find? (nmIs x.name) = none := by rw [List.find?_cons, nm_no (Ne.symm e)]; rfl
          rw [this, Option.or_none]
      · next hl =>
        have hn : ∀ z ∈ L, z.name ≠ y.name := by
          intro z hz e
          rcases List.eq_nil_or_concat L with rfl | ⟨L', u, hD⟩
          · cases hz
          · rw [List.concat_eq_append] at hD
            subst hD
            rw [cptR_snoc, stepR_last] at hl
            have hu : u.name ≠ y.name := fun e => hl (by rw [e])
            have c1 : cmpN z u ≤ 0 := by
              rcases List.mem_append.1 hz with hz | hz
              · exact (sd_app.1 h1).2.2 z hz u (by simp)
              · obtain rfl : z = u := by simpa using hz
                exact Int.le_of_eq (cmpN_zero.2 rfl)
            have c2 := h3 u (by simp) y (by simp)
            have c3 : cmpN y u ≤ 0 := by unfold cmpN at *; rw [← e]; exact c1
            exact hu (cmpN_zero.1 (by have := cmpN_neg u y; omega))
        rw [List.mem_append, ih x]
        by_cases e : x.name = y.name
        · have hf : L.find? (nmIs x.name) = none := List.find?_eq_none.2 fun z hz h => hn z hz ((nm_iff.1 h).trans e)
          have hg : [y].find? (nmIs x.name) = some y := by rw [List.find?_cons, nm_iff.2 e.symm]
          rw [hf, hg]
          simp [eq_comm]
        · have hg : [y].find? (nmIs x.name) = none := by rw [List.find?_cons, nm_no (Ne.symm e)]; rfl
          have hxy : x ≠ y := fun h => e (by rw [h])
          rw [hg, Option.or_none]
          simp [hxy]
theorem cptR_len (l : List Pr) : (cptR l).length ≤ l.length := by
  have : ∀ (l acc : List Pr), (l.foldl stepR acc).length ≤ acc.length + l.length := by
    intro l
    induction l with
    | nil => intro acc; simp
    | cons x l ih =>
      intro acc
      rw [List.foldl_cons]
      refine Nat.le_trans (ih _) ?_
      unfold stepR
      split <;> simp <;> omega
  simpa [cptR] using this l []
/-- The first pair of each name, in the order of the names. -/
noncomputable def fstR (l : List Pr) : List Pr := cptR (sd_exists l).choose
theorem fstR_mem (l : List Pr) (x : Pr) : x ∈ fstR l ↔ getP x.name l = some x := by
  unfold fstR
  obtain ⟨h1, h2⟩ := (sd_exists l).choose_spec
  rw [cptR_mem _ _ rfl h1, stb_find h2, getP_find]
theorem fstR_len (l : List Pr) : (fstR l).length ≤ l.length := by
  unfold fstR
  have h := (sd_exists l).choose_spec.2.1
  have := cptR_len (sd_exists l).choose
  omega
theorem fstR_of {l D : List Pr} (h1 : Sd D) (h2 : Stb l D) : cptR D = fstR l := by
  unfold fstR
  obtain ⟨g1, g2⟩ := (sd_exists l).choose_spec
  rw [sd_unique D (sd_exists l).choose h1 g1 fun nm => (h2.2 nm).trans (g2.2 nm).symm]
/-- key.firsts. -/
theorem firsts_any (p : Option Addr) (c : Nat) (l : List Pr) (w : World) (hl : l.length * 48 ≤ 140737488355328) (hc : SlOf encR 4 w p c l) :
    Calls Tryz.prog 30 #[.slice p l.length c] w fun e w' => (∃ q cap, e = .returned (.slice q (fstR l).length cap) ∧ OwnK encR 42 4 w.heap.size w' q cap (fstR l)) ∧ Below w.heap.size w w' := by
  refine (firsts_of p c l w hl hc).mono ?_
  rintro e w' ⟨⟨q, cap, D, rfl, s1, s2, ho⟩, hb⟩
  rw [fstR_of s1 s2] at *
  exact ⟨⟨q, cap, rfl, ho⟩, hb⟩
end Go.Proofs.YtedakipjfpdajaaGreatDoor
namespace Go.Proofs.YtedakipjfpdajaaGreatDoor
open Go.RowKit Go.Sort Go.Shelf

def stepF (acc : List Pr) (x : Pr) : List Pr := if (getP x.name acc).isSome = true then acc else acc ++ [x]
def fstL (l : List Pr) : List Pr := l.foldl stepF []
theorem fstL_snoc (l : List Pr) (x : Pr) : fstL (l ++ [x]) = stepF (fstL l) x := by unfold fstL; rw [List.foldl_append]; rfl
theorem fstL_take {l : List Pr} {k : Nat} {x : Pr} (hx : l[k]? = some x) : fstL (l.take (k + 1)) = stepF (fstL (l.take k)) x := by rw [take_snoc_of hx, fstL_snoc]
theorem fstL_len (l : List Pr) : (fstL l).length ≤ l.length := by
  have : ∀ (l acc : List Pr), (l.foldl stepF acc).length ≤ acc.length + l.length := by
    intro l
    induction l with
    | nil => intro acc; simp
    | cons x l ih =>
      intro acc
      rw [List.foldl_cons]
      refine Nat.le_trans (ih _) ?_
      unfold stepF
      split <;> simp <;> omega
  simpa [fstL] using this l []
theorem getP_app (s : ByteArray) (a b : List Pr) : getP s (a ++ b) = (getP s a).or (getP s b) := by
  rw [getP_find, getP_find, getP_find, List.find?_append]
theorem getP_one (s : ByteArray) (y : Pr) : getP s [y] = if y.name = s then some y else none := by
  rw [getP_find, List.find?_cons]
  by_cases h : y.name = s
  · rw [nm_iff.2 h, if_pos h]
  · rw [nm_no h, if_neg h]; rfl
theorem fstL_facts : ∀ (n : Nat) (l : List Pr), l.length = n → (∀ s, getP s (fstL l) = getP s l) ∧ ∀ x, x ∈ fstL l ↔ getP x.name l = some x
  | 0, l, h => by
    obtain rfl := List.length_eq_zero_iff.1 h
    exact ⟨fun _ => rfl, fun x => by simp [fstL, getP]⟩
  | n + 1, l, h => by
    rcases List.eq_nil_or_concat l with rfl | ⟨L, y, hD⟩
    · simp at h
    · rw [List.concat_eq_append] at hD
      subst hD
      obtain ⟨i1, i2⟩ := fstL_facts n L (by simpa using h)
      rw [fstL_snoc]
      unfold stepF
      rw [i1]
      cases hg : getP y.name L with
      | some z =>
        simp only [Option.isSome_some, if_true]
        have key : ∀ s, getP s (L ++ [y]) = getP s L := by
          intro s
          rw [getP_app, getP_one]
          by_cases e : y.name = s
          · rw [← e, hg]; rfl
          · rw [if_neg e, Option.or_none]
        exact ⟨fun s => by rw [key, i1], fun x => by rw [key, i2]⟩
      | none =>
        rw [if_neg (by simp)]
        refine ⟨fun s => by rw [getP_app, getP_app, i1], fun x => ?_⟩
        rw [List.mem_append, i2, getP_app, getP_one, List.mem_singleton]
        by_cases e : y.name = x.name
        · rw [← e, hg, if_pos rfl]
          simp [eq_comm]
        · have hxy : x ≠ y := fun h => e (by rw [h])
          rw [if_neg e, Option.or_none]
          simp [hxy]
theorem fstL_mem (l : List Pr) (x : Pr) : x ∈ fstL l ↔ getP x.name l = some x := (fstL_facts _ l rfl).2 x
theorem below_sub2 {w w1 w2 : World} (h : Below w.heap.size w w1) (h2 : Below w1.heap.size w1 w2) : Below w.heap.size w w2 := below_sub h h2
set_option maxHeartbeats 2000000 in
set_option maxRecDepth 100000 in
/-- trommelref12.First. -/
theorem refFirst (p : Option Addr) (c : Nat) (l : List Pr) (w : World) (hl : l.length * 48 ≤ 140737488355328) (hc : SlOf encR 4 w p c l) :
    Calls Tryz.prog 37 #[.slice p l.length c] w fun e w' => (∃ q cap, e = .returned (.slice q (fstL l).length cap) ∧ OwnK encR 42 4 w.heap.size w' q cap (fstL l)) ∧ Below w.heap.size w w' := by
  have lz : (l.length : Int) ≤ 2932031007402 := by omega
  have S := hide hc
  clear hc
  go_enter Tryz.func37, Tryz.ntmps37
  go_wp2
  go_loopw [3, 4] (fun ov iv wr => ∃ (k m : Nat) (q : Option Addr) (cp : Nat), k ≤ l.length ∧ Hid (m = (fstL (l.take k)).length) ∧ m ≤ k ∧ ov = .slice q m cp ∧ iv = .int .i64 k ∧ Hid (OwnK encR 42 4 w.heap.size wr q cp (fstL (l.take k))) ∧ Hid (Below w.heap.size w wr)) (fun _ iv _ => l.length - (intOf iv).toNat)
  case atStart => exact ⟨0, 0, none, 0, Nat.zero_le _, hide (by simp [fstL]), Nat.le_refl _, rfl, rfl, hide (by simpa [fstL] using OwnK.nil _ _), hide (Below.refl _ _)⟩
  case round =>
    obtain ⟨k, m, q, cp, hk, HM, hmk, rfl, rfl, HO, HB⟩ := hrel
    have sB := (unhide HB).size
    by_cases hlt : k < l.length
    · obtain ⟨x, hx, _⟩ := get_at hlt
      obtain ⟨bs, os, hqs, hbs, r0, r1, r2, r3⟩ := pairAt (unhide S) hx
      subst hqs
      have p0 := ((unhide HB).cell (p := ⟨bs, os + k * 4, none⟩) hbs).trans r0
      have k0 : (0 : Int) ≤ (k : Int) := by omega
      have k1 : (k : Int) < (l.length : Int) := by omega
      have HT := hide (fstL_take hx)
      obtain ⟨K, hK⟩ : ∃ K, fstL (l.take k) = K := ⟨_, rfl⟩
      rw [hK] at HM HO HT
      have hc0 := refGet_any q cp K x.name wr (by have := unhide HM; omega) (unhide HO).ls
      rw [← unhide HM] at hc0
      cases hg : getP x.name K with
      | some y =>
        have HT2 := hide (show fstL (l.take (k + 1)) = K by have := unhide HT; unfold stepF at this; rw [hg] at this; simpa using this)
        rw [hg] at hc0
        simp only [getV] at hc0
        clear hx hK hg r0 r1 r2 r3
        go_wp2_with (go_at_call 77; refine hc0.mono ?_; rintro e w2 ⟨rfl, b2⟩; have B2 := hide b2; have s2 := b2.size; clear b2)
        go_roundw
        case rel =>
          have bA : Below wr.heap.size wr (w2.alloc (.cells #[.int .i64 y.kind, .int .i64 y.num, .string y.word] 40)) := below_sub (unhide B2) ((Below.refl _ _).alloc (Nat.le_refl _) _)
          exact ⟨k + 1, m, q, cp, by omega, hide (by rw [unhide HT2]; exact unhide HM), by omega, rfl, by go_num, hide (by rw [unhide HT2]; exact (unhide HO).below bA), hide (below_sub2 (unhide HB) bA)⟩
        case measure => simp [intOf]; omega
      | none =>
        have HT2 := hide (show fstL (l.take (k + 1)) = K ++ [x] by have := unhide HT; unfold stepF at this; rw [hg] at this; simpa using this)
        rw [hg] at hc0
        simp only [getV] at hc0
        have R := hide (show w.cell? ⟨bs, os + k * 4, none⟩ = some (.string x.name) ∧ w.cell? ⟨bs, os + k * 4 + 1, none⟩ = some (.int .i64 x.kind) ∧ w.cell? ⟨bs, os + k * 4 + 2, none⟩ = some (.int .i64 x.num) ∧ w.cell? ⟨bs, os + k * 4 + 3, none⟩ = some (.string x.word) from ⟨r0, r1, r2, r3⟩)
        clear hx hK hg r0 r1 r2 r3
        go_upto_region 6 with (go_at_call 77; refine hc0.mono ?_; rintro e w2 ⟨rfl, b2⟩; have B2 := hide b2; have s2 := b2.size; clear b2)
        have bA : Below wr.heap.size wr (w2.alloc (.cells #[.int .i64 0, .int .i64 0, .string ⟨#[]⟩] 40)) := below_sub (unhide B2) ((Below.refl _ _).alloc (Nat.le_refl _) _)
        generalize w2.alloc (.cells #[.int .i64 0, .int .i64 0, .string ⟨#[]⟩] 40) = W3 at bA ⊢
        have BA := hide bA
        have BW := hide (below_sub2 (unhide HB) bA)
        have sW := bA.size
        have q0 := ((unhide BW).cell (p := ⟨bs, os + k * 4, none⟩) hbs).trans (unhide R).1
        have q1 := ((unhide BW).cell (p := ⟨bs, os + k * 4 + 1, none⟩) hbs).trans (unhide R).2.1
        have q2 := ((unhide BW).cell (p := ⟨bs, os + k * 4 + 2, none⟩) hbs).trans (unhide R).2.2.1
        have q3 := ((unhide BW).cell (p := ⟨bs, os + k * 4 + 3, none⟩) hbs).trans (unhide R).2.2.2
        clear bA p0 hc0
        go_wp2_with (at_builtin; refine wpList_app rowR rfl _ _ rfl w.heap.size q cp K (some ⟨W3.heap.size, 0, none⟩) 1 [x] m 1 (m + 1) (unhide HM).symm rfl rfl rfl rfl (((unhide HO).below (unhide BA)).below ((Below.refl _ _).alloc (Nat.le_refl _) _)) (pr_src (World.alloc_heap_new _ _)) (by unfold maxLen; omega) (by omega) (by simp; omega) ?_; intro q5 c5 w5 ho5 hb5 _ _; have HO5 := hide ho5; have HB5 := hide (((unhide BW).alloc (by omega) _).trans hb5); clear ho5 hb5)
        go_roundw
        case rel => exact ⟨k + 1, m + 1, q5, c5, by omega, hide (by rw [unhide HT2, List.length_append, ← unhide HM]; rfl), by omega, rfl, by go_num, hide (by rw [unhide HT2]; exact unhide HO5), HB5⟩
        case measure => simp [intOf]; omega
    · obtain rfl : k = l.length := by omega
      have k1 : ¬ (l.length : Int) < (l.length : Int) := by omega
      go_wp2
      go_ret
      have ho := unhide HO
      have hm := unhide HM
      rw [List.take_length] at ho hm
      exact ⟨⟨q, cp, by rw [hm]; rfl, ho⟩, unhide HB⟩
end Go.Proofs.YtedakipjfpdajaaGreatDoor
namespace Go.Proofs.YtedakipjfpdajaaGreatDoor

theorem div_iff {p q d : Nat} (hd : 0 < d) (h : d ∣ p) : q / d = p / d ↔ p ≤ q ∧ q < p + d := by
  obtain ⟨k, rfl⟩ := h
  rw [Nat.mul_div_cancel_left k hd]
  rw [Nat.div_eq_iff hd]
  rw [Nat.mul_comm d k]
  omega
theorem cover_stab : ∀ (n p r q : Nat), r ≤ n → r < 2 ^ 64 →
    ((∃ x ∈ cover p r, q / 2 ^ x.1 = x.2) ↔ p ≤ q ∧ q < p + r) ∧ (∀ x ∈ cover p r, ∀ y ∈ cover p r, q / 2 ^ x.1 = x.2 → q / 2 ^ y.1 = y.2 → x = y) ∧ ∀ x ∈ cover p r, 2 ^ x.1 ≤ r
  | 0, p, r, q, h, _ => by
    obtain rfl : r = 0 := by omega
    rw [cover_zero]
    refine ⟨⟨fun ⟨x, hx, _⟩ => by simp at hx, fun h => by omega⟩, fun x hx => by simp at hx, fun x hx => by simp at hx⟩
  | n + 1, p, r, q, h, hr => by
    by_cases h0 : r = 0
    · subst h0
      rw [cover_zero]
      refine ⟨⟨fun ⟨x, hx, _⟩ => by simp at hx, fun h => by omega⟩, fun x hx => by simp at hx, fun x hx => by simp at hx⟩
    · have hp : 0 < r := by omega
      have hd := lv_dvd p r
      have hle := lv_le p r hp hr
      have hpos : 0 < 2 ^ lv p r := Nat.pow_pos (by decide)
      rw [cover_step p r hp]
      generalize lv p r = l at *
      obtain ⟨i1, i2, i3⟩ := cover_stab n (p + 2 ^ l) (r - 2 ^ l) q (by omega) (by omega)
      have hh := div_iff (q := q) hpos hd
      refine ⟨⟨?_, ?_⟩, ?_, ?_⟩
      · rintro ⟨x, hx, hq⟩
        rcases List.mem_cons.1 hx with rfl | hx
        · have := hh.1 hq
          omega
        · have := i1.1 ⟨x, hx, hq⟩
          omega
      · rintro ⟨a, b⟩
        by_cases e : q < p + 2 ^ l
        · exact ⟨(l, p / 2 ^ l), by simp, hh.2 ⟨a, e⟩⟩
        · obtain ⟨x, hx, hq⟩ := i1.2 ⟨by omega, by omega⟩
          exact ⟨x, by simp [hx], hq⟩
      · intro x hx y hy hqx hqy
        rcases List.mem_cons.1 hx with rfl | hx <;> rcases List.mem_cons.1 hy with rfl | hy
        · rfl
        · have h1 := hh.1 hqx
          have h2 := i1.1 ⟨y, hy, hqy⟩
          omega
        · have h1 := hh.1 hqy
          have h2 := i1.1 ⟨x, hx, hqx⟩
          omega
        · exact i2 x hx y hy hqx hqy
      · intro x hx
        rcases List.mem_cons.1 hx with rfl | hx
        · exact hle
        · exact Nat.le_trans (i3 x hx) (Nat.sub_le _ _)
end Go.Proofs.YtedakipjfpdajaaGreatDoor

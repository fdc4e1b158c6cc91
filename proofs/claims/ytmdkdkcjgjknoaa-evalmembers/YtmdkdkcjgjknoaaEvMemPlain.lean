/- The law EvalMembers returns true, whatever it is given. -/
import Derived.Test.YtmdkdkcjgjknoaaEvFixed
import Derived.Test.YtmdkdkcjgjknoaaLeaves2
namespace Go.Proofs.Ytmdkdkcjgjknoaa
open Go.RowKit Go.Sort

theorem check_leaf2 (kind : Int) (attr : ByteArray) (qi : Option Addr) (ci : Nat) (ints : List Int) (qw : Option Addr) (cw : Nat) (words : List ByteArray) (lo hi : Int) (qk : Option Addr) (ck : Nat) (w : World) (h1 : SlOf encI 1 w qi ci ints) (h2 : SlOf encS 1 w qw cw words) (l1 : ints.length ≤ 100000000000000) (l2 : words.length ≤ 100000000000000) :
    Calls Try.prog 27 #[.agg #[.int .i64 kind, .string attr, .slice qi ints.length ci, .slice qw words.length cw, .int .i64 lo, .int .i64 hi, .int .i64 1, .slice qk 0 ck]] w fun e w' => e = .returned (.int .i64 (code (predB kind attr ints words lo hi))) ∧ Below w.heap.size w w' := by
  have B0 := hide ((Below.refl w.heap.size w).alloc (Nat.le_refl _) (.cells #[.int .i64 kind, .string attr, .slice qi ints.length ci, .slice qw words.length cw, .int .i64 lo, .int .i64 hi, .int .i64 1, .slice qk 0 ck] 31))
  have hp := pred_any kind attr qi ci ints qw cw words lo hi _ (h1.below (unhide B0)) (h2.below (unhide B0)) (by omega) (by omega)
  clear h1 h2
  cases hq : predB kind attr ints words lo hi with
  | false =>
    rw [hq] at hp
    simp only [code, Bool.false_eq_true, if_false] at hp ⊢
    clear hq
    go_enter Try.func27, Try.ntmps27
    go_wp2_with (go_at_call 35; refine hp.mono ?_; rintro e w1 ⟨rfl, b1⟩; obtain ⟨z1, d6, d7⟩ := box8 b1; have B1 := hide b1; clear b1)
    go_ret
    exact ⟨rfl, below_sub (unhide B0) (unhide B1)⟩
  | true =>
    rw [hq] at hp
    simp only [code, if_true] at hp ⊢
    clear hq
    go_enter Try.func27, Try.ntmps27
    go_wp2_with (go_at_call 35; refine hp.mono ?_; rintro e w1 ⟨rfl, b1⟩; obtain ⟨z1, d6, d7⟩ := box8 b1; have B1 := hide b1; clear b1)
    go_loopw [49] (fun i wr => i = .int .i64 0 ∧ Below w.heap.size w wr) (fun _ _ => 0)
    case atStart => exact ⟨rfl, below_sub (unhide B0) (unhide B1)⟩
    case round =>
      obtain ⟨rfl, hbel⟩ := hrel
      have HB := hide hbel
      clear hbel
      go_wp2
      go_ret
      exact ⟨rfl, unhide HB⟩
theorem check_leafV {kind : Int} {attr : ByteArray} {ints : List Int} {words : List ByteArray} {lo hi : Int} (v : Nv) (w : World) (h : NdIn w v (.mk kind attr ints words lo hi 1 [])) (l1 : ints.length ≤ 100000000000000) (l2 : words.length ≤ 100000000000000) :
    Calls Try.prog 27 #[v.val] w fun e w' => e = .returned (.int .i64 (code (predB kind attr ints words lo hi))) ∧ Below w.heap.size w w' := by
  obtain ⟨qi, ci, qw, cw, qk, ck, rfl, h1, h2, _⟩ := h.parts
  exact check_leaf2 kind attr qi ci ints qw cw words lo hi qk ck w h1 h2 l1 l2
theorem eval_leaf {kind : Int} {attr : ByteArray} {ints : List Int} {words : List ByteArray} {lo hi : Int} (v : Nv) (qe : Option Addr) (ce : Nat) (ev : List Pr) (w : World) (hin : NdIn w v (.mk kind attr ints words lo hi 1 [])) (he : SlOf encP 4 w qe ce ev) (l1 : ints.length ≤ 100000000000000) (l2 : words.length ≤ 100000000000000) (l3 : ev.length ≤ 100000000000000) :
    Calls Try.prog 10 #[v.val, .slice qe ev.length ce] w fun e w' => e = .returned (.bool (holdsB kind attr ints words lo hi ev)) ∧ Below w.heap.size w w' := by
  have hc : chkN (.mk kind attr ints words lo hi 1 []) = predB kind attr ints words lo hi := by simp [chkN, chkL, nodeB]
  have ht : truN ev (.mk kind attr ints words lo hi 1 []) = holdsB kind attr ints words lo hi ev := by simp [truN]
  have he1 : evalN ev (.mk kind attr ints words lo hi 1 []) = holdsB kind attr ints words lo hi ev := by
    unfold evalN
    rw [hc, ht]
    cases hp : predB kind attr ints words lo hi with
    | true => simp
    | false => rw [holdsB_no hp]; rfl
  rw [← he1]
  refine eval_of _ v qe ce ev w (fun W hb => ?_) (fun _ W hb => ?_)
  · rw [hc]; exact check_leafV v W (hin.keep hb) l1 l2
  · rw [ht]
    obtain ⟨qi, ci, qw, cw, qk, ck, rfl, h1, h2, _⟩ := (hin.keep hb).parts
    exact truth_pred kind attr qi ci ints qw cw words lo hi 1 qk ck [] qe ce ev W (he.below hb) rfl h1 h2 l1 l2 l3
theorem get_one (a : ByteArray) (k n : Int) (s : ByteArray) : getP a [⟨a, k, n, s⟩] = some ⟨a, k, n, s⟩ := by simp [getP]
theorem holds_one (kind : Int) (attr : ByteArray) (ints : List Int) (words : List ByteArray) (lo hi k n : Int) (s : ByteArray) : holdsB kind attr ints words lo hi [⟨attr, k, n, s⟩] = (predB kind attr ints words lo hi && (decide (chkV k n s = 0) && toldB kind ints words lo hi ⟨attr, k, n, s⟩)) := by
  unfold holdsB
  rw [get_one]
theorem pb1 (attr : ByteArray) (x : Int) : predB 1 attr [x] [] 0 0 = (nameOk attr && numOk x) := by simp [predB, memB, emptyB]
theorem pb3 (attr : ByteArray) (x : Int) : predB 3 attr [] [] x x = (nameOk attr && numOk x) := by simp [predB, emptyB]
theorem pb2 (attr : ByteArray) (x : ByteArray) : predB 2 attr [] [x] 0 0 = (nameOk attr && wordOk x) := by simp [predB, memB, emptyB]
theorem pb4 (attr : ByteArray) (x : ByteArray) : predB 4 attr [] [x] 0 0 = (nameOk attr && wordOk x) := by simp [predB, memB, emptyB]
theorem told13 (attr : ByteArray) (x k n : Int) (s : ByteArray) : toldB 3 [] [] x x ⟨attr, k, n, s⟩ = toldB 1 [x] [] 0 0 ⟨attr, k, n, s⟩ := by
  have : (decide (x ≤ n) && decide (n ≤ x)) = (n == x) := by
    by_cases h : n = x
    · subst h; simp
    · have : ¬ (x ≤ n ∧ n ≤ x) := by omega
      rw [show (n == x) = false from by simpa using h]
      simp; omega
  simp [toldB, hasI, this]
theorem range_same (attr : ByteArray) (x k n : Int) (s : ByteArray) : holdsB 3 attr [] [] x x [⟨attr, k, n, s⟩] = holdsB 1 attr [x] [] 0 0 [⟨attr, k, n, s⟩] := by
  rw [holds_one, holds_one, pb1, pb3, told13]
theorem one_int {attr : ByteArray} {x k n : Int} {s : ByteArray} (h : holdsB 1 attr [x] [] 0 0 [⟨attr, k, n, s⟩] = true) : k = 1 ∧ n = x := by
  rw [holds_one] at h
  simp [toldB, hasI] at h
  exact ⟨h.2.2.1, h.2.2.2⟩
theorem one_wrd {attr : ByteArray} {x : ByteArray} {k n : Int} {s : ByteArray} (h : holdsB 2 attr [] [x] 0 0 [⟨attr, k, n, s⟩] = true) : k = 2 ∧ (s.toList == x.toList) = true := by
  rw [holds_one] at h
  simp [toldB, hasS] at h
  exact ⟨h.2.2.1, by simp [h.2.2.2]⟩
theorem bytes_eq {a b : ByteArray} (h : (a.toList == b.toList) = true) : a = b := by
  have h := eq_of_beq h
  rw [ByteArray.toList_eq, ByteArray.toList_eq] at h
  exact WideShapes.bytes_inj h
theorem pref_self (s : ByteArray) : prefB s s = true := by
  simp [prefB]
theorem pref_of {attr : ByteArray} {x : ByteArray} {k n : Int} {s : ByteArray} (h : holdsB 2 attr [] [x] 0 0 [⟨attr, k, n, s⟩] = true) : holdsB 4 attr [] [x] 0 0 [⟨attr, k, n, s⟩] = true := by
  obtain ⟨h1, h2⟩ := one_wrd h
  obtain rfl := bytes_eq h2
  rw [holds_one, pb2] at h
  rw [holds_one, pb4]
  simp only [Bool.and_eq_true] at h ⊢
  refine ⟨h.1, h.2.1, ?_⟩
  simp [toldB, h1, pref_self]
theorem any_and {α : Type} (b : Bool) (f : α → Bool) (l : List α) : l.any (fun x => b && f x) = (b && l.any f) := by
  cases b with
  | true => simp
  | false => simp
theorem any_congr' {α : Type} {f g : α → Bool} {l : List α} (h : ∀ x ∈ l, f x = g x) : l.any f = l.any g := by
  induction l with
  | nil => rfl
  | cons x l ih => simp only [List.any_cons, h x List.mem_cons_self, ih (fun y hy => h y (List.mem_cons_of_mem _ hy))]
theorem set_any {attr : ByteArray} {ints : List Int} {k n : Int} {s : ByteArray} (h : predB 1 attr ints [] 0 0 = true) : holdsB 1 attr ints [] 0 0 [⟨attr, k, n, s⟩] = ints.any (fun x => holdsB 1 attr [x] [] 0 0 [⟨attr, k, n, s⟩]) := by
  have hp : nameOk attr = true ∧ ∀ x ∈ ints, numOk x = true := by
    simp [predB, memB] at h
    exact ⟨h.1, h.2.1.1⟩
  rw [holds_one, h, any_congr' (g := fun x => (decide (chkV k n s = 0) && (k == 1)) && (n == x)) (fun x hx => by
    rw [holds_one, pb1, hp.1, hp.2 x hx]
    simp [toldB, hasI, Bool.and_assoc]), any_and]
  simp [toldB, hasI, Bool.and_assoc]
theorem wset_any {attr : ByteArray} {words : List ByteArray} {k n : Int} {s : ByteArray} (h : predB 2 attr [] words 0 0 = true) : holdsB 2 attr [] words 0 0 [⟨attr, k, n, s⟩] = words.any (fun x => holdsB 2 attr [] [x] 0 0 [⟨attr, k, n, s⟩]) := by
  have hp : nameOk attr = true ∧ ∀ x ∈ words, wordOk x = true := by
    simp [predB, memB] at h
    exact ⟨h.1, h.2.1.1⟩
  rw [holds_one, h, any_congr' (g := fun x => (decide (chkV k n s = 0) && (k == 2)) && (s.toList == x.toList)) (fun x hx => by
    rw [holds_one, pb2, hp.1, hp.2 x hx]
    simp [toldB, hasS, Bool.and_assoc]), any_and]
  simp [toldB, hasS, Bool.and_assoc]
end Go.Proofs.Ytmdkdkcjgjknoaa

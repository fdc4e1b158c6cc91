/- Expressions as trees: the plain data, and how they lie in memory. -/
import Derived.Test.YtimklglliffpcaaGreatQZaa
import Derived.Test.YtimklglliffpcaaGreatQName
import Derived.Lib.SmallJoins
import Derived.Lib.AppendIntMem
import Derived.RangeFuncNested
import Derived.RangeFuncBound
import Derived.RangeFuncCalls
import Derived.RangeFuncLeaves
import Derived.RangeFuncBox
import Derived.Shelf.Abstract
import Derived.OwnWalkIn
import Derived.TacticsInMore
import Derived.LoopNIn
import Derived.LoopIn
import Derived.Lib.SlicesCompact
import Derived.Sort.Walk0
namespace Go.Proofs.YtimklglliffpcaaGreat
open Go.RowKit

inductive Nd where
  | mk (kind : Int) (attr : ByteArray) (ints : List Int) (words : List ByteArray) (lo hi op : Int) (kids : List Nd)
namespace Nd
def kids : Nd → List Nd
  | .mk _ _ _ _ _ _ _ ks => ks
theorem ind {P : Nd → Prop} (h : ∀ kind attr ints words lo hi op kids, (∀ x ∈ kids, P x) → P (.mk kind attr ints words lo hi op kids)) (t : Nd) : P t :=
  Nd.rec (motive_1 := P) (motive_2 := fun l => ∀ x ∈ l, P x) (fun kind attr ints words lo hi op kids ih => h kind attr ints words lo hi op kids ih)
    (fun x hx => by simp at hx) (fun x xs hx hxs y hy => by
      rcases List.mem_cons.1 hy with rfl | hy
      · exact hx
      · exact hxs y hy) t
end Nd
/-- The value of a node. -/
def Nv.val (v : Nv) : Value := .agg #[.int .i64 v.kind, .string v.attr, .slice v.qi v.ni v.ci, .slice v.qw v.nw v.cw, .int .i64 v.lo, .int .i64 v.hi, .int .i64 v.op, .slice v.qk v.nk v.ck]
/-- The tree of the node v lies in memory. -/
inductive NdIn (w : World) : Nv → Nd → Prop
  | mk {kind : Int} {attr : ByteArray} {ints : List Int} {words : List ByteArray} {lo hi op : Int} {kids : List Nd} {qi : Option Addr} {ci : Nat} {qw : Option Addr} {cw : Nat} {qk : Option Addr} {ck : Nat} {vs : List Nv} :
      SlOf encI 1 w qi ci ints → SlOf encS 1 w qw cw words → SlOf encV 8 w qk ck vs → vs.length = kids.length → (∀ (j : Nat) (v : Nv) (x : Nd), vs[j]? = some v → kids[j]? = some x → NdIn w v x) →
      NdIn w ⟨kind, attr, qi, ints.length, ci, qw, words.length, cw, lo, hi, op, qk, kids.length, ck⟩ (.mk kind attr ints words lo hi op kids)
theorem NdIn.keep {w w' : World} {v : Nv} {t : Nd} (h : NdIn w v t) (hb : Below w.heap.size w w') : NdIn w' v t := by
  induction h with
  | mk hi hw hk hl hr ih => exact .mk (hi.below hb) (hw.below hb) (hk.below hb) hl fun j v x hj hx => ih j v x hj hx
/-- A list of nodes in memory. -/
def NdsOf (w : World) (q : Option Addr) (c : Nat) (l : List Nd) : Prop := ∃ vs, SlOf encV 8 w q c vs ∧ vs.length = l.length ∧ ∀ (j : Nat) (v : Nv) (x : Nd), vs[j]? = some v → l[j]? = some x → NdIn w v x
theorem NdsOf.below {w w' : World} {q : Option Addr} {c : Nat} {l : List Nd} (h : NdsOf w q c l) (hb : Below w.heap.size w w') : NdsOf w' q c l := by
  obtain ⟨vs, h1, h2, h3⟩ := h
  exact ⟨vs, h1.below hb, h2, fun j v x hj hx => (h3 j v x hj hx).keep hb⟩
theorem NdIn.parts {w : World} {v : Nv} {kind : Int} {attr : ByteArray} {ints : List Int} {words : List ByteArray} {lo hi op : Int} {kids : List Nd} (h : NdIn w v (.mk kind attr ints words lo hi op kids)) :
    ∃ qi ci qw cw qk ck, v = ⟨kind, attr, qi, ints.length, ci, qw, words.length, cw, lo, hi, op, qk, kids.length, ck⟩ ∧ SlOf encI 1 w qi ci ints ∧ SlOf encS 1 w qw cw words ∧ NdsOf w qk ck kids := by
  cases h with
  | mk hi hw hk hl hr => exact ⟨_, _, _, _, _, _, rfl, hi, hw, _, hk, hl, hr⟩
theorem NdIn.make {w : World} {kind : Int} {attr : ByteArray} {ints : List Int} {words : List ByteArray} {lo hi op : Int} {kids : List Nd} {qi : Option Addr} {ci : Nat} {qw : Option Addr} {cw : Nat} {qk : Option Addr} {ck : Nat}
    (h1 : SlOf encI 1 w qi ci ints) (h2 : SlOf encS 1 w qw cw words) (h3 : NdsOf w qk ck kids) : NdIn w ⟨kind, attr, qi, ints.length, ci, qw, words.length, cw, lo, hi, op, qk, kids.length, ck⟩ (.mk kind attr ints words lo hi op kids) := by
  obtain ⟨vs, k1, k2, k3⟩ := h3
  exact .mk h1 h2 k1 k2 k3
/-- The j-th kid: its cells, and its tree. -/
theorem NdsOf.at {w : World} {q : Option Addr} {c : Nat} {l : List Nd} {j : Nat} {x : Nd} (h : NdsOf w q c l) (hj : l[j]? = some x) :
    ∃ b off v, q = some ⟨b, off, none⟩ ∧ b < w.heap.size ∧ NdIn w v x ∧ w.cell? ⟨b, off + j * 8, none⟩ = some (.int .i64 v.kind) ∧ w.cell? ⟨b, off + j * 8 + 1, none⟩ = some (.string v.attr) ∧ w.cell? ⟨b, off + j * 8 + 2, none⟩ = some (.slice v.qi v.ni v.ci) ∧ w.cell? ⟨b, off + j * 8 + 3, none⟩ = some (.slice v.qw v.nw v.cw) ∧ w.cell? ⟨b, off + j * 8 + 4, none⟩ = some (.int .i64 v.lo) ∧ w.cell? ⟨b, off + j * 8 + 5, none⟩ = some (.int .i64 v.hi) ∧ w.cell? ⟨b, off + j * 8 + 6, none⟩ = some (.int .i64 v.op) ∧ w.cell? ⟨b, off + j * 8 + 7, none⟩ = some (.slice v.qk v.nk v.ck) := by
  obtain ⟨vs, h1, h2, h3⟩ := h
  have hl : j < l.length := (List.getElem?_eq_some_iff.1 hj).1
  obtain ⟨v, hv, _⟩ := get_at (l := vs) (k := j) (by omega)
  obtain ⟨b, off, hq, hb, hc⟩ := h1.2.2.2.at hv
  exact ⟨b, off, v, hq, hb, h3 j v x hv hj, cells8 hc⟩
/-- The same, seen from a later world. -/
theorem NdsOf.on {w wr : World} {q : Option Addr} {c : Nat} {l : List Nd} {j : Nat} {x : Nd} (h : NdsOf w q c l) (hj : l[j]? = some x) (hbel : Below w.heap.size w wr) :
    ∃ b off v, q = some ⟨b, off, none⟩ ∧ NdIn wr v x ∧ wr.cell? ⟨b, off + j * 8, none⟩ = some (.int .i64 v.kind) ∧ wr.cell? ⟨b, off + j * 8 + 1, none⟩ = some (.string v.attr) ∧ wr.cell? ⟨b, off + j * 8 + 2, none⟩ = some (.slice v.qi v.ni v.ci) ∧ wr.cell? ⟨b, off + j * 8 + 3, none⟩ = some (.slice v.qw v.nw v.cw) ∧ wr.cell? ⟨b, off + j * 8 + 4, none⟩ = some (.int .i64 v.lo) ∧ wr.cell? ⟨b, off + j * 8 + 5, none⟩ = some (.int .i64 v.hi) ∧ wr.cell? ⟨b, off + j * 8 + 6, none⟩ = some (.int .i64 v.op) ∧ wr.cell? ⟨b, off + j * 8 + 7, none⟩ = some (.slice v.qk v.nk v.ck) := by
  obtain ⟨b, off, v, hq, hb, hin, c⟩ := (h.below hbel).at hj
  exact ⟨b, off, v, hq, hin, c⟩
theorem intsAt {w : World} {q : Option Addr} {c : Nat} {l : List Int} {j : Nat} {x : Int} (h : SlOf encI 1 w q c l) (hj : l[j]? = some x) : ∃ b off, q = some ⟨b, off, none⟩ ∧ b < w.heap.size ∧ w.cell? ⟨b, off + j, none⟩ = some (.int .i64 x) := by
  obtain ⟨b, off, hq, hb, hc⟩ := h.2.2.2.at hj
  exact ⟨b, off, hq, hb, by have := hc 0 (by omega); rw [Nat.mul_one] at this; exact this⟩
theorem wordsAt {w : World} {q : Option Addr} {c : Nat} {l : List ByteArray} {j : Nat} {x : ByteArray} (h : SlOf encS 1 w q c l) (hj : l[j]? = some x) : ∃ b off, q = some ⟨b, off, none⟩ ∧ b < w.heap.size ∧ w.cell? ⟨b, off + j, none⟩ = some (.string x) := by
  obtain ⟨b, off, hq, hb, hc⟩ := h.2.2.2.at hj
  exact ⟨b, off, hq, hb, by have := hc 0 (by omega); rw [Nat.mul_one] at this; exact this⟩

mutual
/-- How many nodes. -/
def sizeN : Nd → Nat
  | .mk _ _ _ _ _ _ _ ks => 1 + sizeL ks
def sizeL : List Nd → Nat
  | [] => 0
  | x :: xs => sizeN x + sizeL xs
end
def wordsWt : List ByteArray → Nat
  | [] => 0
  | x :: xs => 1 + x.size + wordsWt xs
mutual
/-- How much a tree holds. -/
def wtN : Nd → Nat
  | .mk _ attr ints words _ _ _ ks => 1 + attr.size + ints.length + wordsWt words + wtL ks
def wtL : List Nd → Nat
  | [] => 0
  | x :: xs => wtN x + wtL xs
end
theorem wtL_mem {x : Nd} {l : List Nd} (h : x ∈ l) : wtN x ≤ wtL l := by
  induction l with
  | nil => simp at h
  | cons y l ih =>
    rcases List.mem_cons.1 h with rfl | h
    · simp [wtL]
    · have := ih h; simp only [wtL]; omega
theorem words_len (l : List ByteArray) : l.length ≤ wordsWt l := by
  induction l with
  | nil => simp [wordsWt]
  | cons x l ih => simp only [wordsWt, List.length_cons]; omega
theorem size_wt : ∀ t, sizeN t ≤ wtN t := by
  apply Nd.ind
  intro kind attr ints words lo hi op kids ih
  have : sizeL kids ≤ wtL kids := by
    clear kind attr ints words lo hi op
    induction kids with
    | nil => simp [sizeL]
    | cons x xs ih2 =>
      have h1 := ih x List.mem_cons_self
      have h2 := ih2 fun y hy => ih y (List.mem_cons_of_mem _ hy)
      simp only [wtL, sizeL]; omega
  simp only [wtN, sizeN]; omega
theorem sizeL_wt (l : List Nd) : sizeL l ≤ wtL l := by
  induction l with
  | nil => simp [sizeL]
  | cons x l ih => have := size_wt x; simp only [wtL, sizeL]; omega
theorem take_snoc_of {α : Type} {l : List α} {k : Nat} {x : α} (h : l[k]? = some x) : l.take (k + 1) = l.take k ++ [x] := by
  rw [List.take_add_one, h]; rfl
end Go.Proofs.YtimklglliffpcaaGreat
namespace Go.Proofs.YtimklglliffpcaaGreat
open Go.RowKit

/-- What the listed variables of the library hold. -/
def G (w : World) : Prop := Lib.TabIs Tryz.prog w "internal/strconv.uint64pow10" .u64 Lib.pow10Tab
theorem below_sub {a b c : World} (h : Below a.heap.size a b) (h2 : Below b.heap.size b c) : Below a.heap.size a c := h.trans (h2.mono h.size)

theorem bcell {W w1 : World} (hb : Below W.heap.size W w1) : (∀ b o, b < W.heap.size → w1.cell? ⟨b, o, none⟩ = W.cell? ⟨b, o, none⟩) ∧ (∀ b o, b < W.heap.size → w1.frozen? ⟨b, o, none⟩ = W.frozen? ⟨b, o, none⟩) :=
  ⟨fun b o h => hb.cell (p := ⟨b, o, none⟩) h, fun b o h => hb.frozen (p := ⟨b, o, none⟩) h⟩

theorem toList_ne {a b : ByteArray} (h : a ≠ b) : (a.toList == b.toList) = false := by
  rw [beq_eq_false_iff_ne]
  intro h2
  rw [ByteArray.toList_eq, ByteArray.toList_eq] at h2
  exact h (WideShapes.bytes_inj h2)

end Go.Proofs.YtimklglliffpcaaGreat
namespace Go.Proofs.YtimklglliffpcaaGreat
open Go.RowKit

def numOk (n : Int) : Bool := decide (-2147483648 ≤ n) && decide (n ≤ 2147483647)
def wordOk (s : ByteArray) : Bool := decide (s.size ≤ 64)
theorem chk_num (n : Int) : chkV 1 n ⟨#[]⟩ = if numOk n then 0 else 1 := by
  cases h : numOk n with
  | true =>
    unfold numOk at h
    simp only [Bool.and_eq_true, decide_eq_true_eq] at h
    rw [if_pos rfl]; exact chk_yes1 rfl h.1 h.2 ((empty_iff _).2 rfl)
  | false =>
    unfold numOk at h
    rw [if_neg (by simp)]
    refine chk_no1 rfl fun h2 => ?_
    simp only [Bool.and_eq_false_iff, decide_eq_false_iff_not] at h
    omega
theorem chk_word (s : ByteArray) : chkV 2 0 s = if wordOk s then 0 else 1 := by
  cases h : wordOk s with
  | true =>
    unfold wordOk at h
    simp only [decide_eq_true_eq] at h
    rw [if_pos rfl]; exact chk_yes2 rfl rfl (by omega)
  | false =>
    unfold wordOk at h
    rw [if_neg (by simp)]
    refine chk_no2 rfl fun h2 => ?_
    simp only [decide_eq_false_iff_not] at h
    omega
set_option maxHeartbeats 400000 in
theorem number_any (n : Int) (w : World) : Calls Tryz.prog 156 #[.int .i64 n] w fun e w' => e = .returned (.agg #[.int .i64 1, .int .i64 n, .string ⟨#[]⟩]) ∧ Below w.heap.size w w' := by
  go_enter Tryz.func156, Tryz.ntmps156
  go_wp2
  refine bodyPost_ret (v := .agg #[.int .i64 1, .int .i64 n, .string ⟨#[]⟩]) (by simp [results, Tryz.results156, go_sem]) rfl ⟨rfl, ?_⟩
  exact (Below.refl _ _).alloc (Nat.le_refl _) _
set_option maxHeartbeats 400000 in
theorem word_any (s : ByteArray) (w : World) : Calls Tryz.prog 157 #[.string s] w fun e w' => e = .returned (.agg #[.int .i64 2, .int .i64 0, .string s]) ∧ Below w.heap.size w w' := by
  go_enter Tryz.func157, Tryz.ntmps157
  go_wp2
  refine bodyPost_ret (v := .agg #[.int .i64 2, .int .i64 0, .string s]) (by simp [results, Tryz.results157, go_sem]) rfl ⟨rfl, ?_⟩
  exact (Below.refl _ _).alloc (Nat.le_refl _) _
set_option maxHeartbeats 400000 in
theorem isNumber_any (n : Int) (w : World) : Calls Tryz.prog 112 #[.int .i64 n] w fun e w' => e = .returned (.bool (numOk n)) ∧ Below w.heap.size w w' := by
  have hc := fun w => check_any 1 n ⟨#[]⟩ w
  rw [chk_num] at hc
  cases h : numOk n
  all_goals
    simp only [h, if_true, Bool.false_eq_true, if_false] at hc
    clear h
    go_enter Tryz.func112, Tryz.ntmps112
    go_wp2_with (first
      | (go_at_call 156; refine (number_any n _).mono ?_; rintro e w1 ⟨rfl, b1⟩)
      | (go_at_call 87; refine (hc _).mono ?_; rintro e w2 ⟨rfl, b2⟩))
    go_ret
    exact ⟨rfl, below_sub b1 b2⟩
set_option maxHeartbeats 400000 in
theorem isWord_any (s : ByteArray) (w : World) : Calls Tryz.prog 114 #[.string s] w fun e w' => e = .returned (.bool (wordOk s)) ∧ Below w.heap.size w w' := by
  have hc := fun w => check_any 2 0 s w
  rw [chk_word] at hc
  cases h : wordOk s
  all_goals
    simp only [h, if_true, Bool.false_eq_true, if_false] at hc
    clear h
    go_enter Tryz.func114, Tryz.ntmps114
    go_wp2_with (first
      | (go_at_call 157; refine (word_any s _).mono ?_; rintro e w1 ⟨rfl, b1⟩)
      | (go_at_call 87; refine (hc _).mono ?_; rintro e w2 ⟨rfl, b2⟩))
    go_ret
    exact ⟨rfl, below_sub b1 b2⟩
/-- One member at least, no more than m, and each good. -/
def memB {α : Type} (ok : α → Bool) (l : List α) (m : Int) : Bool := l.all ok && (decide (1 ≤ l.length) && decide ((l.length : Int) ≤ m))
theorem all_no {α : Type} {ok : α → Bool} {l : List α} {k : Nat} {x : α} (hx : l[k]? = some x) (h : ok x = false) (m : Int) : memB ok l m = false := by
  unfold memB
  have : l.all ok = false := by
    rw [List.all_eq_false]; exact ⟨x, List.mem_of_getElem? hx, by simp [h]⟩
  rw [this]; rfl
theorem all_yes {α : Type} {ok : α → Bool} {l : List α} (h : ∀ (j : Nat) (x : α), j < l.length → l[j]? = some x → ok x = true) (m : Int) : memB ok l m = (decide (1 ≤ l.length) && decide ((l.length : Int) ≤ m)) := by
  unfold memB
  have : l.all ok = true := by
    rw [List.all_eq_true]; intro x hx
    obtain ⟨j, hj⟩ := List.getElem?_of_mem hx
    exact h j x (List.getElem?_eq_some_iff.1 hj).1 hj
  rw [this]; rfl
set_option maxHeartbeats 1000000 in
theorem membersI (q : Option Addr) (c : Nat) (l : List Int) (m : Int) (w : World) (h : SlOf encI 1 w q c l) (hl : l.length ≤ 1000000000000000000) :
    Calls Tryz.prog 111 #[.slice q l.length c, .int .i64 m, .func (.func 112) #[] #[]] w fun e w' => e = .returned (.bool (memB numOk l m)) ∧ Below w.heap.size w w' := by
  have HA := hide h
  have a0 : (l.length : Int) ≤ 1000000000000000000 := by omega
  clear h
  go_enter Tryz.func111, Tryz.ntmps111
  go_wp2
  go_loopw [11] (fun i wr => ∃ k : Nat, k ≤ l.length ∧ i = .int .i64 k ∧ (∀ (j : Nat) (x : Int), j < k → l[j]? = some x → numOk x = true) ∧ Below w.heap.size w wr) (fun i _ => l.length - (intOf i).toNat)
  case atStart => exact ⟨0, by omega, rfl, fun j x h => absurd h (by omega), Below.refl _ _⟩
  case round =>
    obtain ⟨k, hk, rfl, hall, hbel⟩ := hrel
    have HALL := hide hall
    have HB := hide hbel
    by_cases hlt : k < l.length
    · obtain ⟨x, hx, hxd⟩ := get_at hlt
      obtain ⟨b, off, hq, hb, hc⟩ := intsAt (unhide HA) hx
      subst hq
      have g := (hbel.cell (p := ⟨b, off + k, none⟩) hb).trans hc
      have ki0 : (0 : Int) ≤ (k : Int) := by omega
      have ki1 : (k : Int) < (l.length : Int) := by omega
      have hn := fun w => isNumber_any x w
      cases hok : numOk x with
      | true =>
        rw [hok] at hn
        have HN := hide (show ∀ (j : Nat) (y : Int), j < k + 1 → l[j]? = some y → numOk y = true from fun j y hj hy => by
          by_cases e : j = k
          · subst e; rw [hx] at hy; cases hy; exact hok
          · exact hall j y (by omega) hy)
        clear hall hbel hxd hx hc hok
        go_wp2_with (go_at_call 112; refine (hn _).mono ?_; rintro e w1 ⟨rfl, b1⟩)
        exact ⟨⟨k + 1, by omega, by go_num, unhide HN, below_sub (unhide HB) b1⟩, by simp [intOf]; omega⟩
      | false =>
        rw [hok] at hn
        have HN := hide (all_no hx hok m)
        clear hall hbel hxd hx hc hok
        go_wp2_with (go_at_call 112; refine (hn _).mono ?_; rintro e w1 ⟨rfl, b1⟩)
        go_ret
        exact ⟨ret_bool (unhide HN).symm, below_sub (unhide HB) b1⟩
    · have ki1 : ¬ (k : Int) < (l.length : Int) := by omega
      have HN := hide (all_yes (ok := numOk) (l := l) (fun j x hj hx => hall j x (by omega) hx) m)
      clear hall hbel
      by_cases h1 : 1 ≤ l.length <;> by_cases h2 : (l.length : Int) ≤ m
      all_goals
        have h3 : decide ((1 : Int) ≤ (l.length : Int)) = decide (1 ≤ l.length) := by simp; omega
        go_wp2
        go_ret
        exact ⟨ret_bool (by rw [unhide HN]; simp [h1, h2]), unhide HB⟩
set_option maxHeartbeats 1000000 in
theorem membersW (q : Option Addr) (c : Nat) (l : List ByteArray) (m : Int) (w : World) (h : SlOf encS 1 w q c l) (hl : l.length ≤ 1000000000000000000) :
    Calls Tryz.prog 113 #[.slice q l.length c, .int .i64 m, .func (.func 114) #[] #[]] w fun e w' => e = .returned (.bool (memB wordOk l m)) ∧ Below w.heap.size w w' := by
  have HA := hide h
  have a0 : (l.length : Int) ≤ 1000000000000000000 := by omega
  clear h
  go_enter Tryz.func113, Tryz.ntmps113
  go_wp2
  go_loopw [11] (fun i wr => ∃ k : Nat, k ≤ l.length ∧ i = .int .i64 k ∧ (∀ (j : Nat) (x : ByteArray), j < k → l[j]? = some x → wordOk x = true) ∧ Below w.heap.size w wr) (fun i _ => l.length - (intOf i).toNat)
  case atStart => exact ⟨0, by omega, rfl, fun j x h => absurd h (by omega), Below.refl _ _⟩
  case round =>
    obtain ⟨k, hk, rfl, hall, hbel⟩ := hrel
    have HALL := hide hall
    have HB := hide hbel
    by_cases hlt : k < l.length
    · obtain ⟨x, hx, hxd⟩ := get_at hlt
      obtain ⟨b, off, hq, hb, hc⟩ := wordsAt (unhide HA) hx
      subst hq
      have g := (hbel.cell (p := ⟨b, off + k, none⟩) hb).trans hc
      have ki0 : (0 : Int) ≤ (k : Int) := by omega
      have ki1 : (k : Int) < (l.length : Int) := by omega
      have hn := fun w => isWord_any x w
      cases hok : wordOk x with
      | true =>
        rw [hok] at hn
        have HN := hide (show ∀ (j : Nat) (y : ByteArray), j < k + 1 → l[j]? = some y → wordOk y = true from fun j y hj hy => by
          by_cases e : j = k
          · subst e; rw [hx] at hy; cases hy; exact hok
          · exact hall j y (by omega) hy)
        clear hall hbel hxd hx hc hok
        go_wp2_with (go_at_call 114; refine (hn _).mono ?_; rintro e w1 ⟨rfl, b1⟩)
        exact ⟨⟨k + 1, by omega, by go_num, unhide HN, below_sub (unhide HB) b1⟩, by simp [intOf]; omega⟩
      | false =>
        rw [hok] at hn
        have HN := hide (all_no hx hok m)
        clear hall hbel hxd hx hc hok
        go_wp2_with (go_at_call 114; refine (hn _).mono ?_; rintro e w1 ⟨rfl, b1⟩)
        go_ret
        exact ⟨ret_bool (unhide HN).symm, below_sub (unhide HB) b1⟩
    · have ki1 : ¬ (k : Int) < (l.length : Int) := by omega
      have HN := hide (all_yes (ok := wordOk) (l := l) (fun j x hj hx => hall j x (by omega) hx) m)
      clear hall hbel
      by_cases h1 : 1 ≤ l.length <;> by_cases h2 : (l.length : Int) ≤ m
      all_goals
        have h3 : decide ((1 : Int) ≤ (l.length : Int)) = decide (1 ≤ l.length) := by simp; omega
        go_wp2
        go_ret
        exact ⟨ret_bool (by rw [unhide HN]; simp [h1, h2]), unhide HB⟩
def emptyB (ni nw : Nat) (lo hi : Int) : Bool := decide (ni = 0) && (decide (nw = 0) && (decide (lo = 0) && decide (hi = 0)))
set_option maxHeartbeats 1000000 in
theorem empty_any (kind : Int) (attr : ByteArray) (qi : Option Addr) (ni ci : Nat) (qw : Option Addr) (nw cw : Nat) (lo hi : Int) (w : World) :
    Calls Tryz.prog 115 #[.agg #[.int .i64 kind, .string attr, .slice qi ni ci, .slice qw nw cw, .int .i64 lo, .int .i64 hi]] w fun e w' => e = .returned (.bool (emptyB ni nw lo hi)) ∧ Below w.heap.size w w' := by
  by_cases h1 : ni = 0 <;> by_cases h2 : nw = 0 <;> by_cases h3 : lo = 0 <;> by_cases h4 : hi = 0
  all_goals
    have i1 := h1; have i2 := h2; have i3 := h3; have i4 := h4
    try subst h1
    try subst h2
    try subst h3
    try subst h4
    go_enter Tryz.func115, Tryz.ntmps115
    go_wp2
    go_ret
    exact ⟨ret_bool (by simp [emptyB, *]), (Below.refl _ _).alloc (Nat.le_refl _) _⟩
end Go.Proofs.YtimklglliffpcaaGreat
namespace Go.Proofs.YtimklglliffpcaaGreat
open Go.RowKit

/-- Is the predicate in form? -/
def predB (kind : Int) (attr : ByteArray) (ints : List Int) (words : List ByteArray) (lo hi : Int) : Bool :=
  nameOk attr && (if kind = 1 then memB numOk ints 64 && emptyB 0 words.length lo hi else if kind = 2 then memB wordOk words 64 && emptyB ints.length 0 lo hi else if kind = 3 then (numOk lo && numOk hi) && emptyB ints.length words.length 0 0 else if kind = 4 then memB wordOk words 1 && emptyB ints.length 0 lo hi else false)
theorem bytes_of_size {s : ByteArray} (h : s.size = 0) : s = ⟨#[]⟩ := WideShapes.bytes_inj (List.length_eq_zero_iff.1 (by simpa using h))
def code (b : Bool) : Int := if b then 0 else 1
/-- The box of a predicate, behind calls. -/
theorem box6 {w w1 : World} {kind : Int} {attr : ByteArray} {qi : Option Addr} {ni ci : Nat} {qw : Option Addr} {nw cw : Nat} {lo hi : Int} (hb : Below (w.alloc (.cells #[.int .i64 kind, .string attr, .slice qi ni ci, .slice qw nw cw, .int .i64 lo, .int .i64 hi] 26)).heap.size (w.alloc (.cells #[.int .i64 kind, .string attr, .slice qi ni ci, .slice qw nw cw, .int .i64 lo, .int .i64 hi] 26)) w1) :
    w.heap.size < w1.heap.size ∧ (w1.cell? ⟨w.heap.size, 0, none⟩ = some (.int .i64 kind) ∧ w1.cell? ⟨w.heap.size, 1, none⟩ = some (.string attr) ∧ w1.cell? ⟨w.heap.size, 2, none⟩ = some (.slice qi ni ci) ∧ w1.cell? ⟨w.heap.size, 3, none⟩ = some (.slice qw nw cw) ∧ w1.cell? ⟨w.heap.size, 4, none⟩ = some (.int .i64 lo) ∧ w1.cell? ⟨w.heap.size, 5, none⟩ = some (.int .i64 hi)) ∧ (w1.frozen? ⟨w.heap.size, 2, none⟩ = false ∧ w1.frozen? ⟨w.heap.size, 3, none⟩ = false ∧ w1.frozen? ⟨w.heap.size, 4, none⟩ = false ∧ w1.frozen? ⟨w.heap.size, 5, none⟩ = false) := by
  have hs := hb.size
  obtain ⟨hc, hf⟩ := bcell hb
  have hlt : w.heap.size < (w.alloc (.cells #[.int .i64 kind, .string attr, .slice qi ni ci, .slice qw nw cw, .int .i64 lo, .int .i64 hi] 26)).heap.size := by simp
  refine ⟨by simp at hs; omega, ⟨?_, ?_, ?_, ?_, ?_, ?_⟩, ⟨?_, ?_, ?_, ?_⟩⟩
  iterate 6 (rw [hc _ _ hlt]; go_simp)
  iterate 4 (rw [hf _ _ hlt]; go_simp)
set_option maxHeartbeats 1000000 in
theorem zero_any (kind : Int) (attr : ByteArray) (qi : Option Addr) (ni ci : Nat) (qw : Option Addr) (nw cw : Nat) (lo hi : Int) (w : World) :
    Calls Tryz.prog 144 #[.agg #[.int .i64 kind, .string attr, .slice qi ni ci, .slice qw nw cw, .int .i64 lo, .int .i64 hi]] w fun e w' => e = .returned (.bool (decide (kind = 0) && (decide (attr.size = 0) && emptyB ni nw lo hi))) ∧ Below w.heap.size w w' := by
  by_cases h1 : kind = 0
  · subst h1
    cases h2 : attr.toList.isEmpty with
    | true =>
      have h3 : attr.size = 0 := (empty_iff attr).1 h2
      obtain rfl := bytes_of_size h3
      clear h2 h3
      go_enter Tryz.func144, Tryz.ntmps144
      go_wp2_with (go_at_call 115; refine (empty_any 0 ⟨#[]⟩ qi ni ci qw nw cw lo hi _).mono ?_; rintro e w1 ⟨rfl, b1⟩)
      go_ret
      exact ⟨ret_bool (by rw [show decide ((⟨#[]⟩ : ByteArray).size = 0) = true from rfl]; simp), below_sub ((Below.refl _ _).alloc (Nat.le_refl _) _) b1⟩
    | false =>
      have h3 : ¬ attr.size = 0 := fun h => by rw [(empty_iff attr).2 h] at h2; cases h2
      go_enter Tryz.func144, Tryz.ntmps144
      go_wp2
      go_ret
      exact ⟨ret_bool (by simp [h3]), (Below.refl _ _).alloc (Nat.le_refl _) _⟩
  · have h2 : (kind == 0) = false := by simpa using h1
    go_enter Tryz.func144, Tryz.ntmps144
    go_wp2
    go_ret
    exact ⟨ret_bool (by simp [h1]), (Below.refl _ _).alloc (Nat.le_refl _) _⟩
set_option maxHeartbeats 2000000 in
theorem pred_k1 (attr : ByteArray) (qi : Option Addr) (ci : Nat) (ints : List Int) (qw : Option Addr) (cw : Nat) (words : List ByteArray) (lo hi : Int) (w : World) (h1 : SlOf encI 1 w qi ci ints) (l1 : ints.length ≤ 1000000000000000000) (hn : nameOk attr = true) :
    Calls Tryz.prog 54 #[.agg #[.int .i64 1, .string attr, .slice qi ints.length ci, .slice qw words.length cw, .int .i64 lo, .int .i64 hi]] w fun e w' => e = .returned (.int .i64 (code (memB numOk ints 64 && emptyB 0 words.length lo hi))) ∧ Below w.heap.size w w' := by
  have hnm := fun w => name_any attr w
  rw [hn] at hnm
  have B0 := hide ((Below.refl w.heap.size w).alloc (Nat.le_refl _) (.cells #[.int .i64 1, .string attr, .slice qi ints.length ci, .slice qw words.length cw, .int .i64 lo, .int .i64 hi] 26))
  have hmm := membersI qi ci ints 64 _ (h1.below (unhide B0)) l1
  have hem := fun w => empty_any 1 attr none 0 0 qw words.length cw lo hi w
  clear h1 hn
  cases hg : memB numOk ints 64 with
  | true =>
    cases he : emptyB 0 words.length lo hi
    all_goals
      rw [hg] at hmm
      rw [he] at hem
      clear hg he
      go_enter Tryz.func54, Tryz.ntmps54
      go_wp2_with (first
        | (go_at_call 110; refine (hnm _).mono ?_; rintro e w' ⟨rfl, hw⟩; obtain rfl := hw.symm; clear hw)
        | (go_at_call 111; refine (hmm).mono ?_; rintro e w1 ⟨rfl, b1⟩; obtain ⟨z1, ⟨d0, d1, d2, d3, d4, d5⟩, ⟨f2, f3, f4, f5⟩⟩ := box6 b1; have B1 := hide b1; clear b1)
        | (go_at_call 115; refine (hem _).mono ?_; rintro e w2 ⟨rfl, b2⟩))
      go_ret
      exact ⟨rfl, below_sub ((below_sub (unhide B0) (unhide B1)).setCell (Nat.le_refl _) _) b2⟩
  | false =>
    rw [hg] at hmm
    clear hg hem
    go_enter Tryz.func54, Tryz.ntmps54
    go_wp2_with (first
      | (go_at_call 110; refine (hnm _).mono ?_; rintro e w' ⟨rfl, hw⟩; obtain rfl := hw.symm; clear hw)
      | (go_at_call 111; refine (hmm).mono ?_; rintro e w1 ⟨rfl, b1⟩; obtain ⟨z1, ⟨d0, d1, d2, d3, d4, d5⟩, ⟨f2, f3, f4, f5⟩⟩ := box6 b1; have B1 := hide b1; clear b1))
    go_ret
    exact ⟨rfl, (below_sub (unhide B0) (unhide B1)).setCell (Nat.le_refl _) _⟩
set_option maxHeartbeats 2000000 in
theorem pred_k2 (attr : ByteArray) (qi : Option Addr) (ci : Nat) (ints : List Int) (qw : Option Addr) (cw : Nat) (words : List ByteArray) (lo hi : Int) (w : World) (h2 : SlOf encS 1 w qw cw words) (l2 : words.length ≤ 1000000000000000000) (hn : nameOk attr = true) :
    Calls Tryz.prog 54 #[.agg #[.int .i64 2, .string attr, .slice qi ints.length ci, .slice qw words.length cw, .int .i64 lo, .int .i64 hi]] w fun e w' => e = .returned (.int .i64 (code (memB wordOk words 64 && emptyB ints.length 0 lo hi))) ∧ Below w.heap.size w w' := by
  have hnm := fun w => name_any attr w
  rw [hn] at hnm
  have B0 := hide ((Below.refl w.heap.size w).alloc (Nat.le_refl _) (.cells #[.int .i64 2, .string attr, .slice qi ints.length ci, .slice qw words.length cw, .int .i64 lo, .int .i64 hi] 26))
  have hmm := membersW qw cw words 64 _ (h2.below (unhide B0)) l2
  have hem := fun w => empty_any 2 attr qi ints.length ci none 0 0 lo hi w
  clear h2 hn
  cases hg : memB wordOk words 64 with
  | true =>
    cases he : emptyB ints.length 0 lo hi
    all_goals
      rw [hg] at hmm
      rw [he] at hem
      clear hg he
      go_enter Tryz.func54, Tryz.ntmps54
      go_wp2_with (first
        | (go_at_call 110; refine (hnm _).mono ?_; rintro e w' ⟨rfl, hw⟩; obtain rfl := hw.symm; clear hw)
        | (go_at_call 113; refine (hmm).mono ?_; rintro e w1 ⟨rfl, b1⟩; obtain ⟨z1, ⟨d0, d1, d2, d3, d4, d5⟩, ⟨f2, f3, f4, f5⟩⟩ := box6 b1; have B1 := hide b1; clear b1)
        | (go_at_call 115; refine (hem _).mono ?_; rintro e w2 ⟨rfl, b2⟩))
      go_ret
      exact ⟨rfl, below_sub ((below_sub (unhide B0) (unhide B1)).setCell (Nat.le_refl _) _) b2⟩
  | false =>
    rw [hg] at hmm
    clear hg hem
    go_enter Tryz.func54, Tryz.ntmps54
    go_wp2_with (first
      | (go_at_call 110; refine (hnm _).mono ?_; rintro e w' ⟨rfl, hw⟩; obtain rfl := hw.symm; clear hw)
      | (go_at_call 113; refine (hmm).mono ?_; rintro e w1 ⟨rfl, b1⟩; obtain ⟨z1, ⟨d0, d1, d2, d3, d4, d5⟩, ⟨f2, f3, f4, f5⟩⟩ := box6 b1; have B1 := hide b1; clear b1))
    go_ret
    exact ⟨rfl, (below_sub (unhide B0) (unhide B1)).setCell (Nat.le_refl _) _⟩
set_option maxHeartbeats 2000000 in
theorem pred_k4 (attr : ByteArray) (qi : Option Addr) (ci : Nat) (ints : List Int) (qw : Option Addr) (cw : Nat) (words : List ByteArray) (lo hi : Int) (w : World) (h2 : SlOf encS 1 w qw cw words) (l2 : words.length ≤ 1000000000000000000) (hn : nameOk attr = true) :
    Calls Tryz.prog 54 #[.agg #[.int .i64 4, .string attr, .slice qi ints.length ci, .slice qw words.length cw, .int .i64 lo, .int .i64 hi]] w fun e w' => e = .returned (.int .i64 (code (memB wordOk words 1 && emptyB ints.length 0 lo hi))) ∧ Below w.heap.size w w' := by
  have hnm := fun w => name_any attr w
  rw [hn] at hnm
  have B0 := hide ((Below.refl w.heap.size w).alloc (Nat.le_refl _) (.cells #[.int .i64 4, .string attr, .slice qi ints.length ci, .slice qw words.length cw, .int .i64 lo, .int .i64 hi] 26))
  have hmm := membersW qw cw words 1 _ (h2.below (unhide B0)) l2
  have hem := fun w => empty_any 4 attr qi ints.length ci none 0 0 lo hi w
  clear h2 hn
  cases hg : memB wordOk words 1 with
  | true =>
    cases he : emptyB ints.length 0 lo hi
    all_goals
      rw [hg] at hmm
      rw [he] at hem
      clear hg he
      go_enter Tryz.func54, Tryz.ntmps54
      go_wp2_with (first
        | (go_at_call 110; refine (hnm _).mono ?_; rintro e w' ⟨rfl, hw⟩; obtain rfl := hw.symm; clear hw)
        | (go_at_call 113; refine (hmm).mono ?_; rintro e w1 ⟨rfl, b1⟩; obtain ⟨z1, ⟨d0, d1, d2, d3, d4, d5⟩, ⟨f2, f3, f4, f5⟩⟩ := box6 b1; have B1 := hide b1; clear b1)
        | (go_at_call 115; refine (hem _).mono ?_; rintro e w2 ⟨rfl, b2⟩))
      go_ret
      exact ⟨rfl, below_sub ((below_sub (unhide B0) (unhide B1)).setCell (Nat.le_refl _) _) b2⟩
  | false =>
    rw [hg] at hmm
    clear hg hem
    go_enter Tryz.func54, Tryz.ntmps54
    go_wp2_with (first
      | (go_at_call 110; refine (hnm _).mono ?_; rintro e w' ⟨rfl, hw⟩; obtain rfl := hw.symm; clear hw)
      | (go_at_call 113; refine (hmm).mono ?_; rintro e w1 ⟨rfl, b1⟩; obtain ⟨z1, ⟨d0, d1, d2, d3, d4, d5⟩, ⟨f2, f3, f4, f5⟩⟩ := box6 b1; have B1 := hide b1; clear b1))
    go_ret
    exact ⟨rfl, (below_sub (unhide B0) (unhide B1)).setCell (Nat.le_refl _) _⟩
set_option maxHeartbeats 2000000 in
theorem pred_k3 (attr : ByteArray) (qi : Option Addr) (ni ci : Nat) (qw : Option Addr) (nw cw : Nat) (lo hi : Int) (w : World) (hn : nameOk attr = true) :
    Calls Tryz.prog 54 #[.agg #[.int .i64 3, .string attr, .slice qi ni ci, .slice qw nw cw, .int .i64 lo, .int .i64 hi]] w fun e w' => e = .returned (.int .i64 (code ((numOk lo && numOk hi) && emptyB ni nw 0 0))) ∧ Below w.heap.size w w' := by
  have hnm := fun w => name_any attr w
  rw [hn] at hnm
  have B0 := hide ((Below.refl w.heap.size w).alloc (Nat.le_refl _) (.cells #[.int .i64 3, .string attr, .slice qi ni ci, .slice qw nw cw, .int .i64 lo, .int .i64 hi] 26))
  have hem := fun w => empty_any 3 attr qi ni ci qw nw cw 0 0 w
  have hlo := fun w => isNumber_any lo w
  have hhi := fun w => isNumber_any hi w
  clear hn
  cases h1 : numOk lo with
  | true =>
    rw [h1] at hlo
    cases h2 : numOk hi with
    | true =>
      rw [h2] at hhi
      cases he : emptyB ni nw 0 0
      all_goals
        rw [he] at hem
        clear h1 h2 he
        go_enter Tryz.func54, Tryz.ntmps54
        go_wp2_with (first
          | (go_at_call 110; refine (hnm _).mono ?_; rintro e w' ⟨rfl, hw⟩; obtain rfl := hw.symm; clear hw)
          | (go_at_call 112; have hB := unhide B1; clear hB; refine (hhi _).mono ?_; rintro e w2 ⟨rfl, b2⟩; obtain ⟨z1, ⟨d0, d1, d2, d3, d4, d5⟩, ⟨f2, f3, f4, f5⟩⟩ := box6 (below_sub (unhide B1) b2); have B2 := hide (below_sub (unhide B1) b2); clear b2)
          | (go_at_call 112; refine (hlo _).mono ?_; rintro e w1 ⟨rfl, b1⟩; obtain ⟨z1, ⟨d0, d1, d2, d3, d4, d5⟩, ⟨f2, f3, f4, f5⟩⟩ := box6 b1; have B1 := hide b1; clear b1)
          | (go_at_call 115; refine (hem _).mono ?_; rintro e w3 ⟨rfl, b3⟩))
        go_ret
        exact ⟨rfl, below_sub (((below_sub (unhide B0) (unhide B2)).setCell (Nat.le_refl _) _).setCell (Nat.le_refl _) _) b3⟩
    | false =>
      rw [h2] at hhi
      clear h1 h2 hem
      go_enter Tryz.func54, Tryz.ntmps54
      go_wp2_with (first
        | (go_at_call 110; refine (hnm _).mono ?_; rintro e w' ⟨rfl, hw⟩; obtain rfl := hw.symm; clear hw)
        | (go_at_call 112; have hB := unhide B1; clear hB; refine (hhi _).mono ?_; rintro e w2 ⟨rfl, b2⟩; obtain ⟨z1, ⟨d0, d1, d2, d3, d4, d5⟩, ⟨f2, f3, f4, f5⟩⟩ := box6 (below_sub (unhide B1) b2); have B2 := hide (below_sub (unhide B1) b2); clear b2)
        | (go_at_call 112; refine (hlo _).mono ?_; rintro e w1 ⟨rfl, b1⟩; obtain ⟨z1, ⟨d0, d1, d2, d3, d4, d5⟩, ⟨f2, f3, f4, f5⟩⟩ := box6 b1; have B1 := hide b1; clear b1))
      go_ret
      exact ⟨rfl, ((below_sub (unhide B0) (unhide B2)).setCell (Nat.le_refl _) _).setCell (Nat.le_refl _) _⟩
  | false =>
    rw [h1] at hlo
    clear h1 hem hhi
    go_enter Tryz.func54, Tryz.ntmps54
    go_wp2_with (first
      | (go_at_call 110; refine (hnm _).mono ?_; rintro e w' ⟨rfl, hw⟩; obtain rfl := hw.symm; clear hw)
      | (go_at_call 112; refine (hlo _).mono ?_; rintro e w1 ⟨rfl, b1⟩; obtain ⟨z1, ⟨d0, d1, d2, d3, d4, d5⟩, ⟨f2, f3, f4, f5⟩⟩ := box6 b1; have B1 := hide b1; clear b1))
    go_ret
    exact ⟨rfl, ((below_sub (unhide B0) (unhide B1)).setCell (Nat.le_refl _) _).setCell (Nat.le_refl _) _⟩
set_option maxHeartbeats 2000000 in
theorem pred_kx (kind : Int) (attr : ByteArray) (qi : Option Addr) (ni ci : Nat) (qw : Option Addr) (nw cw : Nat) (lo hi : Int) (w : World) (hn : nameOk attr = true) (k1 : ¬ kind = 1) (k2 : ¬ kind = 2) (k3 : ¬ kind = 3) (k4 : ¬ kind = 4) :
    Calls Tryz.prog 54 #[.agg #[.int .i64 kind, .string attr, .slice qi ni ci, .slice qw nw cw, .int .i64 lo, .int .i64 hi]] w fun e w' => e = .returned (.int .i64 (code false)) ∧ Below w.heap.size w w' := by
  have hnm := fun w => name_any attr w
  rw [hn] at hnm
  have e1 : (kind == 1) = false := by simpa using k1
  have e2 : (kind == 2) = false := by simpa using k2
  have e3 : (kind == 3) = false := by simpa using k3
  have e4 : (kind == 4) = false := by simpa using k4
  clear hn
  go_enter Tryz.func54, Tryz.ntmps54
  go_wp2_with (go_at_call 110; refine (hnm _).mono ?_; rintro e w' ⟨rfl, hw⟩; obtain rfl := hw.symm; clear hw)
  go_ret
  exact ⟨rfl, (Below.refl _ _).alloc (Nat.le_refl _) _⟩
set_option maxHeartbeats 2000000 in
theorem pred_noname (kind : Int) (attr : ByteArray) (qi : Option Addr) (ni ci : Nat) (qw : Option Addr) (nw cw : Nat) (lo hi : Int) (w : World) (hn : nameOk attr = false) :
    Calls Tryz.prog 54 #[.agg #[.int .i64 kind, .string attr, .slice qi ni ci, .slice qw nw cw, .int .i64 lo, .int .i64 hi]] w fun e w' => e = .returned (.int .i64 (code false)) ∧ Below w.heap.size w w' := by
  have hnm := fun w => name_any attr w
  rw [hn] at hnm
  clear hn
  go_enter Tryz.func54, Tryz.ntmps54
  go_wp2_with (go_at_call 110; refine (hnm _).mono ?_; rintro e w' ⟨rfl, hw⟩; obtain rfl := hw.symm; clear hw)
  go_ret
  exact ⟨rfl, (Below.refl _ _).alloc (Nat.le_refl _) _⟩
theorem pred_any (kind : Int) (attr : ByteArray) (qi : Option Addr) (ci : Nat) (ints : List Int) (qw : Option Addr) (cw : Nat) (words : List ByteArray) (lo hi : Int) (w : World) (h1 : SlOf encI 1 w qi ci ints) (h2 : SlOf encS 1 w qw cw words) (l1 : ints.length ≤ 1000000000000000000) (l2 : words.length ≤ 1000000000000000000) :
    Calls Tryz.prog 54 #[.agg #[.int .i64 kind, .string attr, .slice qi ints.length ci, .slice qw words.length cw, .int .i64 lo, .int .i64 hi]] w fun e w' => e = .returned (.int .i64 (code (predB kind attr ints words lo hi))) ∧ Below w.heap.size w w' := by
  unfold predB
  cases hn : nameOk attr with
  | false => exact pred_noname kind attr qi _ ci qw _ cw lo hi w hn
  | true =>
    rw [Bool.true_and]
    by_cases k1 : kind = 1
    · subst k1; rw [if_pos rfl]; exact pred_k1 attr qi ci ints qw cw words lo hi w h1 l1 hn
    by_cases k2 : kind = 2
    · subst k2; rw [if_neg k1, if_pos rfl]; exact pred_k2 attr qi ci ints qw cw words lo hi w h2 l2 hn
    by_cases k3 : kind = 3
    · subst k3; rw [if_neg k1, if_neg k2, if_pos rfl]; exact pred_k3 attr qi _ ci qw _ cw lo hi w hn
    by_cases k4 : kind = 4
    · subst k4; rw [if_neg k1, if_neg k2, if_neg k3, if_pos rfl]; exact pred_k4 attr qi ci ints qw cw words lo hi w h2 l2 hn
    rw [if_neg k1, if_neg k2, if_neg k3, if_neg k4]
    exact pred_kx kind attr qi _ ci qw _ cw lo hi w hn k1 k2 k3 k4
end Go.Proofs.YtimklglliffpcaaGreat
namespace Go.Proofs.YtimklglliffpcaaGreat
open Go.RowKit Go.Sort Go.Shelf

theorem below_undrew {w w' : World} (h : Below w.drew.heap.size w.drew w') : Below w.heap.size w w' := ⟨h.os, h.tape, h.output, h.size, h.block⟩
def Fr : Fence := { fn := fun _ => True }
end Go.Proofs.YtimklglliffpcaaGreat
namespace Go.Proofs.YtimklglliffpcaaGreat
open Go.RowKit Go.Sort Go.Shelf

attribute [local go_sem] Oper.semAt_some

theorem intAt {w : World} {q : Option Addr} {c : Nat} {l : List Int} {j : Nat} {x : Int} (h : SlOf encI 1 w q c l) (hj : l[j]? = some x) : ∃ b off, q = some ⟨b, off, none⟩ ∧ b < w.heap.size ∧ w.cell? ⟨b, off + j, none⟩ = some (.int .i64 x) := by
  obtain ⟨b, off, hq, hb, hc⟩ := h.2.2.2.at hj
  exact ⟨b, off, hq, hb, by have := hc 0 (by omega); rw [Nat.mul_one] at this; exact this⟩

set_option maxRecDepth 100000 in
set_option maxHeartbeats 2000000 in
theorem valI_in (F : Fence) (n : Nat) (h53 : F.fn 160) (hro : F.round = none) (hn : 1 ≤ n) (l Bs n₀ : Nat) (p : Option Addr) (c : Nat) (zs : List Int) (hz : zs.length ≤ 100000000000000) (J Jx : List Int → World → Prop)
    (W : World)
    (hY : ∀ pre x W, J pre W → pre.length < zs.length → YieldAt F (n - 1) Tryz.prog l #[.int .i64 x] W fun e W' =>
      (e = .returned (.bool true) ∧ J (pre ++ [x]) W' ∧ Below n₀ W W') ∨ (e = .returned (.bool false) ∧ Jx (pre ++ [x]) W'))
    (hBs : W.cell? ⟨Bs, 0, none⟩ = some (.slice p zs.length c)) (hc : ∀ j x, zs[j]? = some x → ∃ b off, p = some ⟨b, off, none⟩ ∧ b < n₀ ∧ W.cell? ⟨b, off + j, none⟩ = some (.int .i64 x)) (h0 : J [] W) :
    CallsIn F n Tryz.prog 160 #[.func (.yield l) #[] #[], .pointer (some ⟨Bs, 0, none⟩)] W fun e W' => (∃ v, e = .returned v) ∧
      ((∃ ys, ys = zs ∧ J ys W') ∨ (∃ pre, pre <+: zs ∧ Jx pre W')) := by
  have hz0 : (zs.length : Int) ≤ 100000000000000 := by omega
  refine callsIn_of_wp Tryz.func160 rfl h53 ?_ hro
  simp only [Tryz.ntmps160, List.size_toArray, List.length_cons, List.length_nil, Nat.reduceAdd, Nat.reduceSub, Array.replicate_succ, Array.replicate_zero, List.push_toArray, List.append_toArray, List.nil_append, List.cons_append]
  gi_wp2
  gi_loopw [7] (fun i wr => ∃ k : Nat, k ≤ zs.length ∧ i = .int .i64 k ∧ J (zs.take k) wr ∧ Below n₀ W wr)
    (fun i _ => zs.length - (intOf i).toNat)
  case atStart => exact ⟨0, Nat.zero_le _, rfl, h0, Below.refl _ _⟩
  case round =>
    obtain ⟨k, hk, rfl, hJs, hnx⟩ := hrel
    by_cases hlt : k < zs.length
    · obtain ⟨x, hx, _⟩ := get_at hlt
      obtain ⟨b, off, hp, hb, c0⟩ := hc k x hx
      have d0 := (hnx.cell (p := ⟨b, off + k, none⟩) hb).trans c0
      obtain ⟨fn, tmps, assign, body, hy, hR⟩ := hY _ x _ hJs (by rw [List.length_take]; omega)
      have hn1 := hide hnx
      have ki0 : (0 : Int) ≤ (k : Int) := by omega
      have ki1 : (k : Int) < (zs.length : Int) := by omega
      have HX := hide (take_snoc_of hx)
      subst hp
      clear c0 hc hx hnx
      gi_wp2
      refine hR.mono ?_
      rintro e W3 (⟨rfl, hJ3, hk3⟩ | ⟨rfl, hJx3⟩)
      · gi_wp2
        go_roundw
        case rel => exact ⟨k + 1, by omega, by go_num, by rw [unhide HX]; exact hJ3, (unhide hn1).trans hk3⟩
        case measure => simp [intOf]; omega
      · gi_wp2
        refine bodyPost_ret (results_none rfl _ _ _) rfl ?_
        exact ⟨⟨_, rfl⟩, .inr ⟨_, by rw [← unhide HX]; exact List.take_prefix _ _, hJx3⟩⟩
    · obtain rfl : k = zs.length := by omega
      have ki1 : ¬ (zs.length : Int) < (zs.length : Int) := by omega
      gi_wp2
      go_end0
      exact ⟨⟨_, rfl⟩, .inl (by rw [List.take_length] at hJs; exact hJs)⟩
theorem valI_stops (F : Fence) (n : Nat) (h53 : F.fn 160) (hro : F.round = none) (hn : 1 ≤ n) (Bs n₀ : Nat) (p : Option Addr) (c : Nat) (zs : List Int) (hz : zs.length ≤ 100000000000000) (w : World) (hBs : Bs < w.heap.size) (hn₀ : n₀ ≤ w.heap.size)
    (hcell : w.cell? ⟨Bs, 0, none⟩ = some (.slice p zs.length c)) (hc : ∀ j x, zs[j]? = some x → ∃ b off, p = some ⟨b, off, none⟩ ∧ b < n₀ ∧ w.cell? ⟨b, off + j, none⟩ = some (.int .i64 x)) :
    SeqStopsK F n Tryz.prog 160 #[.pointer (some ⟨Bs, 0, none⟩)] (fun x : Int => #[.int .i64 x]) (Below n₀) (fun ys => ys = zs) (fun pre => pre <+: zs) zs.length w := fun l J Jx W hW _ _ hY h0 => by
  refine valI_in F n h53 hro hn l Bs n₀ p c zs hz J Jx W hY ((hW.cell (p := ⟨Bs, 0, none⟩) hBs).trans hcell) (fun j x hj => ?_) h0
  obtain ⟨b, off, hp, hb, c0⟩ := hc j x hj
  exact ⟨b, off, hp, hb, (hW.cell (p := ⟨b, off + j, none⟩) (by exact Nat.lt_of_lt_of_le hb hn₀)).trans c0⟩
theorem flat_oneI (x : Int) : (flatK encI 1 [x].toArray).toList = [.int .i64 x] := by
  apply List.ext_getElem?
  intro j
  by_cases hj : j < 1
  · have := flat_at (enc := encI) (k := 1) (l := [x]) (j := 0) (x := x) rfl j hj
    rw [Nat.zero_mul, Nat.zero_add] at this
    rw [this]
    have hm : j = 0 := by omega
    rw [hm]; rfl
  · rw [List.getElem?_eq_none (by simp [flatK]; omega), List.getElem?_eq_none (by simp; omega)]
theorem flat_snocI (l : List Int) (x : Int) : (flatK encI 1 (l ++ [x]).toArray).toList = (flatK encI 1 l.toArray).toList ++ [.int .i64 x] := by rw [flat_app encI 1 (by decide), flat_oneI]
theorem newsI_blk {w : World} {b : Nat} {x : Int} (h : w.heap[b]? = some (.cells #[.int .i64 x] 3 (0, 0))) : ∀ (j : Nat) (u : Value), [Value.int .i64 x][j]? = some u → w.cell? ((⟨b, 0, none⟩ : Addr).add j) = some u := by
  intro j u hj
  rw [add_plain, Nat.zero_add]
  have hc : w.cell? ⟨b, j, none⟩ = (#[.int .i64 x] : Array Value)[j]? := (by unfold World.cell?; simp [h])
  rw [hc]
  simpa using hj

set_option maxRecDepth 100000 in
set_option maxHeartbeats 2000000 in
theorem appI_in (F : Fence) (n : Nat) (h60 : F.fn 186) (h53 : F.fn 160) (hro : F.round = none) (hn : 3 ≤ n) (Bs : Nat) (p : Option Addr) (c : Nat) (zs : List Int) (hz : zs.length * 8 ≤ 140737488355328) (w : World) (hBs : Bs < w.heap.size)
    (hcell : w.cell? ⟨Bs, 0, none⟩ = some (.slice p zs.length c)) (hc : SlOf encI 1 w p c zs) :
    CallsIn F n Tryz.prog 186 #[.slice none 0 0, .func (.func 160) #[] #[.pointer (some ⟨Bs, 0, none⟩)]] w fun e w' => (∃ q cap, e = .returned (.slice q zs.length cap) ∧ OwnK encI 3 1 w.heap.size w' q cap zs) ∧ Below w.heap.size w w' := by
  have h1 : 1 ≤ n := by omega
  obtain ⟨i0, hi, hz0, hz1, hz2⟩ := info_parts Tryz.info3
  refine callsIn_of_wp_marks Tryz.func186 rfl h60 ?_ hro
  simp only [Tryz.ntmps186, List.size_toArray, List.length_cons, List.length_nil, Nat.reduceAdd, Nat.reduceSub, Array.replicate_succ, Array.replicate_zero, List.push_toArray, List.append_toArray, List.nil_append, List.cons_append]
  gi_wp2
  have bS := Boxed.new w 23 (.slice none 0 0)
  have hB0 : Below w.heap.size w (w.alloc (.cells #[.slice none 0 0] 23)) := (Below.refl _ w).alloc (Nat.le_refl _) _
  have hsz : (w.alloc (.cells #[.slice none 0 0] 23)).heap.size = w.heap.size + 1 := by simp
  have hcell' := (hB0.cell (p := ⟨Bs, 0, none⟩) hBs).trans hcell
  have hc' : ∀ j x, zs[j]? = some x → ∃ b off, p = some ⟨b, off, none⟩ ∧ b < w.heap.size ∧ (w.alloc (.cells #[.slice none 0 0] 23)).cell? ⟨b, off + j, none⟩ = some (.int .i64 x) := fun j x hj => by
    obtain ⟨b, off, hp, hb, c0⟩ := intAt hc hj
    exact ⟨b, off, hp, hb, (hB0.cell (p := ⟨b, off + j, none⟩) hb).trans c0⟩
  obtain ⟨W0, hW0⟩ : ∃ W0, w.alloc (.cells #[.slice none 0 0] 23) = W0 := ⟨_, rfl⟩
  rw [hW0] at bS hB0 hsz hcell' hc' ⊢
  clear hW0 hcell hc
  refine wpIn_rangeFunc_ownH hro h1 (gf := 160) (lb := #[.pointer (some ⟨Bs, 0, none⟩)]) rfl h53 (enters_of Tryz.func160 (by kernel_rfl) rfl)
    (valI_stops F (n - 1) h53 hro (by omega) Bs w.heap.size p c zs (by omega) W0 (by omega) (by omega) hcell' hc') belowK_t (belowK_b (by omega)) (Below.refl _ _) (fun _ => rfl)
    (fun pre W => (∃ v, Boxed W w.heap.size 23 v ∧ W.ownsRow w.heap.size 3 1 v pre.length (flatK encI 1 pre.toArray).toList ∧ True) ∧ Below w.heap.size w W)
    (fun _ _ _ => False)
    (OwnFrom.and (Own.from (holdsRow_own w.heap.size w.heap.size 23 3 1 (fun pre : List Int => pre.length) (fun pre => (flatK encI 1 pre.toArray).toList) (fun _ _ => True)) _) (ownFrom_below (Nat.le_refl _) (by omega)))
    (fun _ _ _ _ _ hs _ _ => hs)
    ⟨⟨_, bS, by simpa [flatK] using World.ownsRow_nil W0 w.heap.size 3 1, trivial⟩, hB0⟩
    (fun x a' _ => a' = { tmps := #[.slice none 0 0, .func (.func 160) #[] #[.pointer (some ⟨Bs, 0, none⟩)], .pointer (some ⟨w.heap.size, 0, none⟩), undef, .slice none 0 0, .int .i64 x, .func (.func 160) #[] #[.pointer (some ⟨Bs, 0, none⟩)], .int .i64 x, undef, undef, undef, undef, undef], defers := [] })
    (fun _ _ _ _ _ _ hs _ _ => hs)
    ?assign ?body ?done ?stop
  case assign =>
    rintro l pre x W K hi hK
    gi_wp2
    exact hK _ _ (KeepsFrom.refl _ _) (Below.refl _ _) hi rfl
  case body =>
    rintro l pre x a' W hl ⟨r, hr⟩ ⟨⟨v, bv, hrow, _⟩, hB1⟩ rfl hlt
    have cB := bv.cell
    obtain ⟨q, cap, rfl, _⟩ := OwnK.shape hrow
    have hsW := hB1.size
    gi_wp2_with (gi_at_builtin; refine wpListIn_append_own _ rfl _ _ 23 rfl w.heap.size 3 i0 (.int .i64 0) 1 8 Tryz.underlying23 hi hz0 hz1 hz2 rfl (by decide) _ _ _ rfl (hrow.alloc _) ⟨W.heap.size, 0, none⟩ 1 1 [.int .i64 x] rfl rfl (newsI_blk (World.alloc_heap_new W _)) (by simp [Value.oneCell']) (by unfold maxLen; omega) (by omega) (by simp; omega) ?_; intro v' w1 hown' hgrow _; obtain ⟨g', cap', rfl⟩ := ownsRow_succ hown'; obtain ⟨hv1, hv2, hr2, hk2, hb2⟩ := bv.appended (by decide) hrow hB1.size (Nat.le_refl _) hown' hgrow; have hc1 := hv1.cell; have hf1 := hv1.frozen)
    exact ⟨hk2.from _, hb2, ⟨_, hv2, (by rw [flat_snocI, List.length_append]; exact hr2), trivial⟩, hB1.trans hb2⟩
  case done =>
    rintro D ys W hD rfl ⟨⟨v, bv, hrow, _⟩, hB1⟩ hK
    have cB := bv.cell
    obtain ⟨q, cap, rfl, _⟩ := OwnK.shape hrow
    gi_wp2
    refine ⟨by simp, .inl ⟨_, _, rfl, run_takeDeferred hK, ?_⟩⟩
    exact ⟨_, results_tmp rfl _ _ _, ⟨q, cap, rfl, ownsRow_putObj hrow _ hK rfl⟩, hB1.trans (belowK_b (w := w) (Nat.le_refl _) W D _ _ (by omega) hK rfl rfl)⟩
  case stop =>
    rintro D c pre W _ _ h _
    exact h.elim
theorem appI (Bs : Nat) (p : Option Addr) (c : Nat) (zs : List Int) (hz : zs.length * 8 ≤ 140737488355328) (w : World) (hBs : Bs < w.heap.size) (hcell : w.cell? ⟨Bs, 0, none⟩ = some (.slice p zs.length c)) (hc : SlOf encI 1 w p c zs) :
    Calls Tryz.prog 186 #[.slice none 0 0, .func (.func 160) #[] #[.pointer (some ⟨Bs, 0, none⟩)]] w fun e w' => (∃ q cap, e = .returned (.slice q zs.length cap) ∧ OwnK encI 3 1 w.heap.size w' q cap zs) ∧ Below w.heap.size w w' :=
  (appI_in Fr 5 trivial trivial rfl (by decide) Bs p c zs hz w hBs hcell hc).calls fun _ _ h => by cases h

theorem valuesI (q : Option Addr) (n c : Nat) (w : World) :
    Calls Tryz.prog 118 #[.slice q n c] w fun e w' => e = .returned (.func (.func 160) #[] #[.pointer (some ⟨w.heap.size, 0, none⟩)]) ∧ w' = w.alloc (.cells #[.slice q n c] 23) := by
  go_enter Tryz.func118, Tryz.ntmps118
  go_wp2
  go_ret
  exact ⟨rfl, rfl⟩
theorem collectI (Bs : Nat) (p : Option Addr) (c : Nat) (zs : List Int) (hz : zs.length * 8 ≤ 140737488355328) (w : World) (hBs : Bs < w.heap.size) (hcell : w.cell? ⟨Bs, 0, none⟩ = some (.slice p zs.length c)) (hc : SlOf encI 1 w p c zs) :
    Calls Tryz.prog 158 #[.func (.func 160) #[] #[.pointer (some ⟨Bs, 0, none⟩)]] w fun e w' => (∃ q cap, e = .returned (.slice q zs.length cap) ∧ OwnK encI 3 1 w.heap.size w' q cap zs) ∧ Below w.heap.size w w' := by
  have h := appI Bs p c zs hz w hBs hcell hc
  clear hcell hc
  go_enter Tryz.func158, Tryz.ntmps158
  go_wp2_with (go_at_call 186; refine h.mono ?_; rintro e w1 ⟨⟨q, cap, rfl, ho⟩, hb⟩)
  go_ret
  exact ⟨⟨q, cap, rfl, ho⟩, hb⟩
end Go.Proofs.YtimklglliffpcaaGreat
namespace Go.Proofs.YtimklglliffpcaaGreat
open Go.RowKit Go.Sort Go.Shelf

attribute [local go_sem] Oper.semAt_some

theorem strAt {w : World} {q : Option Addr} {c : Nat} {l : List ByteArray} {j : Nat} {x : ByteArray} (h : SlOf encS 1 w q c l) (hj : l[j]? = some x) : ∃ b off, q = some ⟨b, off, none⟩ ∧ b < w.heap.size ∧ w.cell? ⟨b, off + j, none⟩ = some (.string x) := by
  obtain ⟨b, off, hq, hb, hc⟩ := h.2.2.2.at hj
  exact ⟨b, off, hq, hb, by have := hc 0 (by omega); rw [Nat.mul_one] at this; exact this⟩

set_option maxRecDepth 100000 in
set_option maxHeartbeats 2000000 in
theorem valS_in (F : Fence) (n : Nat) (h53 : F.fn 163) (hro : F.round = none) (hn : 1 ≤ n) (l Bs n₀ : Nat) (p : Option Addr) (c : Nat) (zs : List ByteArray) (hz : zs.length ≤ 100000000000000) (J Jx : List ByteArray → World → Prop)
    (W : World)
    (hY : ∀ pre x W, J pre W → pre.length < zs.length → YieldAt F (n - 1) Tryz.prog l #[.string x] W fun e W' =>
      (e = .returned (.bool true) ∧ J (pre ++ [x]) W' ∧ Below n₀ W W') ∨ (e = .returned (.bool false) ∧ Jx (pre ++ [x]) W'))
    (hBs : W.cell? ⟨Bs, 0, none⟩ = some (.slice p zs.length c)) (hc : ∀ j x, zs[j]? = some x → ∃ b off, p = some ⟨b, off, none⟩ ∧ b < n₀ ∧ W.cell? ⟨b, off + j, none⟩ = some (.string x)) (h0 : J [] W) :
    CallsIn F n Tryz.prog 163 #[.func (.yield l) #[] #[], .pointer (some ⟨Bs, 0, none⟩)] W fun e W' => (∃ v, e = .returned v) ∧
      ((∃ ys, ys = zs ∧ J ys W') ∨ (∃ pre, pre <+: zs ∧ Jx pre W')) := by
  have hz0 : (zs.length : Int) ≤ 100000000000000 := by omega
  refine callsIn_of_wp Tryz.func163 rfl h53 ?_ hro
  simp only [Tryz.ntmps163, List.size_toArray, List.length_cons, List.length_nil, Nat.reduceAdd, Nat.reduceSub, Array.replicate_succ, Array.replicate_zero, List.push_toArray, List.append_toArray, List.nil_append, List.cons_append]
  gi_wp2
  gi_loopw [7] (fun i wr => ∃ k : Nat, k ≤ zs.length ∧ i = .int .i64 k ∧ J (zs.take k) wr ∧ Below n₀ W wr)
    (fun i _ => zs.length - (intOf i).toNat)
  case atStart => exact ⟨0, Nat.zero_le _, rfl, h0, Below.refl _ _⟩
  case round =>
    obtain ⟨k, hk, rfl, hJs, hnx⟩ := hrel
    by_cases hlt : k < zs.length
    · obtain ⟨x, hx, _⟩ := get_at hlt
      obtain ⟨b, off, hp, hb, c0⟩ := hc k x hx
      have d0 := (hnx.cell (p := ⟨b, off + k, none⟩) hb).trans c0
      obtain ⟨fn, tmps, assign, body, hy, hR⟩ := hY _ x _ hJs (by rw [List.length_take]; omega)
      have hn1 := hide hnx
      have ki0 : (0 : Int) ≤ (k : Int) := by omega
      have ki1 : (k : Int) < (zs.length : Int) := by omega
      have HX := hide (take_snoc_of hx)
      subst hp
      clear c0 hc hx hnx
      gi_wp2
      refine hR.mono ?_
      rintro e W3 (⟨rfl, hJ3, hk3⟩ | ⟨rfl, hJx3⟩)
      · gi_wp2
        go_roundw
        case rel => exact ⟨k + 1, by omega, by go_num, by rw [unhide HX]; exact hJ3, (unhide hn1).trans hk3⟩
        case measure => simp [intOf]; omega
      · gi_wp2
        refine bodyPost_ret (results_none rfl _ _ _) rfl ?_
        exact ⟨⟨_, rfl⟩, .inr ⟨_, by rw [← unhide HX]; exact List.take_prefix _ _, hJx3⟩⟩
    · obtain rfl : k = zs.length := by omega
      have ki1 : ¬ (zs.length : Int) < (zs.length : Int) := by omega
      gi_wp2
      go_end0
      exact ⟨⟨_, rfl⟩, .inl (by rw [List.take_length] at hJs; exact hJs)⟩
theorem valS_stops (F : Fence) (n : Nat) (h53 : F.fn 163) (hro : F.round = none) (hn : 1 ≤ n) (Bs n₀ : Nat) (p : Option Addr) (c : Nat) (zs : List ByteArray) (hz : zs.length ≤ 100000000000000) (w : World) (hBs : Bs < w.heap.size) (hn₀ : n₀ ≤ w.heap.size)
    (hcell : w.cell? ⟨Bs, 0, none⟩ = some (.slice p zs.length c)) (hc : ∀ j x, zs[j]? = some x → ∃ b off, p = some ⟨b, off, none⟩ ∧ b < n₀ ∧ w.cell? ⟨b, off + j, none⟩ = some (.string x)) :
    SeqStopsK F n Tryz.prog 163 #[.pointer (some ⟨Bs, 0, none⟩)] (fun x : ByteArray => #[.string x]) (Below n₀) (fun ys => ys = zs) (fun pre => pre <+: zs) zs.length w := fun l J Jx W hW _ _ hY h0 => by
  refine valS_in F n h53 hro hn l Bs n₀ p c zs hz J Jx W hY ((hW.cell (p := ⟨Bs, 0, none⟩) hBs).trans hcell) (fun j x hj => ?_) h0
  obtain ⟨b, off, hp, hb, c0⟩ := hc j x hj
  exact ⟨b, off, hp, hb, (hW.cell (p := ⟨b, off + j, none⟩) (by exact Nat.lt_of_lt_of_le hb hn₀)).trans c0⟩
theorem flat_oneS (x : ByteArray) : (flatK encS 1 [x].toArray).toList = [.string x] := by
  apply List.ext_getElem?
  intro j
  by_cases hj : j < 1
  · have := flat_at (enc := encS) (k := 1) (l := [x]) (j := 0) (x := x) rfl j hj
    rw [Nat.zero_mul, Nat.zero_add] at this
    rw [this]
    have hm : j = 0 := by omega
    rw [hm]; rfl
  · rw [List.getElem?_eq_none (by simp [flatK]; omega), List.getElem?_eq_none (by simp; omega)]
theorem flat_snocS (l : List ByteArray) (x : ByteArray) : (flatK encS 1 (l ++ [x]).toArray).toList = (flatK encS 1 l.toArray).toList ++ [.string x] := by rw [flat_app encS 1 (by decide), flat_oneS]
theorem newsS_blk {w : World} {b : Nat} {x : ByteArray} (h : w.heap[b]? = some (.cells #[.string x] 9 (0, 0))) : ∀ (j : Nat) (u : Value), [Value.string x][j]? = some u → w.cell? ((⟨b, 0, none⟩ : Addr).add j) = some u := by
  intro j u hj
  rw [add_plain, Nat.zero_add]
  have hc : w.cell? ⟨b, j, none⟩ = (#[.string x] : Array Value)[j]? := (by unfold World.cell?; simp [h])
  rw [hc]
  simpa using hj

set_option maxRecDepth 100000 in
set_option maxHeartbeats 2000000 in
theorem appS_in (F : Fence) (n : Nat) (h60 : F.fn 188) (h53 : F.fn 163) (hro : F.round = none) (hn : 3 ≤ n) (Bs : Nat) (p : Option Addr) (c : Nat) (zs : List ByteArray) (hz : zs.length * 16 ≤ 140737488355328) (w : World) (hBs : Bs < w.heap.size)
    (hcell : w.cell? ⟨Bs, 0, none⟩ = some (.slice p zs.length c)) (hc : SlOf encS 1 w p c zs) :
    CallsIn F n Tryz.prog 188 #[.slice none 0 0, .func (.func 163) #[] #[.pointer (some ⟨Bs, 0, none⟩)]] w fun e w' => (∃ q cap, e = .returned (.slice q zs.length cap) ∧ OwnK encS 9 1 w.heap.size w' q cap zs) ∧ Below w.heap.size w w' := by
  have h1 : 1 ≤ n := by omega
  obtain ⟨i0, hi, hz0, hz1, hz2⟩ := info_parts Tryz.info9
  refine callsIn_of_wp_marks Tryz.func188 rfl h60 ?_ hro
  simp only [Tryz.ntmps188, List.size_toArray, List.length_cons, List.length_nil, Nat.reduceAdd, Nat.reduceSub, Array.replicate_succ, Array.replicate_zero, List.push_toArray, List.append_toArray, List.nil_append, List.cons_append]
  gi_wp2
  have bS := Boxed.new w 24 (.slice none 0 0)
  have hB0 : Below w.heap.size w (w.alloc (.cells #[.slice none 0 0] 24)) := (Below.refl _ w).alloc (Nat.le_refl _) _
  have hsz : (w.alloc (.cells #[.slice none 0 0] 24)).heap.size = w.heap.size + 1 := by simp
  have hcell' := (hB0.cell (p := ⟨Bs, 0, none⟩) hBs).trans hcell
  have hc' : ∀ j x, zs[j]? = some x → ∃ b off, p = some ⟨b, off, none⟩ ∧ b < w.heap.size ∧ (w.alloc (.cells #[.slice none 0 0] 24)).cell? ⟨b, off + j, none⟩ = some (.string x) := fun j x hj => by
    obtain ⟨b, off, hp, hb, c0⟩ := strAt hc hj
    exact ⟨b, off, hp, hb, (hB0.cell (p := ⟨b, off + j, none⟩) hb).trans c0⟩
  obtain ⟨W0, hW0⟩ : ∃ W0, w.alloc (.cells #[.slice none 0 0] 24) = W0 := ⟨_, rfl⟩
  rw [hW0] at bS hB0 hsz hcell' hc' ⊢
  clear hW0 hcell hc
  refine wpIn_rangeFunc_ownH hro h1 (gf := 163) (lb := #[.pointer (some ⟨Bs, 0, none⟩)]) rfl h53 (enters_of Tryz.func163 (by kernel_rfl) rfl)
    (valS_stops F (n - 1) h53 hro (by omega) Bs w.heap.size p c zs (by omega) W0 (by omega) (by omega) hcell' hc') belowK_t (belowK_b (by omega)) (Below.refl _ _) (fun _ => rfl)
    (fun pre W => (∃ v, Boxed W w.heap.size 24 v ∧ W.ownsRow w.heap.size 9 1 v pre.length (flatK encS 1 pre.toArray).toList ∧ True) ∧ Below w.heap.size w W)
    (fun _ _ _ => False)
    (OwnFrom.and (Own.from (holdsRow_own w.heap.size w.heap.size 24 9 1 (fun pre : List ByteArray => pre.length) (fun pre => (flatK encS 1 pre.toArray).toList) (fun _ _ => True)) _) (ownFrom_below (Nat.le_refl _) (by omega)))
    (fun _ _ _ _ _ hs _ _ => hs)
    ⟨⟨_, bS, by simpa [flatK] using World.ownsRow_nil W0 w.heap.size 9 1, trivial⟩, hB0⟩
    (fun x a' _ => a' = { tmps := #[.slice none 0 0, .func (.func 163) #[] #[.pointer (some ⟨Bs, 0, none⟩)], .pointer (some ⟨w.heap.size, 0, none⟩), undef, .slice none 0 0, .string x, .func (.func 163) #[] #[.pointer (some ⟨Bs, 0, none⟩)], .string x, undef, undef, undef, undef, undef], defers := [] })
    (fun _ _ _ _ _ _ hs _ _ => hs)
    ?assign ?body ?done ?stop
  case assign =>
    rintro l pre x W K hi hK
    gi_wp2
    exact hK _ _ (KeepsFrom.refl _ _) (Below.refl _ _) hi rfl
  case body =>
    rintro l pre x a' W hl ⟨r, hr⟩ ⟨⟨v, bv, hrow, _⟩, hB1⟩ rfl hlt
    have cB := bv.cell
    obtain ⟨q, cap, rfl, _⟩ := OwnK.shape hrow
    have hsW := hB1.size
    gi_wp2_with (gi_at_builtin; refine wpListIn_append_own _ rfl _ _ 24 rfl w.heap.size 9 i0 (.string ⟨#[]⟩) 1 16 Tryz.underlying24 hi hz0 hz1 hz2 rfl (by decide) _ _ _ rfl (hrow.alloc _) ⟨W.heap.size, 0, none⟩ 1 1 [.string x] rfl rfl (newsS_blk (World.alloc_heap_new W _)) (by simp [Value.oneCell']) (by unfold maxLen; omega) (by omega) (by simp; omega) ?_; intro v' w1 hown' hgrow _; obtain ⟨g', cap', rfl⟩ := ownsRow_succ hown'; obtain ⟨hv1, hv2, hr2, hk2, hb2⟩ := bv.appended (by decide) hrow hB1.size (Nat.le_refl _) hown' hgrow; have hc1 := hv1.cell; have hf1 := hv1.frozen)
    exact ⟨hk2.from _, hb2, ⟨_, hv2, (by rw [flat_snocS, List.length_append]; exact hr2), trivial⟩, hB1.trans hb2⟩
  case done =>
    rintro D ys W hD rfl ⟨⟨v, bv, hrow, _⟩, hB1⟩ hK
    have cB := bv.cell
    obtain ⟨q, cap, rfl, _⟩ := OwnK.shape hrow
    gi_wp2
    refine ⟨by simp, .inl ⟨_, _, rfl, run_takeDeferred hK, ?_⟩⟩
    exact ⟨_, results_tmp rfl _ _ _, ⟨q, cap, rfl, ownsRow_putObj hrow _ hK rfl⟩, hB1.trans (belowK_b (w := w) (Nat.le_refl _) W D _ _ (by omega) hK rfl rfl)⟩
  case stop =>
    rintro D c pre W _ _ h _
    exact h.elim
theorem appS (Bs : Nat) (p : Option Addr) (c : Nat) (zs : List ByteArray) (hz : zs.length * 16 ≤ 140737488355328) (w : World) (hBs : Bs < w.heap.size) (hcell : w.cell? ⟨Bs, 0, none⟩ = some (.slice p zs.length c)) (hc : SlOf encS 1 w p c zs) :
    Calls Tryz.prog 188 #[.slice none 0 0, .func (.func 163) #[] #[.pointer (some ⟨Bs, 0, none⟩)]] w fun e w' => (∃ q cap, e = .returned (.slice q zs.length cap) ∧ OwnK encS 9 1 w.heap.size w' q cap zs) ∧ Below w.heap.size w w' :=
  (appS_in Fr 5 trivial trivial rfl (by decide) Bs p c zs hz w hBs hcell hc).calls fun _ _ h => by cases h

theorem valuesS (q : Option Addr) (n c : Nat) (w : World) :
    Calls Tryz.prog 121 #[.slice q n c] w fun e w' => e = .returned (.func (.func 163) #[] #[.pointer (some ⟨w.heap.size, 0, none⟩)]) ∧ w' = w.alloc (.cells #[.slice q n c] 24) := by
  go_enter Tryz.func121, Tryz.ntmps121
  go_wp2
  go_ret
  exact ⟨rfl, rfl⟩
theorem collectS (Bs : Nat) (p : Option Addr) (c : Nat) (zs : List ByteArray) (hz : zs.length * 16 ≤ 140737488355328) (w : World) (hBs : Bs < w.heap.size) (hcell : w.cell? ⟨Bs, 0, none⟩ = some (.slice p zs.length c)) (hc : SlOf encS 1 w p c zs) :
    Calls Tryz.prog 161 #[.func (.func 163) #[] #[.pointer (some ⟨Bs, 0, none⟩)]] w fun e w' => (∃ q cap, e = .returned (.slice q zs.length cap) ∧ OwnK encS 9 1 w.heap.size w' q cap zs) ∧ Below w.heap.size w w' := by
  have h := appS Bs p c zs hz w hBs hcell hc
  clear hcell hc
  go_enter Tryz.func161, Tryz.ntmps161
  go_wp2_with (go_at_call 188; refine h.mono ?_; rintro e w1 ⟨⟨q, cap, rfl, ho⟩, hb⟩)
  go_ret
  exact ⟨⟨q, cap, rfl, ho⟩, hb⟩
end Go.Proofs.YtimklglliffpcaaGreat
namespace Go.Proofs.YtimklglliffpcaaGreat

theorem once_of {α : Type} [Inhabited α] [DecidableEq α] (le lt : α → α → Prop) (hr : ∀ a, le a a) (ha : ∀ a b, le a b → le b a → a = b) (hl : ∀ a b, le a b → a ≠ b → lt a b) (zs : List α) (hs : zs.Pairwise le) :
    (∀ x, x ∈ Lib.compact zs ↔ x ∈ zs) ∧ (Lib.compact zs).Pairwise lt := by
  have hget : ∀ j (h : j < zs.length), zs.toArray[j]! = zs[j] := fun j h => by simp [h]
  have hle : ∀ i j (hi : i < zs.length) (hj : j < zs.length), i ≤ j → le zs[i] zs[j] := fun i j hi hj hij => by
    by_cases e : i = j
    · subst e; exact hr _
    · exact List.pairwise_iff_getElem.1 hs i j hi hj (by omega)
  have key : ∀ m, m ≤ zs.length → (∀ x, x ∈ Lib.compactUpTo zs.toArray m ↔ x ∈ zs.take m) ∧ (Lib.compactUpTo zs.toArray m).Pairwise lt := by
    intro m
    induction m with
    | zero => intro _; simp [Lib.compactUpTo]
    | succ m ih =>
      intro hm
      obtain ⟨i1, i2⟩ := ih (by omega)
      have hml : m < zs.length := by omega
      have ht : zs.take (m + 1) = zs.take m ++ [zs[m]] := List.take_succ_eq_append_getElem hml
      rw [Lib.compactUpTo_succ, hget m hml]
      cases hk : Lib.keeps zs.toArray m with
      | true =>
        rw [if_pos rfl]
        refine ⟨fun x => by rw [ht, List.mem_append, List.mem_append, i1], List.pairwise_append.2 ⟨i2, List.pairwise_singleton _ _, fun x hx y hy => ?_⟩⟩
        obtain rfl : y = zs[m] := by simpa using hy
        rw [i1] at hx
        obtain ⟨i, hi, rfl⟩ := List.mem_take_iff_getElem.1 hx
        have him : i < m := by omega
        refine hl _ _ (hle i m (by omega) hml (by omega)) fun e => ?_
        unfold Lib.keeps at hk
        simp only [decide_eq_true_eq] at hk
        rcases hk with hk | hk
        · omega
        · rw [hget m hml, hget (m - 1) (by omega)] at hk
          apply hk
          have h1 := hle i (m - 1) (by omega) (by omega) (by omega)
          have h2 := hle (m - 1) m (by omega) hml (by omega)
          rw [e] at h1
          exact ha _ _ h1 h2
      | false =>
        rw [if_neg (by simp), List.append_nil]
        refine ⟨fun x => ?_, i2⟩
        rw [i1, ht, List.mem_append]
        refine ⟨Or.inl, fun h => ?_⟩
        rcases h with h | h
        · exact h
        · obtain rfl : x = zs[m] := by simpa using h
          unfold Lib.keeps at hk
          simp only [decide_eq_false_iff_not, not_or, Classical.not_not] at hk
          rw [hget m hml, hget (m - 1) (by omega)] at hk
          rw [hk.2]
          exact List.mem_take_iff_getElem.2 ⟨m - 1, by omega, rfl⟩
  have := key zs.length (Nat.le_refl _)
  rw [List.take_length] at this
  exact this
theorem once_len {α : Type} [Inhabited α] [DecidableEq α] (zs : List α) : (Lib.compact zs).length ≤ zs.length := by
  unfold Lib.compact Lib.compactUpTo
  rw [List.length_map]
  exact Nat.le_trans (List.length_filter_le _ _) (by simp)
/-- Numbers sorted, each once. -/
def onceI (l : List Int) : List Int := Lib.compact (l.mergeSort fun x y => decide (x ≤ y))
theorem onceI_spec (l : List Int) : (∀ x, x ∈ onceI l ↔ x ∈ l) ∧ (onceI l).Pairwise (· < ·) ∧ (onceI l).length ≤ l.length := by
  have h := List.pairwise_mergeSort (le := fun x y : Int => decide (x ≤ y)) (fun a b c h1 h2 => by simp only [decide_eq_true_eq] at *; omega) (fun a b => by simp only [Bool.or_eq_true, decide_eq_true_eq]; omega) l
  have hs : (l.mergeSort fun x y => decide (x ≤ y)).Pairwise (· ≤ ·) := h.imp fun {a b} hab => by simpa using hab
  have hp : (l.mergeSort fun x y => decide (x ≤ y)).Perm l := List.mergeSort_perm _ _
  obtain ⟨h1, h2⟩ := once_of (· ≤ ·) (· < ·) (fun a => Int.le_refl a) (fun a b h1 h2 => by omega) (fun a b h1 h2 => by omega) _ hs
  refine ⟨fun x => (h1 x).trans hp.mem_iff, h2, ?_⟩
  have := once_len (l.mergeSort fun x y => decide (x ≤ y))
  rw [hp.length_eq] at this
  exact this
/-- Words sorted, each once. -/
def onceS (l : List ByteArray) : List ByteArray := (Lib.compact ((l.map (·.data.toList)).mergeSort fun x y => decide (x ≤ y))).map fun s => ⟨s.toArray⟩
def ltS (a b : ByteArray) : Prop := cmpS a.data.toList b.data.toList < 0
theorem onceS_spec (l : List ByteArray) : (∀ x, x ∈ onceS l ↔ x ∈ l) ∧ (onceS l).Pairwise ltS ∧ (onceS l).length ≤ l.length := by
  have hless : ∀ a b : List UInt8, a ≤ b ↔ Op.bytesLess b a = false := fun a b => by
    rw [bytesLess_eq, decide_eq_false_iff_not]; exact Iff.rfl
  have h := List.pairwise_mergeSort (le := fun x y : List UInt8 => decide (x ≤ y)) (fun a b c h1 h2 => by
      simp only [decide_eq_true_eq, hless] at *
      cases hc : Op.bytesLess c a with
      | false => rfl
      | true =>
        cases hb : Op.bytesLess b c with
        | true => rw [less_trans _ _ _ hb hc] at h1; cases h1
        | false =>
          by_cases e : b = c
          · subst e; rw [h1] at hc; cases hc
          · rw [less_total _ _ hb e] at h2; cases h2) (fun a b => by
      simp only [Bool.or_eq_true, decide_eq_true_eq, hless]
      cases hc : Op.bytesLess b a with
      | false => exact Or.inl rfl
      | true => exact Or.inr (less_asymm _ _ hc)) (l.map (·.data.toList))
  have hs : ((l.map (·.data.toList)).mergeSort fun x y => decide (x ≤ y)).Pairwise (fun a b => Op.bytesLess b a = false) := h.imp fun {a b} hab => (hless a b).1 (by simpa using hab)
  have hp : ((l.map (·.data.toList)).mergeSort fun x y => decide (x ≤ y)).Perm (l.map (·.data.toList)) := List.mergeSort_perm _ _
  obtain ⟨h1, h2⟩ := once_of (fun a b : List UInt8 => Op.bytesLess b a = false) (fun a b => Op.bytesLess a b = true) (fun a => less_irrefl a) (fun a b h1 h2 => Classical.byContradiction fun e => by rw [less_total _ _ h2 e] at h1; cases h1) (fun a b h1 h2 => less_total _ _ h1 (fun e => h2 e.symm)) _ hs
  refine ⟨fun x => ?_, ?_, ?_⟩
  · unfold onceS
    rw [List.mem_map]
    constructor
    · rintro ⟨s, hs1, rfl⟩
      have := (hp.mem_iff).1 ((h1 s).1 hs1)
      obtain ⟨y, hy, rfl⟩ := List.mem_map.1 this
      exact hy
    · intro hx
      exact ⟨x.data.toList, (h1 _).2 ((hp.mem_iff).2 (List.mem_map.2 ⟨x, hx, rfl⟩)), rfl⟩
  · unfold onceS
    rw [List.pairwise_map]
    exact h2.imp fun {a b} hab => by unfold ltS; rw [cmpS_lt (by simpa using hab)]; decide
  · unfold onceS
    rw [List.length_map]
    have := once_len ((l.map (·.data.toList)).mergeSort fun x y => decide (x ≤ y))
    rw [hp.length_eq, List.length_map] at this
    exact this
end Go.Proofs.YtimklglliffpcaaGreat

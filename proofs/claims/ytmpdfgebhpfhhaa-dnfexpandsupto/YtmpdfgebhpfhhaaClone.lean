/- What the copies of lists and trees are: new memory that holds the same. -/
import Derived.Test.YtmpdfgebhpfhhaaOwn
import Derived.Lib.SmallJoins
import Derived.Lib.AppendIntMem
import Derived.Lib.SliceRun
namespace Go.Proofs.Ytmpdfgebhpfhhaa
open Go.RowKit

def isLet (c : Int) : Bool := decide (97 ≤ c) && decide (c ≤ 122)
def isDig (c : Int) : Bool := decide (48 ≤ c) && decide (c ≤ 57)
def okB (c : Int) : Bool := isLet c || isDig c || c == 95
def byteI (s : ByteArray) (i : Nat) : Int := if h : i < s.size then (s[i].toNat : Int) else 0
theorem byteI_lt {s : ByteArray} {i : Nat} (h : i < s.size) : byteI s i = (s[i].toNat : Int) := by unfold byteI; rw [dif_pos h]
/-- Is it a name? -/
def nameOk (s : ByteArray) : Bool := decide (1 ≤ s.size) && decide (s.size ≤ 32) && isLet (byteI s 0) && (List.range s.size).all fun i => okB (byteI s i)
theorem name_no0 {s : ByteArray} (h : s.size < 1) : nameOk s = false := by unfold nameOk; simp; omega
theorem name_no32 {s : ByteArray} (h : 32 < s.size) : nameOk s = false := by unfold nameOk; simp; omega
theorem name_noL {s : ByteArray} (h : isLet (byteI s 0) = false) : nameOk s = false := by unfold nameOk; simp [h]
theorem name_noB {s : ByteArray} {i : Nat} (hi : i < s.size) (h : okB (byteI s i) = false) : nameOk s = false := by
  unfold nameOk
  rw [Bool.and_eq_false_iff]
  right
  rw [Bool.eq_false_iff]
  intro hall
  rw [List.all_eq_true] at hall
  have := hall i (by simpa using hi)
  rw [h] at this; cases this
theorem name_yes {s : ByteArray} (h1 : 1 ≤ s.size) (h2 : s.size ≤ 32) (h3 : isLet (byteI s 0) = true) (h : ∀ j, j < s.size → okB (byteI s j) = true) : nameOk s = true := by
  unfold nameOk
  rw [h3]
  simp only [Bool.and_eq_true, decide_eq_true_eq, List.all_eq_true, List.mem_range]
  exact ⟨⟨⟨h1, h2⟩, trivial⟩, h⟩

set_option maxHeartbeats 400000 in
theorem schLet_any (c : Int) (w : World) :
    Calls Try.prog 83 #[.int .u8 c] w fun e w' => e = .returned (.bool (isLet c)) ∧ w' = w := by
  by_cases h1 : 97 ≤ c <;> by_cases h2 : c ≤ 122
  all_goals
    go_enter Try.func83, Try.ntmps83
    go_wp2
    go_ret
    exact ⟨ret_bool (by simp [isLet, h1, h2]), rfl⟩
set_option maxHeartbeats 400000 in
theorem schDig_any (c : Int) (w : World) :
    Calls Try.prog 84 #[.int .u8 c] w fun e w' => e = .returned (.bool (isDig c)) ∧ w' = w := by
  by_cases h1 : 48 ≤ c <;> by_cases h2 : c ≤ 57
  all_goals
    go_enter Try.func84, Try.ntmps84
    go_wp2
    go_ret
    exact ⟨ret_bool (by simp [isDig, h1, h2]), rfl⟩

set_option maxHeartbeats 1000000 in
theorem name_any (s : ByteArray) (w : World) :
    Calls Try.prog 70 #[.string s] w fun e w' => e = .returned (.bool (nameOk s)) ∧ w' = w := by
  by_cases h1 : s.size < 1
  · have hn := hide (name_no0 h1)
    have i1 : (s.size : Int) < 1 := by omega
    go_enter Try.func70, Try.ntmps70
    go_wp2
    go_ret
    exact ⟨ret_bool (unhide hn).symm, rfl⟩
  · by_cases h2 : 32 < s.size
    · have hn := hide (name_no32 h2)
      have i1 : ¬ (s.size : Int) < 1 := by omega
      have i2 : (32 : Int) < (s.size : Int) := by omega
      go_enter Try.func70, Try.ntmps70
      go_wp2
      go_ret
      exact ⟨ret_bool (unhide hn).symm, rfl⟩
    · have i1 : ¬ (s.size : Int) < 1 := by omega
      have i2 : ¬ (32 : Int) < (s.size : Int) := by omega
      have hb0 := byteI_lt (s := s) (i := 0) (by omega)
      have hlt := fun (c : Int) (W : World) => schLet_any c W
      have hdg := fun (c : Int) (W : World) => schDig_any c W
      cases hl : isLet (byteI s 0) with
      | false =>
        have hn := hide (name_noL hl)
        rw [hb0] at hl
        clear hb0
        have i0 : (0 : Int) < (s.size : Int) := by omega
        go_enter Try.func70, Try.ntmps70
        go_wp2_with (first | (go_at_call 83; refine (hlt _ _).mono ?_; rintro e w' ⟨rfl, rfl⟩))
        go_ret
        exact ⟨ret_bool (unhide hn).symm, rfl⟩
      | true =>
        have Hl := hide hl
        rw [hb0] at hl
        clear hb0
        have i0 : (0 : Int) < (s.size : Int) := by omega
        go_enter Try.func70, Try.ntmps70
        go_wp2_with (first | (go_at_call 83; refine (hlt _ _).mono ?_; rintro e w' ⟨rfl, rfl⟩))
        go_loop [20] (fun i => ∃ k : Nat, k ≤ s.size ∧ i = .int .i64 k ∧ ∀ j, j < k → okB (byteI s j) = true) (fun i => s.size - (intOf i).toNat)
        case atStart => exact ⟨0, by omega, rfl, fun j hj => by omega⟩
        case round =>
          obtain ⟨k, hk, rfl, hz⟩ := hrel
          have Hz := hide hz
          clear hz
          by_cases hkl : k < s.size
          · have ki0 : (0 : Int) ≤ (k : Int) := by omega
            have ki1 : (k : Int) < (s.size : Int) := by omega
            have hbk := byteI_lt hkl
            cases hok : okB (byteI s k) with
            | true =>
              have Hok := hide hok
              rw [hbk] at hok
              have hparts : (isLet (s[k].toNat : Int) = true) ∨ (isLet (s[k].toNat : Int) = false ∧ isDig (s[k].toNat : Int) = true) ∨ (isLet (s[k].toNat : Int) = false ∧ isDig (s[k].toNat : Int) = false ∧ ((s[k].toNat : Int) != 95) = false) := by
                revert hok; unfold okB
                cases isLet (s[k].toNat : Int) <;> cases isDig (s[k].toNat : Int) <;> simp
              clear hok hbk
              rcases hparts with p1 | ⟨p1, p2⟩ | ⟨p1, p2, p3⟩
              all_goals
                go_wp2_with (first | (go_at_call 83; refine (hlt _ _).mono ?_; rintro e w' ⟨rfl, rfl⟩) | (go_at_call 84; refine (hdg _ _).mono ?_; rintro e w' ⟨rfl, rfl⟩))
                go_round
                case rel => exact ⟨k + 1, by omega, by go_num, fun j hj => by
                  by_cases e : j = k
                  · rw [e]; exact unhide Hok
                  · exact unhide Hz j (by omega)⟩
                case measure => simp [intOf]; omega
            | false =>
              have hn := hide (name_noB hkl hok)
              rw [hbk] at hok
              have hparts : isLet (s[k].toNat : Int) = false ∧ isDig (s[k].toNat : Int) = false ∧ ((s[k].toNat : Int) != 95) = true := by
                revert hok; unfold okB
                cases isLet (s[k].toNat : Int) <;> cases isDig (s[k].toNat : Int) <;> simp
              obtain ⟨p1, p2, p3⟩ := hparts
              clear hok hbk
              go_wp2_with (first | (go_at_call 83; refine (hlt _ _).mono ?_; rintro e w' ⟨rfl, rfl⟩) | (go_at_call 84; refine (hdg _ _).mono ?_; rintro e w' ⟨rfl, rfl⟩))
              go_ret
              exact ⟨ret_bool (unhide hn).symm, rfl⟩
          · obtain rfl : k = s.size := by omega
            go_wp2
            go_ret
            exact ⟨ret_bool (name_yes (by omega) (by omega) (unhide Hl) (unhide Hz)).symm, rfl⟩

set_option maxHeartbeats 1000000 in
theorem refName_any (s : ByteArray) (w : World) :
    Calls Try.prog 80 #[.string s] w fun e w' => e = .returned (.bool (nameOk s)) ∧ w' = w := by
  by_cases h1 : s.size < 1
  · have hn := hide (name_no0 h1)
    have he : s.toList.isEmpty = true := (empty_iff s).2 (by omega)
    go_enter Try.func80, Try.ntmps80
    go_wp2
    go_ret
    exact ⟨ret_bool (unhide hn).symm, rfl⟩
  · have he : s.toList.isEmpty = false := by
      cases h : s.toList.isEmpty with
      | false => rfl
      | true => have := (empty_iff s).1 h; omega
    by_cases h2 : 32 < s.size
    · have hn := hide (name_no32 h2)
      have i2 : (32 : Int) < (s.size : Int) := by omega
      go_enter Try.func80, Try.ntmps80
      go_wp2
      go_ret
      exact ⟨ret_bool (unhide hn).symm, rfl⟩
    · have i2 : ¬ (32 : Int) < (s.size : Int) := by omega
      go_enter Try.func80, Try.ntmps80
      go_wp2
      go_loop [3] (fun i => ∃ k : Nat, k ≤ s.size ∧ i = .int .i64 k ∧ (0 < k → isLet (byteI s 0) = true) ∧ ∀ j, j < k → okB (byteI s j) = true) (fun i => s.size - (intOf i).toNat)
      case atStart => exact ⟨0, by omega, rfl, fun h => by omega, fun j hj => by omega⟩
      case round =>
        obtain ⟨k, hk, rfl, hl, hz⟩ := hrel
        have Hz := hide hz
        have Hl := hide hl
        clear hz hl
        by_cases hkl : k < s.size
        · have ki0 : (0 : Int) ≤ (k : Int) := by omega
          have ki1 : (k : Int) < (s.size : Int) := by omega
          have hbk := hide (byteI_lt hkl)
          by_cases k0 : k = 0
          · subst k0
            by_cases a : (97 : Int) ≤ (s[0].toNat : Int) ∧ (s[0].toNat : Int) ≤ 122
            · obtain ⟨a1, a2⟩ := a
              have hL : isLet (byteI s 0) = true := by rw [unhide hbk]; simp [isLet, a1, a2]
              have HL := hide hL
              clear hL
              go_wp2
              go_round
              case rel => exact ⟨0 + 1, by omega, by go_num, fun _ => unhide HL, fun j hj => by
                  obtain rfl : j = 0 := by omega
                  simp [okB, unhide HL]⟩
              case measure => simp [intOf]; omega
            · have hN := hide (name_noL (s := s) (by rw [unhide hbk]; simp [isLet]; omega))
              by_cases a1 : (97 : Int) ≤ (s[0].toNat : Int)
              · have a2 : ¬ (s[0].toNat : Int) ≤ 122 := fun h => a ⟨a1, h⟩
                clear a
                go_wp2
                go_ret
                exact ⟨ret_bool (unhide hN).symm, rfl⟩
              · clear a
                go_wp2
                go_ret
                exact ⟨ret_bool (unhide hN).symm, rfl⟩
          · have kd : ((k : Int) == 0) = false := by simp; omega
            cases hok : okB (byteI s k) with
            | true =>
              have Hok := hide hok
              rw [unhide hbk] at hok
              have hparts : ((97 : Int) ≤ (s[k].toNat : Int) ∧ (s[k].toNat : Int) ≤ 122) ∨ (¬ (97 : Int) ≤ (s[k].toNat : Int) ∧ ¬ (s[k].toNat : Int) < 48 ∧ ¬ (57 : Int) < (s[k].toNat : Int)) ∨ (¬ (97 : Int) ≤ (s[k].toNat : Int) ∧ ¬ (s[k].toNat : Int) < 48 ∧ (57 : Int) < (s[k].toNat : Int) ∧ ((s[k].toNat : Int) != 95) = false) := by
                revert hok; unfold okB isLet isDig; simp; omega
              clear hok
              rcases hparts with ⟨p1, p2⟩ | ⟨p1, p2, p3⟩ | ⟨p1, p2, p3, p4⟩
              all_goals
                go_wp2
                go_round
                case rel => exact ⟨k + 1, by omega, by go_num, fun _ => unhide Hl (by omega), fun j hj => by
                  by_cases e : j = k
                  · rw [e]; exact unhide Hok
                  · exact unhide Hz j (by omega)⟩
                case measure => simp [intOf]; omega
            | false =>
              have hn := hide (name_noB hkl hok)
              rw [unhide hbk] at hok
              have hparts : (¬ (97 : Int) ≤ (s[k].toNat : Int) ∧ (s[k].toNat : Int) < 48 ∧ ((s[k].toNat : Int) != 95) = true) ∨ (¬ (97 : Int) ≤ (s[k].toNat : Int) ∧ ¬ (s[k].toNat : Int) < 48 ∧ (57 : Int) < (s[k].toNat : Int) ∧ ((s[k].toNat : Int) != 95) = true) ∨ ((97 : Int) ≤ (s[k].toNat : Int) ∧ ¬ (s[k].toNat : Int) ≤ 122 ∧ ¬ (s[k].toNat : Int) < 48 ∧ (57 : Int) < (s[k].toNat : Int) ∧ ((s[k].toNat : Int) != 95) = true) := by
                revert hok; unfold okB isLet isDig; simp; omega
              clear hok
              rcases hparts with ⟨p1, p2, p3⟩ | ⟨p1, p2, p3, p4⟩ | ⟨p1, p2, p3, p4, p5⟩
              all_goals
                go_wp2
                go_ret
                exact ⟨ret_bool (unhide hn).symm, rfl⟩
        · obtain rfl : k = s.size := by omega
          go_wp2
          go_ret
          exact ⟨ret_bool (name_yes (by omega) (by omega) (unhide Hl (by omega)) (unhide Hz)).symm, rfl⟩

end Go.Proofs.Ytmpdfgebhpfhhaa
namespace Go.Proofs.Ytmpdfgebhpfhhaa
open Go.RowKit

inductive Nd where
  | mk (kind : Int) (attr : ByteArray) (ints : List Int) (words : List ByteArray) (lo hi op : Int) (kids : List Nd)
namespace Nd
def kids : Nd → List Nd
  | .mk _ _ _ _ _ _ _ ks => ks
theorem ind {P : Nd → Prop} (h : ∀ kind attr ints words lo hi op kids, (∀ x ∈ kids, P x) → P (.mk kind attr ints words lo hi op kids)) (t : Nd) : P t :=
  Nd.rec (motive_1 := P) (motive_2 := fun l => ∀ x ∈ l, P x) (fun kind attr ints words lo hi op kids ih => h kind attr ints words lo hi op kids ih)
    (fun x hx => by simp at hx) (fun x xs hx hxs y hy => by
      rcases List.mem_cons.1 hy with rfl | hy
      · exact hx
      · exact hxs y hy) t
end Nd
/-- The value of a node. -/
def Nv.val (v : Nv) : Value := .agg #[.int .i64 v.kind, .string v.attr, .slice v.qi v.ni v.ci, .slice v.qw v.nw v.cw, .int .i64 v.lo, .int .i64 v.hi, .int .i64 v.op, .slice v.qk v.nk v.ck]
/-- The tree of the node v lies in memory. -/
inductive NdIn (w : World) : Nv → Nd → Prop
  | mk {kind : Int} {attr : ByteArray} {ints : List Int} {words : List ByteArray} {lo hi op : Int} {kids : List Nd} {qi : Option Addr} {ci : Nat} {qw : Option Addr} {cw : Nat} {qk : Option Addr} {ck : Nat} {vs : List Nv} :
      SlOf encI 1 w qi ci ints → SlOf encS 1 w qw cw words → SlOf encV 8 w qk ck vs → vs.length = kids.length → (∀ (j : Nat) (v : Nv) (x : Nd), vs[j]? = some v → kids[j]? = some x → NdIn w v x) →
      NdIn w ⟨kind, attr, qi, ints.length, ci, qw, words.length, cw, lo, hi, op, qk, kids.length, ck⟩ (.mk kind attr ints words lo hi op kids)
theorem NdIn.keep {w w' : World} {v : Nv} {t : Nd} (h : NdIn w v t) (hb : Below w.heap.size w w') : NdIn w' v t := by
  induction h with
  | mk hi hw hk hl hr ih => exact .mk (hi.below hb) (hw.below hb) (hk.below hb) hl fun j v x hj hx => ih j v x hj hx
/-- A list of nodes in memory. -/
def NdsOf (w : World) (q : Option Addr) (c : Nat) (l : List Nd) : Prop := ∃ vs, SlOf encV 8 w q c vs ∧ vs.length = l.length ∧ ∀ (j : Nat) (v : Nv) (x : Nd), vs[j]? = some v → l[j]? = some x → NdIn w v x
theorem NdsOf.below {w w' : World} {q : Option Addr} {c : Nat} {l : List Nd} (h : NdsOf w q c l) (hb : Below w.heap.size w w') : NdsOf w' q c l := by
  obtain ⟨vs, h1, h2, h3⟩ := h
  exact ⟨vs, h1.below hb, h2, fun j v x hj hx => (h3 j v x hj hx).keep hb⟩
theorem NdIn.parts {w : World} {v : Nv} {kind : Int} {attr : ByteArray} {ints : List Int} {words : List ByteArray} {lo hi op : Int} {kids : List Nd} (h : NdIn w v (.mk kind attr ints words lo hi op kids)) :
    ∃ qi ci qw cw qk ck, v = ⟨kind, attr, qi, ints.length, ci, qw, words.length, cw, lo, hi, op, qk, kids.length, ck⟩ ∧ SlOf encI 1 w qi ci ints ∧ SlOf encS 1 w qw cw words ∧ NdsOf w qk ck kids := by
  cases h with
  | mk hi hw hk hl hr => exact ⟨_, _, _, _, _, _, rfl, hi, hw, _, hk, hl, hr⟩
theorem NdIn.make {w : World} {kind : Int} {attr : ByteArray} {ints : List Int} {words : List ByteArray} {lo hi op : Int} {kids : List Nd} {qi : Option Addr} {ci : Nat} {qw : Option Addr} {cw : Nat} {qk : Option Addr} {ck : Nat}
    (h1 : SlOf encI 1 w qi ci ints) (h2 : SlOf encS 1 w qw cw words) (h3 : NdsOf w qk ck kids) : NdIn w ⟨kind, attr, qi, ints.length, ci, qw, words.length, cw, lo, hi, op, qk, kids.length, ck⟩ (.mk kind attr ints words lo hi op kids) := by
  obtain ⟨vs, k1, k2, k3⟩ := h3
  exact .mk h1 h2 k1 k2 k3
/-- The j-th kid: its cells, and its tree. -/
theorem NdsOf.at {w : World} {q : Option Addr} {c : Nat} {l : List Nd} {j : Nat} {x : Nd} (h : NdsOf w q c l) (hj : l[j]? = some x) :
    ∃ b off v, q = some ⟨b, off, none⟩ ∧ b < w.heap.size ∧ NdIn w v x ∧ w.cell? ⟨b, off + j * 8, none⟩ = some (.int .i64 v.kind) ∧ w.cell? ⟨b, off + j * 8 + 1, none⟩ = some (.string v.attr) ∧ w.cell? ⟨b, off + j * 8 + 2, none⟩ = some (.slice v.qi v.ni v.ci) ∧ w.cell? ⟨b, off + j * 8 + 3, none⟩ = some (.slice v.qw v.nw v.cw) ∧ w.cell? ⟨b, off + j * 8 + 4, none⟩ = some (.int .i64 v.lo) ∧ w.cell? ⟨b, off + j * 8 + 5, none⟩ = some (.int .i64 v.hi) ∧ w.cell? ⟨b, off + j * 8 + 6, none⟩ = some (.int .i64 v.op) ∧ w.cell? ⟨b, off + j * 8 + 7, none⟩ = some (.slice v.qk v.nk v.ck) := by
  obtain ⟨vs, h1, h2, h3⟩ := h
  have hl : j < l.length := (List.getElem?_eq_some_iff.1 hj).1
  obtain ⟨v, hv, _⟩ := get_at (l := vs) (k := j) (by omega)
  obtain ⟨b, off, hq, hb, hc⟩ := h1.2.2.2.at hv
  exact ⟨b, off, v, hq, hb, h3 j v x hv hj, cells8 hc⟩
/-- The same, seen from a later world. -/
theorem NdsOf.on {w wr : World} {q : Option Addr} {c : Nat} {l : List Nd} {j : Nat} {x : Nd} (h : NdsOf w q c l) (hj : l[j]? = some x) (hbel : Below w.heap.size w wr) :
    ∃ b off v, q = some ⟨b, off, none⟩ ∧ NdIn wr v x ∧ wr.cell? ⟨b, off + j * 8, none⟩ = some (.int .i64 v.kind) ∧ wr.cell? ⟨b, off + j * 8 + 1, none⟩ = some (.string v.attr) ∧ wr.cell? ⟨b, off + j * 8 + 2, none⟩ = some (.slice v.qi v.ni v.ci) ∧ wr.cell? ⟨b, off + j * 8 + 3, none⟩ = some (.slice v.qw v.nw v.cw) ∧ wr.cell? ⟨b, off + j * 8 + 4, none⟩ = some (.int .i64 v.lo) ∧ wr.cell? ⟨b, off + j * 8 + 5, none⟩ = some (.int .i64 v.hi) ∧ wr.cell? ⟨b, off + j * 8 + 6, none⟩ = some (.int .i64 v.op) ∧ wr.cell? ⟨b, off + j * 8 + 7, none⟩ = some (.slice v.qk v.nk v.ck) := by
  obtain ⟨b, off, v, hq, hb, hin, c⟩ := (h.below hbel).at hj
  exact ⟨b, off, v, hq, hin, c⟩
theorem intsAt {w : World} {q : Option Addr} {c : Nat} {l : List Int} {j : Nat} {x : Int} (h : SlOf encI 1 w q c l) (hj : l[j]? = some x) : ∃ b off, q = some ⟨b, off, none⟩ ∧ b < w.heap.size ∧ w.cell? ⟨b, off + j, none⟩ = some (.int .i64 x) := by
  obtain ⟨b, off, hq, hb, hc⟩ := h.2.2.2.at hj
  exact ⟨b, off, hq, hb, by have := hc 0 (by omega); rw [Nat.mul_one] at this; exact this⟩
theorem wordsAt {w : World} {q : Option Addr} {c : Nat} {l : List ByteArray} {j : Nat} {x : ByteArray} (h : SlOf encS 1 w q c l) (hj : l[j]? = some x) : ∃ b off, q = some ⟨b, off, none⟩ ∧ b < w.heap.size ∧ w.cell? ⟨b, off + j, none⟩ = some (.string x) := by
  obtain ⟨b, off, hq, hb, hc⟩ := h.2.2.2.at hj
  exact ⟨b, off, hq, hb, by have := hc 0 (by omega); rw [Nat.mul_one] at this; exact this⟩

mutual
/-- How many nodes. -/
def sizeN : Nd → Nat
  | .mk _ _ _ _ _ _ _ ks => 1 + sizeL ks
def sizeL : List Nd → Nat
  | [] => 0
  | x :: xs => sizeN x + sizeL xs
end
def wordsWt : List ByteArray → Nat
  | [] => 0
  | x :: xs => 1 + x.size + wordsWt xs
mutual
/-- How much a tree holds. -/
def wtN : Nd → Nat
  | .mk _ attr ints words _ _ _ ks => 1 + attr.size + ints.length + wordsWt words + wtL ks
def wtL : List Nd → Nat
  | [] => 0
  | x :: xs => wtN x + wtL xs
end
theorem wtL_mem {x : Nd} {l : List Nd} (h : x ∈ l) : wtN x ≤ wtL l := by
  induction l with
  | nil => simp at h
  | cons y l ih =>
    rcases List.mem_cons.1 h with rfl | h
    · simp [wtL]
    · have := ih h; simp only [wtL]; omega
theorem words_len (l : List ByteArray) : l.length ≤ wordsWt l := by
  induction l with
  | nil => simp [wordsWt]
  | cons x l ih => simp only [wordsWt, List.length_cons]; omega
theorem size_wt : ∀ t, sizeN t ≤ wtN t := by
  apply Nd.ind
  intro kind attr ints words lo hi op kids ih
  have : sizeL kids ≤ wtL kids := by
    clear kind attr ints words lo hi op
    induction kids with
    | nil => simp [sizeL]
    | cons x xs ih2 =>
      have h1 := ih x List.mem_cons_self
      have h2 := ih2 fun y hy => ih y (List.mem_cons_of_mem _ hy)
      simp only [wtL, sizeL]; omega
  simp only [wtN, sizeN]; omega
theorem sizeL_wt (l : List Nd) : sizeL l ≤ wtL l := by
  induction l with
  | nil => simp [sizeL]
  | cons x l ih => have := size_wt x; simp only [wtL, sizeL]; omega
theorem take_snoc_of {α : Type} {l : List α} {k : Nat} {x : α} (h : l[k]? = some x) : l.take (k + 1) = l.take k ++ [x] := by
  rw [List.take_add_one, h]; rfl
end Go.Proofs.Ytmpdfgebhpfhhaa
namespace Go.Proofs.Ytmpdfgebhpfhhaa
open Go.RowKit

/-- What the listed variables of the library hold. -/
def G (w : World) : Prop := Lib.TabIs Try.prog w "internal/strconv.uint64pow10" .u64 Lib.pow10Tab
theorem below_sub {a b c : World} (h : Below a.heap.size a b) (h2 : Below b.heap.size b c) : Below a.heap.size a c := h.trans (h2.mono h.size)

theorem bcell {W w1 : World} (hb : Below W.heap.size W w1) : (∀ b o, b < W.heap.size → w1.cell? ⟨b, o, none⟩ = W.cell? ⟨b, o, none⟩) ∧ (∀ b o, b < W.heap.size → w1.frozen? ⟨b, o, none⟩ = W.frozen? ⟨b, o, none⟩) :=
  ⟨fun b o h => hb.cell (p := ⟨b, o, none⟩) h, fun b o h => hb.frozen (p := ⟨b, o, none⟩) h⟩

theorem toList_ne {a b : ByteArray} (h : a ≠ b) : (a.toList == b.toList) = false := by
  rw [beq_eq_false_iff_ne]
  intro h2
  rw [ByteArray.toList_eq, ByteArray.toList_eq] at h2
  exact h (WideShapes.bytes_inj h2)

end Go.Proofs.Ytmpdfgebhpfhhaa
namespace Go.Proofs.Ytmpdfgebhpfhhaa
open Go.RowKit Go.Sort

theorem OwnK.from {α : Type} [Inhabited α] {enc : α → List Value} {k B : Nat} {e : TypeId} {w : World} {q : Option Addr} {cap : Nat} {l : List α} (h : OwnK enc e k B w q cap l) : ∀ a, q = some a → B ≤ a.block := by
  intro a ha
  rcases h.2 with ⟨h0, _⟩ | ⟨g, cp, cur, hv, hB, _⟩
  · injection h0 with h1; rw [ha] at h1; cases h1
  · injection hv with h1; rw [ha] at h1; cases h1; exact hB
/-- The tree of v lies in memory, all of it in blocks from B on. -/
inductive NdFrom (w : World) (B : Nat) : Nv → Nd → Prop
  | mk {kind : Int} {attr : ByteArray} {ints : List Int} {words : List ByteArray} {lo hi op : Int} {kids : List Nd} {qi : Option Addr} {ci : Nat} {qw : Option Addr} {cw : Nat} {qk : Option Addr} {ck : Nat} {vs : List Nv} :
      SlOf encI 1 w qi ci ints → SlOf encS 1 w qw cw words → SlOf encV 8 w qk ck vs → (∀ a, qi = some a → B ≤ a.block) → (∀ a, qw = some a → B ≤ a.block) → (∀ a, qk = some a → B ≤ a.block) → vs.length = kids.length → (∀ (j : Nat) (v : Nv) (x : Nd), vs[j]? = some v → kids[j]? = some x → NdFrom w B v x) →
      NdFrom w B ⟨kind, attr, qi, ints.length, ci, qw, words.length, cw, lo, hi, op, qk, kids.length, ck⟩ (.mk kind attr ints words lo hi op kids)
theorem NdFrom.toIn {w : World} {B : Nat} {v : Nv} {t : Nd} (h : NdFrom w B v t) : NdIn w v t := by
  induction h with
  | mk hi hw hk _ _ _ hl hr ih => exact .mk hi hw hk hl fun j v x hj hx => ih j v x hj hx
theorem NdFrom.mono {w : World} {B B' : Nat} {v : Nv} {t : Nd} (h : NdFrom w B v t) (hB : B' ≤ B) : NdFrom w B' v t := by
  induction h with
  | mk hi hw hk h1 h2 h3 hl hr ih => exact .mk hi hw hk (fun a e => Nat.le_trans hB (h1 a e)) (fun a e => Nat.le_trans hB (h2 a e)) (fun a e => Nat.le_trans hB (h3 a e)) hl fun j v x hj hx => ih j v x hj hx
/-- A later world that has the same cells from B on. -/
def SameUp (B : Nat) (w w' : World) : Prop := w.heap.size ≤ w'.heap.size ∧ ∀ b o, B ≤ b → b < w.heap.size → w'.cell? ⟨b, o, none⟩ = w.cell? ⟨b, o, none⟩
theorem SlOf.up {α : Type} [Inhabited α] {enc : α → List Value} {k B : Nat} {w w' : World} {q : Option Addr} {c : Nat} {l : List α} (h : SlOf enc k w q c l) (hq : ∀ a, q = some a → B ≤ a.block) (hu : SameUp B w w') : SlOf enc k w' q c l := by
  refine ⟨h.1, h.2.1, h.2.2.1, fun h0 => ?_⟩
  obtain ⟨b, off, rfl, hB, hA⟩ := h.2.2.2 h0
  exact ⟨b, off, rfl, Nat.lt_of_lt_of_le hB hu.1, fun j u hj => (hu.2 b (off + j) (hq _ rfl) hB).trans (hA j u hj)⟩
theorem NdFrom.up {w w' : World} {B : Nat} {v : Nv} {t : Nd} (h : NdFrom w B v t) (hu : SameUp B w w') : NdFrom w' B v t := by
  induction h with
  | mk hi hw hk h1 h2 h3 hl hr ih => exact .mk (hi.up h1 hu) (hw.up h2 hu) (hk.up h3 hu) h1 h2 h3 hl fun j v x hj hx => ih j v x hj hx
theorem SameUp.of {B : Nat} {w w' : World} (h : Below w.heap.size w w') : SameUp B w w' := ⟨h.size, fun b o _ hb => h.cell (p := ⟨b, o, none⟩) hb⟩
theorem SameUp.trans {B : Nat} {x y z : World} (h : SameUp B x y) (k : SameUp B y z) : SameUp B x z := ⟨Nat.le_trans h.1 k.1, fun b o h1 h2 => (k.2 b o h1 (Nat.lt_of_lt_of_le h2 h.1)).trans (h.2 b o h1 h2)⟩
theorem SameUp.grown {B g : Nat} {w w' : World} (h : w.grownBy w' (some g)) (hg : g < B) : SameUp B w w' := ⟨h.size, fun b o h1 h2 => World.cell?_of_block (w := w) (a := ⟨b, o, none⟩) (h.block b h2 (fun e => by cases e; omega))⟩
theorem NdFrom.keep {w w' : World} {B : Nat} {v : Nv} {t : Nd} (h : NdFrom w B v t) (hb : Below w.heap.size w w') : NdFrom w' B v t := h.up (SameUp.of hb)
theorem NdFrom.make {w : World} {B : Nat} {kind : Int} {attr : ByteArray} {ints : List Int} {words : List ByteArray} {lo hi op : Int} {kids : List Nd} {qi : Option Addr} {ci : Nat} {qw : Option Addr} {cw : Nat} {qk : Option Addr} {ck : Nat} {vs : List Nv}
    (h1 : SlOf encI 1 w qi ci ints) (f1 : ∀ a, qi = some a → B ≤ a.block) (h2 : SlOf encS 1 w qw cw words) (f2 : ∀ a, qw = some a → B ≤ a.block) (h3 : SlOf encV 8 w qk ck vs) (f3 : ∀ a, qk = some a → B ≤ a.block) (hl : vs.length = kids.length) (hr : ∀ (j : Nat) (v : Nv) (x : Nd), vs[j]? = some v → kids[j]? = some x → NdFrom w B v x) :
    NdFrom w B ⟨kind, attr, qi, ints.length, ci, qw, words.length, cw, lo, hi, op, qk, kids.length, ck⟩ (.mk kind attr ints words lo hi op kids) := .mk h1 h2 h3 f1 f2 f3 hl hr
set_option maxRecDepth 100000 in
set_option maxHeartbeats 1000000 in
theorem cloneI (q : Option Addr) (c : Nat) (l : List Int) (w : World) (h : SlOf encI 1 w q c l) (hl : l.length ≤ 1000000000000) :
    Calls Try.prog 28 #[.slice q l.length c] w fun e w' => ∃ q' c', e = .returned (.slice q' l.length c') ∧ OwnK encI 3 1 w.heap.size w' q' c' l ∧ Below w.heap.size w w' := by
  cases q with
  | none =>
    obtain ⟨h0, rfl⟩ := h.1 rfl
    obtain rfl : l = [] := List.length_eq_zero_iff.1 h0
    have heq := fun (w : World) => Lib.run_eql_slice_nil (P := Try.prog) w 22 3 none 0 0 0 0 Try.underlying22
    clear h h0
    go_enter Try.func28, Try.ntmps28
    go_wp2
    go_ret
    exact ⟨none, 0, rfl, OwnK.nil _ _, Below.refl _ _⟩
  | some a =>
    have HS := hide h
    have heq := fun (w : World) => Lib.run_eql_slice_nil (P := Try.prog) w 22 3 (some a) l.length c 0 0 Try.underlying22
    clear h
    go_enter Try.func28, Try.ntmps28
    go_wp2_with (at_builtin; refine wpList_app rowI rfl _ _ rfl w.heap.size (some ⟨w.heap.size, 0, none⟩) 0 [] (some a) c l 0 l.length l.length rfl rfl (by omega) rfl rfl (OwnK.made _ _ (Nat.le_refl _)) ((unhide HS).below ((Below.refl _ _).alloc (Nat.le_refl _) _)).src (by unfold maxLen; omega) (by omega) (by simp) ?_; intro q2 c2 w2 hown2 hb2 _ hg2)
    go_ret
    exact ⟨q2, c2, rfl, by simpa using hown2, ((Below.refl _ _).alloc (Nat.le_refl _) _).trans hb2⟩
set_option maxRecDepth 100000 in
set_option maxHeartbeats 1000000 in
theorem cloneS (q : Option Addr) (c : Nat) (l : List ByteArray) (w : World) (h : SlOf encS 1 w q c l) (hl : l.length ≤ 1000000000000) :
    Calls Try.prog 42 #[.slice q l.length c] w fun e w' => ∃ q' c', e = .returned (.slice q' l.length c') ∧ OwnK encS 9 1 w.heap.size w' q' c' l ∧ Below w.heap.size w w' := by
  cases q with
  | none =>
    obtain ⟨h0, rfl⟩ := h.1 rfl
    obtain rfl : l = [] := List.length_eq_zero_iff.1 h0
    have heq := fun (w : World) => Lib.run_eql_slice_nil (P := Try.prog) w 23 9 none 0 0 0 0 Try.underlying23
    clear h h0
    go_enter Try.func42, Try.ntmps42
    go_wp2
    go_ret
    exact ⟨none, 0, rfl, OwnK.nil _ _, Below.refl _ _⟩
  | some a =>
    have HS := hide h
    have heq := fun (w : World) => Lib.run_eql_slice_nil (P := Try.prog) w 23 9 (some a) l.length c 0 0 Try.underlying23
    clear h
    go_enter Try.func42, Try.ntmps42
    go_wp2_with (at_builtin; refine wpList_app rowS rfl _ _ rfl w.heap.size (some ⟨w.heap.size, 0, none⟩) 0 [] (some a) c l 0 l.length l.length rfl rfl (by omega) rfl rfl (OwnK.made _ _ (Nat.le_refl _)) ((unhide HS).below ((Below.refl _ _).alloc (Nat.le_refl _) _)).src (by unfold maxLen; omega) (by omega) (by simp) ?_; intro q2 c2 w2 hown2 hb2 _ hg2)
    go_ret
    exact ⟨q2, c2, rfl, by simpa using hown2, ((Below.refl _ _).alloc (Nat.le_refl _) _).trans hb2⟩
set_option maxRecDepth 100000 in
set_option maxHeartbeats 1000000 in
theorem cloneV (q : Option Addr) (c : Nat) (l : List Nv) (w : World) (h : SlOf encV 8 w q c l) (hl : l.length ≤ 1000000000000) :
    Calls Try.prog 69 #[.slice q l.length c] w fun e w' => ∃ q' c', e = .returned (.slice q' l.length c') ∧ OwnK encV 28 8 w.heap.size w' q' c' l ∧ Below w.heap.size w w' := by
  cases q with
  | none =>
    obtain ⟨h0, rfl⟩ := h.1 rfl
    obtain rfl : l = [] := List.length_eq_zero_iff.1 h0
    have heq := fun (w : World) => Lib.run_eql_slice_nil (P := Try.prog) w 26 28 none 0 0 0 0 Try.underlying26
    clear h h0
    go_enter Try.func69, Try.ntmps69
    go_wp2
    go_ret
    exact ⟨none, 0, rfl, OwnK.nil _ _, Below.refl _ _⟩
  | some a =>
    have HS := hide h
    have heq := fun (w : World) => Lib.run_eql_slice_nil (P := Try.prog) w 26 28 (some a) l.length c 0 0 Try.underlying26
    clear h
    go_enter Try.func69, Try.ntmps69
    go_wp2_with (at_builtin; refine wpList_app rowV rfl _ _ rfl w.heap.size (some ⟨w.heap.size, 0, none⟩) 0 [] (some a) c l 0 l.length l.length rfl rfl (by omega) rfl rfl (OwnK.made _ _ (Nat.le_refl _)) ((unhide HS).below ((Below.refl _ _).alloc (Nat.le_refl _) _)).src (by unfold maxLen; omega) (by omega) (by simp) ?_; intro q2 c2 w2 hown2 hb2 _ hg2)
    go_ret
    exact ⟨q2, c2, rfl, by simpa using hown2, ((Below.refl _ _).alloc (Nat.le_refl _) _).trans hb2⟩
end Go.Proofs.Ytmpdfgebhpfhhaa

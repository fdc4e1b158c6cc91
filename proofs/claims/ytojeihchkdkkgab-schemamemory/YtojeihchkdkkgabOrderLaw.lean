/- The law SchemaOrder returns true at every list of attributes, every list of pairs and every number. -/
import Derived.Test.YtojeihchkdkkgabKindsLaw
import Derived.Test.YtojeihchkdkkgabSame
import Derived.Test.YtojeihchkdkkgabOwn
namespace Go.Proofs.Ytojeihchkdkkgab
open Go.RowKit Go.Sort Go.Shelf

theorem all_rev {α : Type} (l : List α) (f : α → Bool) : l.reverse.all f = l.all f := by simp
theorem nodup_rev {α β : Type} (l : List α) (f : α → β) : (l.reverse.map f).Nodup ↔ (l.map f).Nodup := by
  rw [List.map_reverse]; exact (List.reverse_perm _).nodup_iff
theorem rev_take_snoc {α : Type} {l : List α} {m : Nat} {x : α} (hm : m < l.length) (hx : l[l.length - 1 - m]? = some x) : l.reverse.take (m + 1) = l.reverse.take m ++ [x] := by
  rw [List.take_add_one, List.getElem?_reverse hm, hx]; rfl
theorem kindOf_congr {l : List (ByteArray × Int)} {s s' : ByteArray} (h : s.toList = s'.toList) : kindOf l s = kindOf l s' := by
  induction l with
  | nil => rfl
  | cons y r ih => unfold kindOf; rw [h, ih]
/-- A pair that fits has its attribute's kind. -/
theorem kindOf_fit {al : List (ByteArray × Int)} {x : ByteArray × Int × Int × ByteArray} (hn : (al.map nmA).Nodup) (h : fitOk al x = true) : kindOf al x.1 = x.2.1 := by
  unfold fitOk at h
  rw [Bool.and_eq_true, List.any_eq_true] at h
  obtain ⟨_, y, hy, he⟩ := h
  unfold eqA at he
  rw [Bool.and_eq_true] at he
  obtain ⟨k, hk, rfl⟩ := List.mem_iff_getElem.1 hy
  have h1 := kindOf_at hn (List.getElem?_eq_getElem hk)
  have h2 : x.1.toList = al[k].1.toList := eq_of_beq he.1
  have h3 : x.2.1 = al[k].2 := eq_of_beq he.2
  rw [kindOf_congr h2, h1, h3]
/-- The k-th is left out. -/
def outOf {α : Type} (l : List α) (k : Nat) : List α := l.take k ++ l.drop (k + 1)
theorem out_sub {α : Type} (l : List α) (k : Nat) : (outOf l k).Sublist l := by
  unfold outOf
  have := (List.Sublist.refl (l.take k)).append (List.drop_sublist 1 (l.drop k))
  rw [List.take_append_drop, List.drop_drop, Nat.add_comm] at this
  rwa [Nat.add_comm] at this
theorem all_sub {α : Type} {l m : List α} {f : α → Bool} (h : m.Sublist l) (hl : l.all f = true) : m.all f = true := by
  rw [List.all_eq_true] at hl ⊢
  exact fun x hx => hl x (h.subset hx)
theorem turn_perm {α : Type} (l : List α) (k : Nat) : (l.drop k ++ l.take k).Perm l := by
  have := List.perm_append_comm (l₁ := l.drop k) (l₂ := l.take k)
  rwa [List.take_append_drop] at this
theorem AtsOf.one {w : World} {b off : Nat} {x : ByteArray × Int} (hb : b < w.heap.size) (h0 : w.cell? ⟨b, off, none⟩ = some (.string x.1)) (h1 : w.cell? ⟨b, off + 1, none⟩ = some (.int .i64 x.2)) : AtsOf w (some ⟨b, off, none⟩) [x] := fun _ => by
  refine ⟨b, off, rfl, hb, fun j y hj => ?_⟩
  match j, hj with
  | 0, hj => simp only [List.getElem?_cons_zero, Option.some.injEq] at hj; subst hj; exact ⟨by simpa using h0, by simpa using h1⟩
theorem new_big (p : Option Addr) (cap : Nat) (l : List (ByteArray × Int)) (w : World) (hl : l.length * 24 ≤ 140737488355328) (hp : p = none → l.length = 0 ∧ cap = 0) (hA : AtsOf w p l) (h : 64 < l.length) :
    Calls Try.prog 9 #[.slice p l.length cap] w fun e w' => e = .returned (.tuple #[.pointer none, .int .i64 2]) ∧ Below w.heap.size w w' := by
  refine (new_any p cap l w hl hp hA).mono fun e w' ⟨hr, hb⟩ => ⟨?_, hb⟩
  rcases hr with ⟨_, h1⟩ | ⟨h1, _⟩ | ⟨h1, _⟩
  · exact h1
  · omega
  · omega
theorem new_bad (p : Option Addr) (cap : Nat) (l : List (ByteArray × Int)) (w : World) (hl : l.length * 24 ≤ 140737488355328) (hp : p = none → l.length = 0 ∧ cap = 0) (hA : AtsOf w p l) (h : l.length ≤ 64) (h2 : ¬ (l.all atOk = true ∧ (l.map nmA).Nodup)) :
    Calls Try.prog 9 #[.slice p l.length cap] w fun e w' => e = .returned (.tuple #[.pointer none, .int .i64 1]) ∧ Below w.heap.size w w' := by
  refine (new_any p cap l w hl hp hA).mono fun e w' ⟨hr, hb⟩ => ⟨?_, hb⟩
  rcases hr with ⟨h1, _⟩ | ⟨_, _, h1⟩ | ⟨_, h3, h4, _⟩
  · omega
  · exact h1
  · exact absurd ⟨h3, h4⟩ h2
theorem new_good (ls : List (ByteArray × Int)) (p : Option Addr) (cap : Nat) (l : List (ByteArray × Int)) (w : World) (hl : l.length * 24 ≤ 140737488355328) (hp : p = none → l.length = 0 ∧ cap = 0) (hA : AtsOf w p l) (h : l.length ≤ 64) (h1 : l.all atOk = true) (hs : Strict nmA ls) (hpm : ls.Perm l) :
    Calls Try.prog 9 #[.slice p l.length cap] w fun e w' => (∃ b, e = .returned (.tuple #[.pointer (some ⟨b, 0, none⟩), .int .i64 0]) ∧ SchNew w.heap.size w' b ls) ∧ Below w.heap.size w w' := by
  have h2 := strict_nodup hs hpm
  refine (new_any p cap l w hl hp hA).mono fun e w' ⟨hr, hb⟩ => ⟨?_, hb⟩
  rcases hr with ⟨h3, _⟩ | ⟨_, h3, _⟩ | ⟨_, _, _, b, l', he, hp', hs', hN⟩
  · omega
  · exact absurd ⟨h1, h2⟩ h3
  · obtain rfl := strict_one hs' hs (hp'.trans hpm.symm)
    exact ⟨b, he, hN⟩
theorem event_bad (b : Nat) (al : List (ByteArray × Int)) (p : Option Addr) (cap : Nat) (l : List (ByteArray × Int × Int × ByteArray)) (w : World) (ha : al.length ≤ 140737488355328) (hl : l.length * 48 ≤ 140737488355328) (hS : SchAt w b al) (hp : p = none → l.length = 0 ∧ cap = 0) (hA : PrsOf w p l) (h : ¬ (l.all (fitOk al) = true ∧ (l.map nmP).Nodup)) :
    Calls Try.prog 13 #[.pointer (some ⟨b, 0, none⟩), .slice p l.length cap] w fun e w' => e = .returned (.tuple #[.slice none 0 0, .int .i64 12]) ∧ Below w.heap.size w w' := by
  refine (event_any b al p cap l w ha hl hS hp hA).mono fun e w' ⟨hr, hb⟩ => ⟨?_, hb⟩
  rcases hr with ⟨_, h1⟩ | ⟨h1, h2, _⟩
  · exact h1
  · exact absurd ⟨h1, h2⟩ h
theorem event_good (ls : List (ByteArray × Int × Int × ByteArray)) (b : Nat) (al : List (ByteArray × Int)) (p : Option Addr) (cap : Nat) (l : List (ByteArray × Int × Int × ByteArray)) (w : World) (ha : al.length ≤ 140737488355328) (hl : l.length * 48 ≤ 140737488355328) (hS : SchAt w b al) (hp : p = none → l.length = 0 ∧ cap = 0) (hA : PrsOf w p l) (h : l.all (fitOk al) = true) (hs : Strict nmP ls) (hpm : ls.Perm l) :
    Calls Try.prog 13 #[.pointer (some ⟨b, 0, none⟩), .slice p l.length cap] w fun e w' => (∃ q cap', e = .returned (.tuple #[.slice q ls.length cap', .int .i64 0]) ∧ NewP w.heap.size w' q cap' ls) ∧ Below w.heap.size w w' := by
  have h2 := strict_nodup hs hpm
  refine (event_any b al p cap l w ha hl hS hp hA).mono fun e w' ⟨hr, hb⟩ => ⟨?_, hb⟩
  rcases hr with ⟨h3, _⟩ | ⟨_, _, l', q, cap', he, hp', hs', hN, _⟩
  · exact absurd ⟨h, h2⟩ h3
  · obtain rfl := strict_one hs' hs (hp'.trans hpm.symm)
    exact ⟨q, cap', he, hN⟩
theorem turn_k (n : Int) (m : Nat) (hm : 0 < m) (hb : m ≤ 140737488355328) : ∃ k : Nat, k < m ∧ wrap64 ((IntKind.u64.wrap n).tmod m) = (k : Int) := by
  have h0 : 0 ≤ IntKind.u64.wrap n := by
    have e : (2 : Int) ^ IntKind.u64.bits = 18446744073709551616 := by decide
    simp [IntKind.wrap, e, IntKind.signed]
    omega
  have e1 : (IntKind.u64.wrap n).tmod m = IntKind.u64.wrap n % m := Int.tmod_eq_emod_of_nonneg h0
  have h1 := Int.emod_nonneg (IntKind.u64.wrap n) (b := (m : Int)) (by omega)
  have h2 := Int.emod_lt_of_pos (IntKind.u64.wrap n) (b := (m : Int)) (by omega)
  rw [e1]
  refine ⟨(IntKind.u64.wrap n % (m : Int)).toNat, by omega, ?_⟩
  unfold wrap64
  omega
theorem event_any2 (b : Nat) (al : List (ByteArray × Int)) (p : Option Addr) (cap : Nat) (l : List (ByteArray × Int × Int × ByteArray)) (w : World) (ha : al.length ≤ 140737488355328) (hl : l.length * 48 ≤ 140737488355328) (hS : SchAt w b al) (hp : p = none → l.length = 0 ∧ cap = 0) (hA : PrsOf w p l) (h : l.all (fitOk al) = true ∧ (l.map nmP).Nodup) :
    Calls Try.prog 13 #[.pointer (some ⟨b, 0, none⟩), .slice p l.length cap] w fun e w' => (∃ es q cap', e = .returned (.tuple #[.slice q es.length cap', .int .i64 0]) ∧ es.Perm l ∧ Strict nmP es ∧ NewP w.heap.size w' q cap' es) ∧ Below w.heap.size w w' := by
  refine (event_any b al p cap l w ha hl hS hp hA).mono fun e w' ⟨hr, hb⟩ => ⟨?_, hb⟩
  rcases hr with ⟨h3, _⟩ | ⟨_, _, l', q, cap', he, hp', hs', hN, _⟩
  · exact absurd h h3
  · exact ⟨l', q, cap', he, hp', hs', hN⟩
theorem strict_at {α : Type} {nm : α → List UInt8} {l : List α} (h : Strict nm l) {i : Nat} {x y : α} (hx : l[i]? = some x) (hy : l[i + 1]? = some y) : Op.bytesLess (nm x) (nm y) = true := by
  obtain ⟨hi, ex⟩ := List.getElem?_eq_some_iff.1 hx
  obtain ⟨hj, ey⟩ := List.getElem?_eq_some_iff.1 hy
  unfold Strict at h
  rw [List.pairwise_iff_getElem] at h
  have := h i (i + 1) hi hj (by omega)
  rwa [ex, ey] at this
theorem fit_at {al : List (ByteArray × Int)} {l es : List (ByteArray × Int × Int × ByteArray)} (h : l.all (fitOk al) = true) (hp : es.Perm l) {j : Nat} {x : ByteArray × Int × Int × ByteArray} (hx : es[j]? = some x) : fitOk al x = true := by
  rw [List.all_eq_true] at h
  exact h x (hp.mem_iff.1 (List.mem_of_getElem? hx))
theorem NewP.cap {B : Nat} {w : World} {q : Option Addr} {cp : Nat} {l : List (ByteArray × Int × Int × ByteArray)} (h : NewP B w q cp l) : l.length ≤ cp ∧ (q = Option.none → l.length = 0 ∧ cp = 0) := by
  refine ⟨?_, h.none⟩
  rcases h with ⟨_, rfl, _⟩ | ⟨g, _, _, _, _, h1, _⟩
  · simp
  · exact h1
set_option maxHeartbeats 4000000 in
set_option maxRecDepth 100000 in
theorem schemaOrder_any (pp0 : Option Addr) (cap0 : Nat) (l0 : List (ByteArray × Int)) (pp1 : Option Addr) (cap1 : Nat) (l1 : List (ByteArray × Int × Int × ByteArray)) (n2 : Int) (W : World) (hl0 : l0.length * 24 ≤ 140737488355328) (hl1 : l1.length * 48 ≤ 140737488355328) (hn0 : pp0 = none → l0.length = 0 ∧ cap0 = 0) (hn1 : pp1 = none → l1.length = 0 ∧ cap1 = 0) (hP0 : AtsOf W pp0 l0) (hP1 : PrsOf W pp1 l1) (hc1 : l1.length ≤ cap1) :
    Calls Try.prog 5 #[.slice pp0 l0.length cap0, .slice pp1 l1.length cap1, .int .i64 n2] W fun e w' => e = .returned (.bool true) ∧ Below W.heap.size W w' := by
  have mixed : Try.prog.follows .mixedOrders = true := by kernel_rfl
  have hfx := fixed_any W
  have HP0 := hide hP0
  have HP1 := hide hP1
  have Hn0 := hide hn0
  have Hn1 := hide hn1
  clear hP0 hP1 hn0 hn1
  go_enter Try.func5, Try.ntmps5
  go_wp2_with (first
    | (go_at_call 8; refine hfx.mono ?_; rintro e w1 ⟨rfl, b1⟩; have B1 := hide b1; clear b1))
  go_loopw [7, 8] (fun v i wr => ∃ (r : Nat) (o : List (ByteArray × Int)) (q : Option Addr) (cp : Nat), r ≤ l0.length ∧ v = .slice q o.length cp ∧ i = .int .i64 ((r : Int) - 1) ∧ Hid (o = l0.reverse.take (l0.length - r)) ∧ Hid (OwnK encA 26 2 w1.heap.size wr q cp o) ∧ Below w1.heap.size w1 wr) (fun _ i _ => (intOf i + 1).toNat)
  case atStart => exact ⟨l0.length, [], none, 0, by omega, rfl, by go_num, hide (by simp), hide (OwnK.nil _ _), Below.refl _ _⟩
  case round =>
    obtain ⟨r, o, q, cp, hr, rfl, rfl, Ho, Hown, hbel⟩ := hrel
    have Hbel := hide hbel
    cases r with
    | succ k =>
      obtain ⟨bb, off, rfl, hbb, hAt⟩ := (unhide HP0).below (unhide B1) (by omega)
      obtain ⟨x, hx, _⟩ := get_at (l := l0) (k := k) (by omega)
      have ek : ((k + 1 : Nat) : Int) - 1 = (k : Int) := by omega
      rw [ek]
      clear ek
      have ki0 : (0 : Int) ≤ (k : Int) := by omega
      have ki1 : (k : Int) < (l0.length : Int) := by omega
      obtain ⟨g0, g1⟩ := hAt.below hbel hbb k x hx
      have HoL : Hid (o.length + 1 ≤ l0.length) := hide (by rw [unhide Ho, List.length_take]; omega)
      have Hsrc : Hid (SrcK encA 2 (wr.alloc (.cells #[.string x.1, .int .i64 x.2] 26)) (some ⟨wr.heap.size, 0, none⟩) 1 [x]) := hide (SrcK.ofA (fun h => by cases h) (AtsOf.one (by simp) (by go_simp) (by go_simp)))
      have Hx := hide hx
      clear hx
      go_wp2_with (at_builtin; refine wpList_app rowA rfl _ _ rfl w1.heap.size q cp o (some ⟨wr.heap.size, 0, none⟩) 1 [x] o.length 1 (o.length + 1) rfl rfl rfl rfl rfl ((unhide Hown).below ((Below.refl _ _).alloc (Nat.le_refl _) _)) (unhide Hsrc) (by have := unhide HoL; unfold maxLen; omega) (by have := unhide HoL; omega) (by have := (unhide Hbel).size; simp; omega) ?_)
      intro q' cp' w2 hown hb2 _ _
      have Hown2 := hide hown
      have Hb2 := hide (((unhide Hbel).alloc (unhide Hbel).size (.cells #[.string x.1, .int .i64 x.2] 26)).trans hb2)
      clear hown hb2
      go_wp2
      go_roundw
      case rel => exact ⟨k, o ++ [x], q', cp', by omega, by simp, by go_num, hide (by
        have hm : l0.length - (k + 1) < l0.length := by omega
        have := rev_take_snoc hm (by rw [show l0.length - 1 - (l0.length - (k + 1)) = k by omega]; exact unhide Hx)
        rw [unhide Ho, ← this]
        congr 1; omega), Hown2, unhide Hb2⟩
      case measure => simp [intOf]
    | zero =>
      have ek : ((0 : Nat) : Int) - 1 = -1 := by omega
      rw [ek]
      clear ek hr hbel
      have Ho2 : Hid (o = l0.reverse) := hide (by rw [unhide Ho, Nat.sub_zero, List.take_of_length_le (by simp)])
      clear Ho
      have hoP := (unhide Hown).newA.of
      have hoN := (unhide Hown).newA.none
      have hA0 : AtsOf wr pp0 l0 := ((unhide HP0).below (unhide B1)).below (unhide Hbel)
      have Hol : Hid (o.length = l0.length) := hide (by rw [unhide Ho2]; simp)
      have hlo : o.length * 24 ≤ 140737488355328 := by rw [unhide Hol]; exact hl0
      have HWr := hide (below_sub (unhide B1) (unhide Hbel))
      by_cases h64 : 64 < l0.length
      · have ha := new_big pp0 cap0 l0 wr hl0 (unhide Hn0) hA0 h64
        have hb := fun (V : World) (hv : Below wr.heap.size wr V) => new_big q cp o V hlo hoN (hoP.below hv) (by rw [unhide Hol]; exact h64)
        clear hoP hoN hA0 h64
        go_wp2_with (first
          | (go_at_call 9; refine (hb _ (unhide B3)).mono ?_; rintro e w4 ⟨rfl, b4⟩; have B4 := hide (below_sub (unhide B3) b4); clear b4)
          | (go_at_call 9; refine ha.mono ?_; rintro e w3 ⟨rfl, b3⟩; have B3 := hide b3; clear b3))
        go_ret
        exact ⟨rfl, below_sub (unhide HWr) (unhide B4)⟩
      by_cases hok : ¬ (l0.all atOk = true ∧ (l0.map nmA).Nodup)
      · have hok2 : ¬ (o.all atOk = true ∧ (o.map nmA).Nodup) := by
          rw [unhide Ho2, all_rev, nodup_rev]; exact hok
        have ha := new_bad pp0 cap0 l0 wr hl0 (unhide Hn0) hA0 (by omega) hok
        have hb := fun (V : World) (hv : Below wr.heap.size wr V) => new_bad q cp o V hlo hoN (hoP.below hv) (by rw [unhide Hol]; omega) hok2
        clear hoP hoN hA0 h64 hok hok2
        go_wp2_with (first
          | (go_at_call 9; refine (hb _ (unhide B3)).mono ?_; rintro e w4 ⟨rfl, b4⟩; have B4 := hide (below_sub (unhide B3) b4); clear b4)
          | (go_at_call 9; refine ha.mono ?_; rintro e w3 ⟨rfl, b3⟩; have B3 := hide b3; clear b3))
        go_ret
        exact ⟨rfl, below_sub (unhide HWr) (unhide B4)⟩
      obtain ⟨hok1, hok2⟩ := Classical.byContradiction hok
      clear hok
      have ha := (new_any pp0 cap0 l0 wr hl0 (unhide Hn0) hA0).mono (R' := fun e w' => (∃ b ls, e = .returned (.tuple #[.pointer (some ⟨b, 0, none⟩), .int .i64 0]) ∧ ls.Perm l0 ∧ Strict nmA ls ∧ SchNew wr.heap.size w' b ls) ∧ Below wr.heap.size wr w') (fun e w' ⟨hr, hb⟩ => ⟨by
        rcases hr with ⟨h1, _⟩ | ⟨_, h1, _⟩ | ⟨_, _, _, h1⟩
        · exact absurd h1 h64
        · exact absurd ⟨hok1, hok2⟩ h1
        · exact h1, hb⟩)
      have hb := fun (ls : List (ByteArray × Int)) (hs : Strict nmA ls) (hp : ls.Perm l0) (V : World) (hv : Below wr.heap.size wr V) => new_good ls q cp o V hlo hoN (hoP.below hv) (by rw [unhide Hol]; omega) (by rw [unhide Ho2, all_rev]; exact hok1) hs (hp.trans (by rw [unhide Ho2]; exact (List.reverse_perm _).symm))
      have h64' : l0.length ≤ 64 := by omega
      have H64 := hide h64'
      clear hoP hoN hA0 h64 h64' hok1
      rcases Nat.eq_zero_or_pos l1.length with he | he
      · obtain rfl : l1 = [] := List.length_eq_zero_iff.1 he
        clear he
        simp only [List.length_nil] at *
        cases pp1 with
        | none =>
          obtain ⟨_, rfl⟩ := unhide Hn1 rfl
          clear Hn1 HP1
          go_wp2_with (first
            | (go_at_call 9; refine (hb ls (unhide Hst) (unhide Hpm) _ (unhide B3)).mono ?_; rintro e w4 ⟨⟨b', rfl, hN'⟩, b4⟩; have B4 := hide (below_sub (unhide B3) b4); have HN' := hide hN'; have HN4 := hide ((unhide HN).below b4); clear b4 hN')
            | (go_at_call 9; refine ha.mono ?_; rintro e w3 ⟨⟨b, ls, rfl, hpm, hst, hN⟩, b3⟩; have B3 := hide b3; have Hpm := hide hpm; have Hst := hide hst; have HN := hide hN; clear b3 hpm hst hN)
            | (go_at_call 16; refine (hat2 _ (unhide B5)).mono ?_; rintro e w6 ⟨q6, cp6, rfl, hN6, b6⟩; have HA6 := hide hN6.of; have HA5' := hide ((unhide HA5).of.below b6); have B6 := hide (below_sub (unhide B5) b6); clear b6 hN6)
            | (go_at_call 16; refine (attrs_any b ls _ (by rw [(unhide Hpm).length_eq]; omega) (unhide HN4).at).mono ?_; rintro e w5 ⟨q5, cp5, rfl, hN5, b5⟩; have hat2 := fun (V : World) (hv : Below w4.heap.size w4 V) => attrs_any b' ls V (by rw [(unhide Hpm).length_eq]; omega) ((unhide HN').at.below hv); have HA5 := hide hN5; have B5 := hide b5; clear b5 hN5)
            | (go_at_call 11; refine (sameA_eq q5 q6 cp5 cp6 ls _ (by rw [(unhide Hpm).length_eq]; omega) (unhide HA5') (unhide HA6)).mono ?_; rintro e w7 ⟨rfl, b7⟩; have B7 := hide (below_sub (unhide B6) b7); clear b7))
          go_region_held3 (fun _ => True) (trivial) ((first
            | (refine step_app rowP (by rfl) (.tmp 84) (.tmp 87) (by rfl) w7.heap.size (some ⟨w7.heap.size, 0, none⟩) 0 [] none 0 [] 0 0 0 rfl rfl rfl (by rfl) (by rfl) (OwnK.made _ _ (Nat.le_refl _)) (SrcK.ofP (fun _ => ⟨rfl, rfl⟩) (PrsOf.nil _ _)) (by simp) (by simp) (by simp) ?_; intro q8 cp8 w8 hown8 hb8 _ _; have hb8' := (((Below.refl w7.heap.size w7).alloc (Nat.le_refl _) _).drew).trans hb8)
            | (refine step_app rowP (by rfl) (.tmp 88) (.tmp 91) (by rfl) w7.heap.size q8 cp8 [] none 0 [] 0 0 0 rfl rfl rfl (by rfl) (by rfl) hown8 (SrcK.ofP (fun _ => ⟨rfl, rfl⟩) (PrsOf.nil _ _)) (by simp) (by simp) (by have := hb8'.size; simpa using this) ?_; intro q9 cp9 w9 hown9 hb9 _ _)))
          have hT : NewP w7.heap.size w9 q9 cp9 [] := hown9.newP
          have HTN := hide hT.none
          have B79 := hide (hb8'.trans hb9)
          have B9 := hide (below_sub (unhide B7) (unhide B79))
          have B47 := hide (below_sub (unhide HWr) (below_sub (unhide B4) (unhide B7)))
          have HWv := hide (below_sub (unhide B47) (unhide B79))
          clear hT hown8 hb8 hb8' hown9 hb9
          have hll : ls.length ≤ 140737488355328 := by rw [(unhide Hpm).length_eq]; omega
          have hSv := fun (V : World) (hv : Below w9.heap.size w9 V) => (unhide HN4).at.below (below_sub (unhide B9) hv)
          have hSv' := fun (V : World) (hv : Below w9.heap.size w9 V) => (unhide HN').at.below (below_sub (unhide B9) hv)
          have ev1 := event_good [] b ls none 0 [] w9 hll (by simp) (hSv _ (Below.refl _ _)) (fun _ => ⟨rfl, rfl⟩) (PrsOf.nil _ _) rfl List.Pairwise.nil (List.Perm.refl _)
          have ev2 := fun (V : World) (hv : Below w9.heap.size w9 V) => event_good [] b' ls q9 cp9 [] V hll (by simp) (hSv' _ hv) (unhide HTN) (PrsOf.nil _ _) rfl List.Pairwise.nil (List.Perm.refl _)
          have ev3 := fun (q : Option Addr) (cp : Nat) (hq : q = none → ([] : List (ByteArray × Int × Int × ByteArray)).length = 0 ∧ cp = 0) (V : World) (hv : Below w9.heap.size w9 V) => event_good [] b ls q cp [] V hll (by simp) (hSv _ hv) hq (PrsOf.nil _ _) rfl List.Pairwise.nil (List.Perm.refl _)
          have sm := fun (q q' : Option Addr) (cp cp' : Nat) (V : World) => sameP_eq q q' cp cp' [] V (by simp) (PrsOf.nil _ _) (PrsOf.nil _ _)
          simp only [List.length_nil] at ev1 ev2 ev3 sm
          have Ev3 := hide ev3
          have Sm := hide sm
          clear ha hb hat2 ev3 sm hSv hSv' HP0 Hn0 hfx
          go_wp2_with (first
            | (go_at_call 13; refine (ev2 _ (unhide B10)).mono ?_; rintro e w11 ⟨⟨q11, cp11, rfl, hN11⟩, b11⟩; have B11 := hide (below_sub (unhide B10) b11); clear b11 hN11)
            | (go_at_call 13; refine ev1.mono ?_; rintro e w10 ⟨⟨q10, cp10, rfl, hN10⟩, b10⟩; have B10 := hide b10; have HN10 := hide hN10.none; clear b10 hN10)
            | (go_at_call 19; refine (unhide Sm q10 q11 cp10 cp11 _).mono ?_; rintro e w12 ⟨rfl, b12⟩; have B12 := hide (below_sub (unhide B11) b12); clear b12))
          go_loopw [125] (fun i wr => i = .int .i64 0 ∧ Below w12.heap.size w12 wr) (fun _ _ => 0)
          case atStart => exact ⟨rfl, Below.refl _ _⟩
          case round =>
            obtain ⟨rfl, hbel⟩ := hrel
            have B12r := hide (below_sub (unhide B12) hbel)
            have ev3 := unhide Ev3 q10 cp10 (fun h => ⟨trivial, (unhide HN10 h).2⟩) wr (unhide B12r)
            clear hbel
            go_wp2_with (first
              | (go_at_call 13; refine ev3.mono ?_; rintro e w13 ⟨⟨q13, cp13, rfl, hN13⟩, b13⟩; have B13 := hide (below_sub (unhide B12r) b13); clear b13 hN13)
              | (go_at_call 19; refine (unhide Sm q13 q10 cp13 cp10 _).mono ?_; rintro e w14 ⟨rfl, b14⟩; have B14 := hide (below_sub (unhide B13) b14); clear b14))
            go_ret
            exact ⟨rfl, below_sub (unhide HWv) (unhide B14)⟩
        | some a =>
          clear Hn1 HP1
          go_wp2_with (first
            | (go_at_call 9; refine (hb ls (unhide Hst) (unhide Hpm) _ (unhide B3)).mono ?_; rintro e w4 ⟨⟨b', rfl, hN'⟩, b4⟩; have B4 := hide (below_sub (unhide B3) b4); have HN' := hide hN'; have HN4 := hide ((unhide HN).below b4); clear b4 hN')
            | (go_at_call 9; refine ha.mono ?_; rintro e w3 ⟨⟨b, ls, rfl, hpm, hst, hN⟩, b3⟩; have B3 := hide b3; have Hpm := hide hpm; have Hst := hide hst; have HN := hide hN; clear b3 hpm hst hN)
            | (go_at_call 16; refine (hat2 _ (unhide B5)).mono ?_; rintro e w6 ⟨q6, cp6, rfl, hN6, b6⟩; have HA6 := hide hN6.of; have HA5' := hide ((unhide HA5).of.below b6); have B6 := hide (below_sub (unhide B5) b6); clear b6 hN6)
            | (go_at_call 16; refine (attrs_any b ls _ (by rw [(unhide Hpm).length_eq]; omega) (unhide HN4).at).mono ?_; rintro e w5 ⟨q5, cp5, rfl, hN5, b5⟩; have hat2 := fun (V : World) (hv : Below w4.heap.size w4 V) => attrs_any b' ls V (by rw [(unhide Hpm).length_eq]; omega) ((unhide HN').at.below hv); have HA5 := hide hN5; have B5 := hide b5; clear b5 hN5)
            | (go_at_call 11; refine (sameA_eq q5 q6 cp5 cp6 ls _ (by rw [(unhide Hpm).length_eq]; omega) (unhide HA5') (unhide HA6)).mono ?_; rintro e w7 ⟨rfl, b7⟩; have B7 := hide (below_sub (unhide B6) b7); clear b7))
          go_region_held3 (fun _ => True) (trivial) ((first
            | (refine step_app rowP (by rfl) (.tmp 84) (.tmp 87) (by rfl) w7.heap.size (some ⟨w7.heap.size, 0, none⟩) 0 [] (some a) cap1 [] 0 0 0 rfl rfl rfl (by rfl) (by rfl) (OwnK.made _ _ (Nat.le_refl _)) (SrcK.ofP (fun h => by cases h) (PrsOf.nil _ _)) (by simp) (by simp) (by simp) ?_; intro q8 cp8 w8 hown8 hb8 _ _; have hb8' := (((Below.refl w7.heap.size w7).alloc (Nat.le_refl _) _).drew).trans hb8)
            | (refine step_app rowP (by rfl) (.tmp 88) (.tmp 91) (by rfl) w7.heap.size q8 cp8 [] (some a) cap1 [] 0 0 0 rfl rfl rfl (by rfl) (by rfl) hown8 (SrcK.ofP (fun h => by cases h) (PrsOf.nil _ _)) (by simp) (by simp) (by have := hb8'.size; simpa using this) ?_; intro q9 cp9 w9 hown9 hb9 _ _)))
          have hT : NewP w7.heap.size w9 q9 cp9 [] := hown9.newP
          have HTN := hide hT.none
          have B79 := hide (hb8'.trans hb9)
          have B9 := hide (below_sub (unhide B7) (unhide B79))
          have B47 := hide (below_sub (unhide HWr) (below_sub (unhide B4) (unhide B7)))
          have HWv := hide (below_sub (unhide B47) (unhide B79))
          clear hT hown8 hb8 hb8' hown9 hb9
          have hll : ls.length ≤ 140737488355328 := by rw [(unhide Hpm).length_eq]; omega
          have hSv := fun (V : World) (hv : Below w9.heap.size w9 V) => (unhide HN4).at.below (below_sub (unhide B9) hv)
          have hSv' := fun (V : World) (hv : Below w9.heap.size w9 V) => (unhide HN').at.below (below_sub (unhide B9) hv)
          have ev1 := event_good [] b ls (some a) cap1 [] w9 hll (by simp) (hSv _ (Below.refl _ _)) (fun h => by cases h) (PrsOf.nil _ _) rfl List.Pairwise.nil (List.Perm.refl _)
          have ev2 := fun (V : World) (hv : Below w9.heap.size w9 V) => event_good [] b' ls q9 cp9 [] V hll (by simp) (hSv' _ hv) (unhide HTN) (PrsOf.nil _ _) rfl List.Pairwise.nil (List.Perm.refl _)
          have ev3 := fun (q : Option Addr) (cp : Nat) (hq : q = none → ([] : List (ByteArray × Int × Int × ByteArray)).length = 0 ∧ cp = 0) (V : World) (hv : Below w9.heap.size w9 V) => event_good [] b ls q cp [] V hll (by simp) (hSv _ hv) hq (PrsOf.nil _ _) rfl List.Pairwise.nil (List.Perm.refl _)
          have sm := fun (q q' : Option Addr) (cp cp' : Nat) (V : World) => sameP_eq q q' cp cp' [] V (by simp) (PrsOf.nil _ _) (PrsOf.nil _ _)
          simp only [List.length_nil] at ev1 ev2 ev3 sm
          have Ev3 := hide ev3
          have Sm := hide sm
          clear ha hb hat2 ev3 sm hSv hSv' HP0 Hn0 hfx
          go_wp2_with (first
            | (go_at_call 13; refine (ev2 _ (unhide B10)).mono ?_; rintro e w11 ⟨⟨q11, cp11, rfl, hN11⟩, b11⟩; have B11 := hide (below_sub (unhide B10) b11); clear b11 hN11)
            | (go_at_call 13; refine ev1.mono ?_; rintro e w10 ⟨⟨q10, cp10, rfl, hN10⟩, b10⟩; have B10 := hide b10; have HN10 := hide hN10.none; clear b10 hN10)
            | (go_at_call 19; refine (unhide Sm q10 q11 cp10 cp11 _).mono ?_; rintro e w12 ⟨rfl, b12⟩; have B12 := hide (below_sub (unhide B11) b12); clear b12))
          go_loopw [125] (fun i wr => i = .int .i64 0 ∧ Below w12.heap.size w12 wr) (fun _ _ => 0)
          case atStart => exact ⟨rfl, Below.refl _ _⟩
          case round =>
            obtain ⟨rfl, hbel⟩ := hrel
            have B12r := hide (below_sub (unhide B12) hbel)
            have ev3 := unhide Ev3 q10 cp10 (fun h => ⟨trivial, (unhide HN10 h).2⟩) wr (unhide B12r)
            clear hbel
            go_wp2_with (first
              | (go_at_call 13; refine ev3.mono ?_; rintro e w13 ⟨⟨q13, cp13, rfl, hN13⟩, b13⟩; have B13 := hide (below_sub (unhide B12r) b13); clear b13 hN13)
              | (go_at_call 19; refine (unhide Sm q13 q10 cp13 cp10 _).mono ?_; rintro e w14 ⟨rfl, b14⟩; have B14 := hide (below_sub (unhide B13) b14); clear b14))
            go_ret
            exact ⟨rfl, below_sub (unhide HWv) (unhide B14)⟩
      · have he' : (0 : Int) < (l1.length : Int) := by omega
        obtain ⟨bb, off, rfl, hbb, hAt⟩ := unhide HP1 he
        have HAt := hide hAt
        obtain ⟨k, hk, ek⟩ := turn_k n2 l1.length he (by omega)
        have k0 : (0 : Int) ≤ (k : Int) := by omega
        have k1 : (k : Int) ≤ (l1.length : Int) := by omega
        have c1 : (l1.length : Int) ≤ (cap1 : Int) := by omega
        have k2 : (k : Int) ≤ (cap1 : Int) := by omega
        have kne : ¬ cap1 = k := by omega
        clear hAt
        go_wp2_with (first
          | (go_at_call 9; refine (hb ls (unhide Hst) (unhide Hpm) _ (unhide B3)).mono ?_; rintro e w4 ⟨⟨b', rfl, hN'⟩, b4⟩; have B4 := hide (below_sub (unhide B3) b4); have HN' := hide hN'; have HN4 := hide ((unhide HN).below b4); clear b4 hN')
          | (go_at_call 9; refine ha.mono ?_; rintro e w3 ⟨⟨b, ls, rfl, hpm, hst, hN⟩, b3⟩; have B3 := hide b3; have Hpm := hide hpm; have Hst := hide hst; have HN := hide hN; clear b3 hpm hst hN)
          | (go_at_call 16; refine (hat2 _ (unhide B5)).mono ?_; rintro e w6 ⟨q6, cp6, rfl, hN6, b6⟩; have HA6 := hide hN6.of; have HA5' := hide ((unhide HA5).of.below b6); have B6 := hide (below_sub (unhide B5) b6); clear b6 hN6)
          | (go_at_call 16; refine (attrs_any b ls _ (by rw [(unhide Hpm).length_eq]; omega) (unhide HN4).at).mono ?_; rintro e w5 ⟨q5, cp5, rfl, hN5, b5⟩; have hat2 := fun (V : World) (hv : Below w4.heap.size w4 V) => attrs_any b' ls V (by rw [(unhide Hpm).length_eq]; omega) ((unhide HN').at.below hv); have HA5 := hide hN5; have B5 := hide b5; clear b5 hN5)
          | (go_at_call 11; refine (sameA_eq q5 q6 cp5 cp6 ls _ (by rw [(unhide Hpm).length_eq]; omega) (unhide HA5') (unhide HA6)).mono ?_; rintro e w7 ⟨rfl, b7⟩; have B7 := hide (below_sub (unhide B6) b7); clear b7))
        have B47 := hide (below_sub (unhide HWr) (below_sub (unhide B4) (unhide B7)))
        have hP7 := fun (V : World) (hv : Below w7.heap.size w7 V) => (unhide HAt).below ((unhide B47).trans (hv.mono (unhide B47).size)) hbb
        have hSd : ∀ (V : World), Below w7.heap.size w7 V → SrcK encP 4 V (some ⟨bb, off + k * 4, none⟩) (cap1 - k) (l1.drop k) := fun V hv => SrcK.ofP (fun h => by cases h) (fun _ => ⟨bb, off + k * 4, rfl, by have := (unhide B47).size; have := hv.size; omega, (hP7 V hv).drop k⟩)
        have hSt : ∀ (V : World), Below w7.heap.size w7 V → SrcK encP 4 V (some ⟨bb, off, none⟩) cap1 (l1.take k) := fun V hv => SrcK.ofP (fun h => by cases h) (fun _ => ⟨bb, off, rfl, by have := (unhide B47).size; have := hv.size; omega, (hP7 V hv).take k⟩)
        have HSd := hide hSd
        have HSt := hide hSt
        clear hSd hSt hP7
        rw [ek]
        clear ek
        go_region_held3 (fun _ => True) (trivial) ((first
          | (refine step_app rowP (by rfl) (.tmp 84) (.tmp 87) (by rfl) w7.heap.size (some ⟨w7.heap.size, 0, none⟩) 0 [] (some ⟨bb, off + k * 4, none⟩) (cap1 - k) (l1.drop k) 0 (l1.length - k) (l1.length - k) rfl (by simp) (by simp) (by rfl) (by rfl) (OwnK.made _ _ (Nat.le_refl _)) (unhide HSd _ (((Below.refl _ _).alloc (Nat.le_refl _) _).drew)) (by unfold maxLen; omega) (by omega) (by simp) ?_; intro q8 cp8 w8 hown8 hb8 _ _; have hb8' := (((Below.refl w7.heap.size w7).alloc (Nat.le_refl _) _).drew).trans hb8)
          | (refine step_app rowP (by rfl) (.tmp 88) (.tmp 91) (by rfl) w7.heap.size q8 cp8 (l1.drop k) (some ⟨bb, off, none⟩) cap1 (l1.take k) (l1.length - k) k l1.length (by simp) (by simp; omega) (by omega) (by rfl) (by rfl) hown8 (unhide HSt _ hb8') (by unfold maxLen; omega) (by omega) (by have := hb8'.size; simpa using this) ?_; intro q9 cp9 w9 hown9 hb9 _ _)))
        have hT : NewP w7.heap.size w9 q9 cp9 (l1.drop k ++ l1.take k) := hown9.newP
        have HTP := hide hT.of
        have HTN := hide hT.none
        have B79 := hide (hb8'.trans hb9)
        have B9 := hide (below_sub (unhide B7) (unhide B79))
        clear hT hown8 hb8 hb8' hown9 hb9 HSd HSt
        have HTl : Hid ((l1.drop k ++ l1.take k).length = l1.length) := hide (turn_perm l1 k).length_eq
        have hPv := fun (V : World) (hv : Below w9.heap.size w9 V) => (unhide HP1).below (below_sub (unhide B47) (below_sub (unhide B79) hv))
        have hSv := fun (V : World) (hv : Below w9.heap.size w9 V) => (unhide HN4).at.below (below_sub (unhide B9) hv)
        have hSv' := fun (V : World) (hv : Below w9.heap.size w9 V) => (unhide HN').at.below (below_sub (unhide B9) hv)
        have hll : ls.length ≤ 140737488355328 := by rw [(unhide Hpm).length_eq]; omega
        have HWv := hide (below_sub (unhide B47) (unhide B79))
        by_cases hfit : ¬ (l1.all (fitOk ls) = true ∧ (l1.map nmP).Nodup)
        · have hfit2 : ¬ ((l1.drop k ++ l1.take k).all (fitOk ls) = true ∧ ((l1.drop k ++ l1.take k).map nmP).Nodup) := by
            rw [(turn_perm l1 k).all_eq, ((turn_perm l1 k).map nmP).nodup_iff]; exact hfit
          have ev1 := event_bad b ls (some ⟨bb, off, none⟩) cap1 l1 w9 hll hl1 (hSv _ (Below.refl _ _)) (unhide Hn1) (hPv _ (Below.refl _ _)) hfit
          have ev2 := fun (V : World) (hv : Below w9.heap.size w9 V) => event_bad b' ls q9 cp9 (l1.drop k ++ l1.take k) V hll (by rw [unhide HTl]; exact hl1) (hSv' _ hv) (unhide HTN) ((unhide HTP).below hv) hfit2
          rw [unhide HTl] at ev2
          clear hfit hfit2 hPv hSv hSv'
          go_wp2_with (first
            | (go_at_call 13; refine (ev2 _ (unhide B10)).mono ?_; rintro e w11 ⟨rfl, b11⟩; have B11 := hide (below_sub (unhide B10) b11); clear b11)
            | (go_at_call 13; refine ev1.mono ?_; rintro e w10 ⟨rfl, b10⟩; have B10 := hide b10; clear b10)
            | (go_at_call 19; refine (sameP_eq none none 0 0 [] _ (by simp) (PrsOf.nil _ _) (PrsOf.nil _ _)).mono ?_; rintro e w12 ⟨rfl, b12⟩; have B12 := hide (below_sub (unhide B11) b12); clear b12))
          go_ret
          exact ⟨rfl, below_sub (unhide HWv) (unhide B12)⟩
        · have hfit := Classical.byContradiction hfit
          have ev1 := event_any2 b ls (some ⟨bb, off, none⟩) cap1 l1 w9 hll hl1 (hSv _ (Below.refl _ _)) (unhide Hn1) (hPv _ (Below.refl _ _)) hfit
          have ev2 := fun (es : List (ByteArray × Int × Int × ByteArray)) (hs : Strict nmP es) (hp : es.Perm l1) (V : World) (hv : Below w9.heap.size w9 V) => event_good es b' ls q9 cp9 (l1.drop k ++ l1.take k) V hll (by rw [unhide HTl]; exact hl1) (hSv' _ hv) (unhide HTN) ((unhide HTP).below hv) (by rw [(turn_perm l1 k).all_eq]; exact hfit.1) hs (hp.trans (turn_perm l1 k).symm)
          rw [unhide HTl] at ev2
          have Hfit := hide hfit.1
          have HSv := hide hSv
          clear hfit hPv hSv hSv'
          go_wp2_with (first
            | (go_at_call 13; refine (ev2 es (unhide Hss) (unhide Hsp) _ (unhide B10)).mono ?_; rintro e w11 ⟨⟨q11, cp11, rfl, hN11⟩, b11⟩; have HP11 := hide hN11.of; have HN10' := hide ((unhide HN10).below b11); have B11 := hide (below_sub (unhide B10) b11); clear b11 hN11)
            | (go_at_call 13; refine ev1.mono ?_; rintro e w10 ⟨⟨es, q10, cp10, rfl, hsp, hss, hN10⟩, b10⟩; have B10 := hide b10; have Hsp := hide hsp; have Hss := hide hss; have HN10 := hide hN10; clear b10 hsp hss hN10)
            | (go_at_call 19; refine (sameP_eq q10 q11 cp10 cp11 es _ (by rw [(unhide Hsp).length_eq]; omega) (unhide HN10').of (unhide HP11)).mono ?_; rintro e w12 ⟨rfl, b12⟩; have HN12 := hide ((unhide HN10').below b12); have B12 := hide (below_sub (unhide B11) b12); clear b12))
          have Hnd : Hid ((ls.map nmA).Nodup) := hide (strict_nodup (unhide Hst) (List.Perm.refl _))
          have Hkd : Hid (∀ (V : World), Below w12.heap.size w12 V → ∀ (x : ByteArray × Int × Int × ByteArray), fitOk ls x = true → Calls Try.prog 17 #[.pointer (some ⟨b, 0, none⟩), .string x.1] V fun e w' => e = .returned (.int .i64 x.2.1) ∧ Below V.heap.size V w') := hide (fun V hv x hx => by
            have := kind_any b ls x.1 V hll (unhide HSv V (below_sub (unhide B12) hv))
            rwa [kindOf_fit (unhide Hnd) hx] at this)
          have e17 : ∀ args w, (callFunc 17 args).run Try.prog w = .ok (.enter 17 args) w := enters_of Try.func17 (by kernel_rfl) rfl
          clear ev1 ev2 ha hb hat2
          go_loopw [125] (fun i wr => ∃ j : Nat, j ≤ es.length ∧ i = .int .i64 j ∧ Below w12.heap.size w12 wr) (fun i _ => es.length - (intOf i).toNat)
          case atStart => exact ⟨0, by omega, rfl, Below.refl _ _⟩
          case round =>
            obtain ⟨j, hj, rfl, hbel⟩ := hrel
            by_cases hlt : j < es.length
            · obtain ⟨bc, of, rfl, hbc, hCt⟩ := (unhide HN12).of (by omega)
              obtain ⟨x, hx, -⟩ := get_at (l := es) (k := j) (by omega)
              have ki0 : (0 : Int) ≤ (j : Int) := by omega
              have ki1 : (j : Int) < (es.length : Int) := by omega
              obtain ⟨g0, g1, -, -⟩ := hCt.below hbel hbc j x hx
              have y0 : ∀ n os, (grow (redrawn wr n) os).cell? ⟨bc, of + j * 4, none⟩ = some (.string x.1) := cell_regrown g0
              have y1 : ∀ n os, (grow (redrawn wr n) os).cell? ⟨bc, of + j * 4 + 1, none⟩ = some (.int .i64 x.2.1) := cell_regrown g1
              have hkx := fun (n : Nat) (os : Array Obj) => unhide Hkd (grow (redrawn wr n) os) (below_sub hbel (below_regrown wr n os)) x (fit_at (unhide Hfit) (unhide Hsp) hx)
              have hkk : (x.2.1 != x.2.1) = false := by simp
              have Hbel2 := hide hbel
              have Hx := hide hx
              have HCt := hide hCt
              have hesb : es.length ≤ 140737488355328 := by rw [(unhide Hsp).length_eq]; omega
              clear hx hbel hCt
              clear hfx hfit hok2 HP0 Hn0 B1 Hown Hbel Ho2 Hol HWr H64 he he' hlo HP1 Hn1 hbb HAt B3 B4 HN HN' HN4 HA5 B5 HA6 HA5' B6 B7 B47 HTP HTN B79 B9 HTl hll HWv Hfit HSv B10 Hsp HP11 B11 Hnd Hkd
              rcases Nat.eq_zero_or_pos j with hj0 | hj0
              · subst hj0
                simp only [Nat.zero_mul, Nat.add_zero, Int.natCast_zero] at *
                clear ki0
                go_wp2
                refine wp_region_quiet_below (by assumption) (by kernel_rfl) ?_
                repeat (go_big_quiet_step (first
                  | (go_at_fn 17; refine Calls.regrown_of (hkx _ _))))
                refine wpQuiet_nil ?_
                intro _ hw'
                obtain ⟨⟨dq, osq⟩, hw''⟩ := hw'
                subst hw''
                go_wp2
                go_roundw
                case rel => exact ⟨0 + 1, by omega, by go_num, below_sub (unhide Hbel2) (below_regrown _ _ _)⟩
                case measure => simp [intOf]; omega
              · obtain ⟨i, hi⟩ : ∃ i : Nat, j = i + 1 := ⟨j - 1, by omega⟩
                obtain ⟨y, hy, -⟩ := get_at (l := es) (k := i) (by omega)
                obtain ⟨g2, -, -, -⟩ := (unhide HCt).below (unhide Hbel2) hbc i y hy
                have y2 : ∀ n os, (grow (redrawn wr n) os).cell? ⟨bc, of + i * 4, none⟩ = some (.string y.1) := cell_regrown g2
                have hxx := unhide Hx
                rw [hi] at hxx
                obtain ⟨l1', l2'⟩ := less_ne (strict_at (unhide Hss) hy hxx)
                have l1'' : Op.bytesLess x.1.toList y.1.toList = false := l1'
                have l2'' : (x.1.toList == y.1.toList) = false := l2'
                have hji : (j : Int) - 1 = (i : Int) := by omega
                have i0 : (0 : Int) ≤ (i : Int) := by omega
                have i1 : (i : Int) < (es.length : Int) := by omega
                have j1 : (0 : Int) < (j : Int) := by omega
                clear hy hxx hi l1' l2'
                go_wp2
                refine wp_region_quiet_below (by assumption) (by kernel_rfl) ?_
                repeat (go_big_quiet_step (first
                  | (go_at_fn 17; refine Calls.regrown_of (hkx _ _))))
                refine wpQuiet_nil ?_
                intro _ hw'
                obtain ⟨⟨dq, osq⟩, hw''⟩ := hw'
                subst hw''
                go_wp2
                go_roundw
                case rel => exact ⟨j + 1, by omega, by go_num, below_sub (unhide Hbel2) (below_regrown _ _ _)⟩
                case measure => simp [intOf]; omega
            · obtain rfl : j = es.length := by omega
              have Hel : Hid (es.length = l1.length) := hide (unhide Hsp).length_eq
              have hes0 : 0 < es.length := by rw [unhide Hel]; exact he
              obtain ⟨bc, of, rfl, hbc, hCt⟩ := (unhide HN12).of hes0
              have HCt := hide hCt
              have hcap := (unhide HN12).cap.1
              have ek0 : (0 : Int) < (es.length : Int) := by omega
              have hln : ((es.length : Int) != (l1.length : Int)) = false := by rw [unhide Hel]; simp
              have hle : es.length * 48 ≤ 140737488355328 := by rw [unhide Hel]; exact hl1
              have hea : es.all (fitOk ls) = true := by rw [(unhide Hsp).all_eq]; exact unhide Hfit
              have B12r := hide (below_sub (unhide B12) hbel)
              have ev3 := event_good es b ls (some ⟨bc, of, none⟩) cp10 es wr hll hle (unhide HSv wr (unhide B12r)) (fun h => by cases h) ((unhide HN12).of.below hbel) hea (unhide Hss) (List.Perm.refl _)
              have Hbel2 := hide hbel
              have HCtr := hide (hCt.below hbel hbc)
              have Hbcr : Hid (bc < wr.heap.size) := hide (Nat.lt_of_lt_of_le hbc hbel.size)
              have k3 : (k : Int) < (es.length : Int) := by rw [unhide Hel]; omega
              have k4 : (k : Int) ≤ (cp10 : Int) := by omega
              have k5 : (es.length : Int) ≤ (cp10 : Int) := by omega
              have k6 : ((k : Int) + 1) ≤ (es.length : Int) := by omega
              have Hea := hide hea
              clear hbel hCt hbc hea hfx hfit hok2 HP0 Hn0 B1 Hown Hbel Ho2 Hol H64 he he' hlo HP1 Hn1 hbb HAt B3 B4 HN HN' HN4 HA5 B5 HA6 HA5' B6 B7 HTP HTN HTl B10 HP11 B11 Hnd Hkd HN10 HN10' hcap
              go_wp2_with (first
                | (go_at_call 13; refine ev3.mono ?_; rintro e w13 ⟨⟨q13, cp13, rfl, hN13⟩, b13⟩; have B13 := hide b13; have HP13 := hide hN13.of; clear b13 hN13)
                | (go_at_call 19; refine (sameP_eq q13 (some ⟨bc, of, none⟩) cp13 cp10 es _ (by omega) (unhide HP13) (fun _ => ⟨bc, of, rfl, Nat.lt_of_lt_of_le (unhide Hbcr) (unhide B13).size, (unhide HCtr).below (unhide B13) (unhide Hbcr)⟩)).mono ?_; rintro e w14 ⟨rfl, b14⟩; have B14 := hide (below_sub (unhide B13) b14); clear b14))
              have HW14 := hide (below_sub (unhide HWv) (below_sub (unhide B12r) (unhide B14)))
              have hC14 := fun (V : World) (hv : Below w14.heap.size w14 V) => (unhide HCtr).below ((unhide B14).trans (hv.mono (unhide B14).size)) (unhide Hbcr)
              have hb14 : ∀ (V : World), Below w14.heap.size w14 V → bc < V.heap.size := fun V hv => by have := (unhide B14).size; have := hv.size; have := unhide Hbcr; omega
              obtain ⟨pd, hpd⟩ : ∃ pd : Option Addr, pd = if cp10 = k + 1 then some ⟨bc, of, none⟩ else some ⟨bc, of + (k + 1) * 4, none⟩ := ⟨_, rfl⟩
              have hSt : ∀ (V : World), Below w14.heap.size w14 V → SrcK encP 4 V (some ⟨bc, of, none⟩) cp10 (es.take k) := fun V hv => SrcK.ofP (fun h => by cases h) (fun _ => ⟨bc, of, rfl, hb14 V hv, (hC14 V hv).take k⟩)
              have hSd : ∀ (V : World), Below w14.heap.size w14 V → SrcK encP 4 V pd (cp10 - (k + 1)) (es.drop (k + 1)) := fun V hv => SrcK.ofP (fun h => by rw [hpd] at h; split at h <;> cases h) (fun h0 => by
                have h1 : ¬ cp10 = k + 1 := by simp at h0; omega
                exact ⟨bc, of + (k + 1) * 4, by rw [hpd, if_neg h1], hb14 V hv, (hC14 V hv).drop (k + 1)⟩)
              have HSd := hide hSd
              have HSt := hide hSt
              clear hSd hSt hC14 hb14
              obtain ⟨kn, hkn⟩ : ∃ kn : Nat, kn = k + 1 := ⟨_, rfl⟩
              rw [← hkn] at hpd HSd
              have kn0 : (0 : Int) ≤ (kn : Int) := by omega
              have kn1 : (kn : Int) ≤ (es.length : Int) := by omega
              have kn2 : (kn : Int) ≤ (cp10 : Int) := by omega
              have hks : (k : Int) + 1 = (kn : Int) := by omega
              have hkw2 : IntKind.i64.wrap (kn : Int) = (kn : Int) := wrap_nat kn (by omega)
              have hkw : IntKind.i64.wrap ((k : Int) + 1) = (kn : Int) := by rw [hks]; exact hkw2
              have Hkn := hide hkn
              have hsum : k + (es.length - kn) = es.length - 1 := by omega
              have Hsum := hide hsum
              have Hpd := hide hpd
              clear hkn hpd k6 hsum
              go_region_held3 (fun _ => True) (trivial) ((first
                | (refine step_app rowP (by rfl) (.tmp 185) (.tmp 188) (by rfl) w14.heap.size (some ⟨w14.heap.size, 0, none⟩) 0 [] (some ⟨bc, of, none⟩) cp10 (es.take k) 0 k k rfl (by simp; omega) (by simp) (by rfl) (by rfl) (OwnK.made _ _ (Nat.le_refl _)) (unhide HSt _ (((Below.refl _ _).alloc (Nat.le_refl _) _).drew)) (by unfold maxLen; omega) (by omega) (by simp) ?_; intro q15 cp15 w15 hown15 hb15 _ _; have hb15' := (((Below.refl w14.heap.size w14).alloc (Nat.le_refl _) _).drew).trans hb15)
                | (refine step_app rowP (by rfl) (.tmp 189) (.tmp 193) (by rfl) w14.heap.size q15 cp15 (es.take k) pd (cp10 - kn) (es.drop kn) k (es.length - kn) (es.length - 1) (by simp; omega) (by simp) (unhide Hsum) (by rfl) (by rw [unhide Hpd]; rfl) hown15 (unhide HSd _ hb15') (by unfold maxLen; omega) (by omega) (by have := hb15'.size; simpa using this) ?_; intro q16 cp16 w16 hown16 hb16 _ _)))
              have HF : Hid (es.take k ++ es.drop kn = outOf es k) := hide (by rw [unhide Hkn]; rfl)
              have hT : NewP w14.heap.size w16 q16 cp16 (outOf es k) := by
                have := hown16.newP
                rwa [unhide HF] at this
              have HFl : Hid ((outOf es k).length = es.length - 1) := hide (by
                rw [← unhide HF, List.length_append, List.length_take, List.length_drop, ← unhide Hsum]; omega)
              have HTP := hide hT.of
              have hb16 := hide (hb15'.trans hb16)
              have HW16 := hide (below_sub (unhide HW14) (unhide hb16))
              have B16 := hide (below_sub (unhide B12r) (below_sub (unhide B14) (unhide hb16)))
              have ev5 := event_good (outOf es k) b ls q16 cp16 (outOf es k) w16 hll (by rw [unhide HFl]; omega) (unhide HSv w16 (unhide B16)) hT.none (unhide HTP) (all_sub (out_sub es k) (unhide Hea)) ((unhide Hss).sublist (out_sub es k)) (List.Perm.refl _)
              have sm5 := fun (q17 : Option Addr) (cp17 : Nat) (V : World) (hv : Below w16.heap.size w16 V) (h17 : PrsOf V q17 (outOf es k)) => sameP_eq q17 q16 cp17 cp16 (outOf es k) V (by rw [unhide HFl]; omega) h17 ((unhide HTP).below hv)
              rw [unhide HFl] at ev5 sm5
              clear hT hown15 hown16 hb15 hb15' ev3 hb16 HSd HSt Hpd
              go_wp2_with (first
                | (go_at_call 13; refine ev5.mono ?_; rintro e w17 ⟨⟨q17, cp17, rfl, hN17⟩, b17⟩; have B17 := hide b17; have HP17 := hide hN17.of; clear b17 hN17)
                | (go_at_call 19; refine (sm5 q17 cp17 _ (unhide B17) (unhide HP17)).mono ?_; rintro e w18 ⟨rfl, b18⟩; have B18 := hide (below_sub (unhide B17) b18); clear b18))
              all_goals
                go_ret
                exact ⟨rfl, below_sub (unhide HW16) (unhide B18)⟩
end Go.Proofs.Ytojeihchkdkkgab

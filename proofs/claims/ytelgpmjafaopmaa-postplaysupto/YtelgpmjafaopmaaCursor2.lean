/- A cursor's Post, Next and Skip. -/
import Derived.Test.YtelgpmjafaopmaaCursor
namespace Go.Proofs.Ytelgpmjafaopmaa
open Go.RowKit Go.Sort Go.Shelf

/-- What Post answers. -/
def pstV (o : Option Pt) : Value := match o with
  | some x => .tuple #[.agg #[.int .i64 x.1, .bool x.2], .bool true]
  | none => .tuple #[.agg #[.int .i64 0, .bool false], .bool false]
set_option maxHeartbeats 1000000 in
theorem postC (C : Nat) (q : Option Addr) (cap k : Nat) (l : List Pt) (w : World) (h : Cur w C q l.length cap k) (hs : SlOf encP 2 w q cap l) (hk : k ≤ l.length) (hn : l.length ≤ 100000000000000) :
    Calls Try.prog 17 #[.pointer (some ⟨C, 0, none⟩)] w fun e w' => e = .returned (pstV l[k]?) ∧ Below w.heap.size w w' := by
  obtain ⟨w0, hw0⟩ : ∃ w0, w0 = w.alloc (.cells #[.int .i64 0, .bool false] 43) := ⟨_, rfl⟩
  have hB0 : Below w.heap.size w w0 := by rw [hw0]; exact (Below.refl _ _).alloc (Nat.le_refl _) _
  have hblk : w0.heap[w.heap.size]? = some (.cells #[.int .i64 0, .bool false] 43 (0, 0)) := by rw [hw0]; exact World.alloc_heap_new w _
  have hl := leftC C q l.length cap k w0 (h.below hB0) hk hn
  have HB0 := hide hB0
  by_cases hlt : k < l.length
  · obtain ⟨x, hx, _⟩ := get_at hlt
    rw [hx]
    obtain ⟨b, off, hq, hb, c0, c1⟩ := postAt hs hx
    obtain ⟨d0, d1, _⟩ := h.cells
    obtain ⟨d, hd⟩ : ∃ d : Nat, l.length - k = d + 1 := ⟨l.length - k - 1, by omega⟩
    rw [hd] at hl
    have hne : (((d + 1 : Nat) : Int) == 0) = false := by simp; omega
    have ki0 : (0 : Int) ≤ (k : Int) := by omega
    have ki1 : (k : Int) < (l.length : Int) := by omega
    have n1 := World.new_ne w ⟨C, 0, none⟩ d0
    have n2 := World.new_ne w ⟨C, 1, none⟩ d1
    have n3 := World.new_ne w ⟨b, off + k * 2, none⟩ c0
    have n4 := World.new_ne w ⟨b, off + k * 2 + 1, none⟩ c1
    subst hq
    clear h hs hd hx
    rw [hw0] at hl
    go_enter Try.func17, Try.ntmps17
    go_wp2_with (go_at_call 20; refine hl.mono ?_; rintro e w1 ⟨rfl, rfl⟩)
    go_region_held3 (fun w' => (w'.cell? ⟨C, 0, none⟩ = some (.slice (some ⟨b, off, none⟩) l.length cap) ∧ w'.cell? ⟨C, 1, none⟩ = some (.int .i64 (k : Int))) ∧ w'.cell? ⟨b, off + k * 2, none⟩ = some (.int .i64 x.1) ∧ w'.cell? ⟨b, off + k * 2 + 1, none⟩ = some (.bool x.2)) (go_keep) (fail)
    all_goals
      go_wp2
      refine bodyPost_ret (v := .tuple #[.agg #[.int .i64 x.1, .bool x.2], .bool true]) (by simp [results, Try.f17, go_sem]) rfl ?_
      exact ⟨rfl, (((Below.refl _ _).alloc (Nat.le_refl _) _).drew).drew⟩
  · obtain rfl : k = l.length := by omega
    rw [List.getElem?_eq_none (Nat.le_refl _)]
    rw [Nat.sub_self, hw0] at hl
    clear h hs
    go_enter Try.func17, Try.ntmps17
    go_wp2_with (go_at_call 20; refine hl.mono ?_; rintro e w1 ⟨rfl, rfl⟩)
    refine bodyPost_ret (v := .tuple #[.agg #[.int .i64 0, .bool false], .bool false]) (by simp [results, Try.f17, go_sem]) rfl ?_
    exact ⟨rfl, ((Below.refl _ _).alloc (Nat.le_refl _) _).drew⟩
theorem grown_drew (w : World) (r : Option Nat) : w.grownBy w.drew r := ⟨rfl, rfl, rfl, Nat.le_refl _, fun _ _ _ => rfl⟩
theorem grown_trans {a b c : World} {r : Option Nat} (h : a.grownBy b r) (h' : b.grownBy c r) : a.grownBy c r :=
  ⟨h'.os.trans h.os, h'.tape.trans h.tape, h'.output.trans h.output, Nat.le_trans h.size h'.size, fun k hk hne => (h'.block k (Nat.lt_of_lt_of_le hk h.size) hne).trans (h.block k hk hne)⟩
theorem grown_set (w : World) (g o : Nat) (v : Value) : w.grownBy (w.setCell ⟨g, o, none⟩ v) (some g) := by
  have hb := (Below.refl 0 w).setCell (p := ⟨g, o, none⟩) (Nat.zero_le _) v
  exact ⟨hb.os, hb.tape, hb.output, hb.size, fun k _ hne => Below.heap_setCell _ _ _ _ (fun e => hne (by rw [e]))⟩
theorem grown_below {w w' : World} (h : Below w.heap.size w w') (r : Option Nat) : w.grownBy w' r := ⟨h.os, h.tape, h.output, h.size, fun k hk _ => h.block k hk⟩
theorem wrap_one (k : Nat) (h : k ≤ 100000000000000) : IntKind.i64.wrap ((k : Int) + 1) = ((k + 1 : Nat) : Int) := by
  rw [show (k : Int) + 1 = ((k + 1 : Nat) : Int) by omega]; exact wrap_nat (k + 1) (by omega)
set_option maxHeartbeats 1000000 in
theorem nextC_in (C : Nat) (q : Option Addr) (n cap k : Nat) (w : World) (h : Cur w C q n cap k) (hlt : k < n) (hn : n ≤ 100000000000000) :
    Calls Try.prog 19 #[.pointer (some ⟨C, 0, none⟩)] w fun e w' => e = .returned (.bool (decide (k + 1 < n))) ∧ Cur w' C q n cap (k + 1) ∧ w.grownBy w' (some C) := by
  have hl := leftC C q n cap k w h (by omega) hn
  obtain ⟨d, hd⟩ : ∃ d : Nat, n - k = d + 1 := ⟨n - k - 1, by omega⟩
  rw [hd] at hl
  have hd2 : n - (k + 1) = d := by omega
  obtain ⟨c0, c1, f1⟩ := h.cells
  have hp0 : Cur (w.setCell ⟨C, 1, none⟩ (.int .i64 ((k : Int) + 1))).drew C q n cap (k + 1) := (show Cur (w.setCell ⟨C, 1, none⟩ (.int .i64 ((k + 1 : Nat) : Int))) C q n cap (k + 1) from h.put (k + 1))
  have hl2 := leftC C q n cap (k + 1) _ hp0 (by omega) hn
  rw [hd2] at hl2
  have g0 : (0 : Int) < ((d + 1 : Nat) : Int) := by omega
  have k1 : (k : Int) + 1 ≤ 100000000000001 := by omega
  have HP := hide hp0
  have HR : Hid (decide (0 < d) = decide (k + 1 < n)) := hide (decide_eq_decide.2 (by omega))
  generalize decide (k + 1 < n) = R at HR ⊢
  clear h hp0 hd hd2
  go_enter Try.func19, Try.ntmps19
  go_wp2_with (first
    | (go_at_call 20; with_reducible refine hl2.mono ?_; rintro e w1 ⟨rfl, rfl⟩)
    | (go_at_call 20; refine hl.mono ?_; rintro e w1 ⟨rfl, rfl⟩))
  go_ret
  refine ⟨by rw [← unhide HR]; rfl, unhide HP, grown_trans (grown_set _ _ _ _) (grown_trans (grown_drew _ _) (grown_drew _ _))⟩
set_option maxHeartbeats 1000000 in
theorem nextC_end (C : Nat) (q : Option Addr) (n cap : Nat) (w : World) (h : Cur w C q n cap n) (hn : n ≤ 100000000000000) :
    Calls Try.prog 19 #[.pointer (some ⟨C, 0, none⟩)] w fun e w' => e = .returned (.bool false) ∧ Cur w' C q n cap n ∧ w.grownBy w' (some C) := by
  have hl := leftC C q n cap n w h (Nat.le_refl _) hn
  have hl2 := leftC C q n cap n w.drew h (Nat.le_refl _) hn
  rw [Nat.sub_self] at hl hl2
  have HP := hide h
  clear h
  go_enter Try.func19, Try.ntmps19
  go_wp2_with (first
    | (go_at_call 20; with_reducible refine hl2.mono ?_; rintro e w1 ⟨rfl, rfl⟩)
    | (go_at_call 20; refine hl.mono ?_; rintro e w1 ⟨rfl, rfl⟩))
  go_ret
  exact ⟨rfl, unhide HP, grown_trans (grown_drew _ _) (grown_drew _ _)⟩
theorem slof_drop {w : World} {q : Option Addr} {cap : Nat} {l : List Pt} (h : SlOf encP 2 w q cap l) {k : Nat} {b off : Nat} (hq : q = some ⟨b, off, none⟩) (hl : k < l.length) : SlOf encP 2 w (some ⟨b, off + k * 2, none⟩) (cap - k) (l.drop k) := by
  refine ⟨(fun h => by cases h), by rw [List.length_drop]; have := h.2.1; omega, by have := h.2.2.1; omega, fun _ => ?_⟩
  obtain ⟨b', off', hq', hb, hA⟩ := h.2.2.2 (by omega)
  rw [hq] at hq'
  obtain ⟨rfl, rfl⟩ : b = b' ∧ off = off' := by injection hq' with h1; injection h1 with h1 h2; exact ⟨h1, h2⟩
  refine ⟨b, off + k * 2, rfl, hb, fun j u hj => ?_⟩
  have e1 : (flatK encP 2 l.toArray).toList = (flatK encP 2 (l.take k).toArray).toList ++ (flatK encP 2 (l.drop k).toArray).toList := by rw [← flat_app encP 2 (by decide), List.take_append_drop]
  have hl2 : (flatK encP 2 (l.take k).toArray).toList.length = k * 2 := by rw [flat_len, List.length_take]; congr 1; omega
  have := hA (k * 2 + j) u (by rw [e1, List.getElem?_append_right (by omega), hl2, Nat.add_sub_cancel_left]; exact hj)
  rw [Nat.add_assoc]; exact this
theorem OwnK.base {B : Nat} {w : World} {q : Option Addr} {cap : Nat} {l : List Pt} (h : OwnK encP 43 2 B w q cap l) : q = none ∨ ∃ g, q = some ⟨g, 0, none⟩ := by
  rcases h.2 with ⟨h1, _⟩ | ⟨g, _, _, hv, _⟩
  · injection h1 with h1; exact Or.inl h1
  · injection hv with h1; exact Or.inr ⟨g, h1⟩
/-- The slice from k on. -/
theorem slof_from {w : World} {q : Option Addr} {cap : Nat} {l : List Pt} (h : SlOf encP 2 w q cap l) (hq : q = none ∨ ∃ g, q = some ⟨g, 0, none⟩) {k : Nat} (hk : k ≤ l.length) :
    ∃ q' : Option Addr, SlOf encP 2 w q' (cap - k) (l.drop k) ∧ ((q = none ∧ q' = none ∧ l = [] ∧ cap = 0) ∨ (∃ g, q = some ⟨g, 0, none⟩ ∧ cap = k ∧ q' = some ⟨g, 0, none⟩) ∨ ∃ g, q = some ⟨g, 0, none⟩ ∧ ¬ cap = k ∧ q' = some ⟨g, k * 2, none⟩) := by
  rcases hq with rfl | ⟨g, rfl⟩
  · obtain ⟨h0, rfl⟩ := h.1 rfl
    obtain rfl : l = [] := List.length_eq_zero_iff.1 h0
    refine ⟨none, ?_, Or.inl ⟨rfl, rfl, rfl, rfl⟩⟩
    rw [List.drop_nil, Nat.zero_sub]
    exact SlOf.none w
  · by_cases hc : cap = k
    · refine ⟨some ⟨g, 0, none⟩, ?_, Or.inr (Or.inl ⟨g, rfl, hc, rfl⟩)⟩
      have : l.drop k = [] := List.drop_eq_nil_of_le (by have := h.2.1; omega)
      rw [this]
      exact ⟨(fun h => by cases h), by simp, by have := h.2.2.1; omega, LsOf.nil _ _⟩
    · refine ⟨some ⟨g, k * 2, none⟩, ?_, Or.inr (Or.inr ⟨g, rfl, hc, rfl⟩)⟩
      by_cases hl : k < l.length
      · have := slof_drop h (k := k) rfl hl
        rw [Nat.zero_add] at this
        exact this
      · have : l.drop k = [] := List.drop_eq_nil_of_le (by omega)
        rw [this]
        exact ⟨(fun h => by cases h), by simp, by have := h.2.2.1; omega, LsOf.nil _ _⟩
theorem str_drop {l : List Pt} (h : Str l) (k : Nat) : Str (l.drop k) := h.sub (List.drop_sublist k l)
set_option maxHeartbeats 2000000 in
set_option maxRecDepth 100000 in
theorem skipC (C : Nat) (q : Option Addr) (cap k : Nat) (l : List Pt) (id : Int) (w : World) (h : Cur w C q l.length cap k) (hs : SlOf encP 2 w q cap l) (hq : q = none ∨ ∃ g, q = some ⟨g, 0, none⟩) (hst : Str l) (hk : k ≤ l.length) (hn : l.length ≤ 100000000000000) :
    Calls Try.prog 16 #[.pointer (some ⟨C, 0, none⟩), .int .i64 id] w fun e w' => e = .returned (.bool (decide (k + cnt (ltD id) (l.drop k) < l.length))) ∧ Cur w' C q l.length cap (k + cnt (ltD id) (l.drop k)) ∧ w.grownBy w' (some C) := by
  have mixed : Try.prog.follows .mixedOrders = true := by kernel_rfl
  have e36 : ∀ args w, (callFunc 36 args).run Try.prog w = .ok (.enter 36 args) w := enters_of Try.func36 (by kernel_rfl) rfl
  obtain ⟨q', hs', hq'⟩ := slof_from hs hq hk
  have hlen : (l.drop k).length = l.length - k := List.length_drop
  obtain ⟨n2, hn2⟩ : ∃ n2, l.length - k = n2 := ⟨_, rfl⟩
  obtain ⟨c2, hc2⟩ : ∃ c2, cap - k = c2 := ⟨_, rfl⟩
  have hlc := hs.2.1
  have hsr := fun (W : World) (hb : Below w.heap.size w W) => searchD q' (cap - k) (l.drop k) id W (hs'.below hb) (by rw [hlen]; omega) (mono_ltD (str_drop hst k) id)
  rw [hlen, hn2, hc2] at hsr
  have hle := cnt_le (ltD id) (l.drop k)
  rw [hlen, hn2] at hle
  generalize cnt (ltD id) (l.drop k) = m at hsr hle ⊢
  generalize hitD id (l.drop k) = hit at hsr
  obtain ⟨c0, c1, f1⟩ := h.cells
  have d0 := cell_regrown c0
  have d1 := cell_regrown c1
  have k0 : (0 : Int) ≤ (k : Int) := by omega
  have k1 : (k : Int) ≤ (l.length : Int) := by omega
  have k2 : (l.length : Int) ≤ (cap : Int) := by omega
  have hr : ∀ (n : Nat) (os : Array Obj), Cur (grow (redrawn w n) os) C q l.length cap k := fun n os => h.below (below_regrown w n os)
  obtain ⟨d, hd⟩ : ∃ d, l.length - (k + m) = d := ⟨_, rfl⟩
  have HR : Hid (decide (0 < d) = decide (k + m < l.length)) := hide (decide_eq_decide.2 (by omega))
  generalize decide (k + m < l.length) = R at HR ⊢
  have HRR := hide hr
  have hkm : k + m ≤ l.length := by omega
  have km0 : (k : Int) + (m : Int) ≤ 100000000000000 := by omega
  have hC := h.lt
  clear hs hs' hst hlen hr h c0 c1
  have fin : ∀ (W : World), Cur W C q l.length cap k → Below w.heap.size w W → Calls Try.prog 20 #[.pointer (some ⟨C, 0, none⟩)] (W.setCell ⟨C, 1, none⟩ (.int .i64 ((k : Int) + (m : Int)))) fun e w' => e = .returned (.int .i64 (d : Int)) ∧ w' = (W.setCell ⟨C, 1, none⟩ (.int .i64 ((k : Int) + (m : Int)))).drew := fun W hW _ => by
    have hp0 : Cur (W.setCell ⟨C, 1, none⟩ (.int .i64 ((k : Int) + (m : Int)))) C q l.length cap (k + m) := (show Cur (W.setCell ⟨C, 1, none⟩ (.int .i64 ((k + m : Nat) : Int))) C q l.length cap (k + m) from hW.put (k + m))
    have := leftC C q l.length cap (k + m) _ hp0 hkm hn
    rw [hd] at this
    exact this
  have HD := hide hd
  clear hd
  rcases hq' with ⟨rfl, rfl, rfl, rfl⟩ | ⟨g, rfl, hc, rfl⟩ | ⟨g, rfl, hc, rfl⟩
  · obtain rfl : k = 0 := by simpa using hk
    obtain rfl : n2 = 0 := by simpa using hn2.symm
    obtain rfl : c2 = 0 := by omega
    obtain rfl : m = 0 := by omega
    simp only [List.length_nil, Nat.add_zero, Int.natCast_zero, Int.add_zero] at d0 d1 fin hsr HRR ⊢
    have HR := HR
    clear hn2 hc2 hle hkm km0 hlc hk hn k0 k1 k2 HD
    clear hq
    go_enter Try.func16, Try.ntmps16
    go_wp2
    refine wp_region_quiet_below (by assumption) (by kernel_rfl) ?_
    repeat (go_big_quiet_step (first | (go_at_fn 36; refine Calls.regrown_of (hsr _ (below_regrown _ _ _)))))
    refine wpQuiet_nil ?_
    intro w1 hw'
    obtain ⟨⟨dq, osq⟩, hw''⟩ := hw'
    have C1 := unhide HRR dq osq
    have b1 := below_regrown w dq osq
    dsimp only at hw''
    rw [← hw''] at C1 b1
    obtain ⟨a0, a1, a2⟩ := C1.cells
    have hl := fin w1 C1 b1
    have HC1 := hide C1
    have HB1 := hide b1
    clear hw'' C1 b1 d0 d1 fin
    go_wp2_with (go_at_call 20; refine hl.mono ?_; rintro e w2 ⟨rfl, rfl⟩)
    go_ret
    refine ⟨by rw [← unhide HR]; rfl, (show Cur (w1.setCell ⟨C, 1, none⟩ (.int .i64 ((0 : Nat) : Int))) C _ _ _ (0) from (unhide HC1).put (0)), grown_trans (grown_below (unhide HB1) _) (grown_trans (grown_set _ _ _ _) (grown_drew _ _))⟩
  · obtain rfl : c2 = 0 := by omega
    obtain rfl : n2 = 0 := by omega
    obtain rfl : m = 0 := by omega
    obtain rfl : l.length = k := by omega
    subst hc
    simp only [Nat.add_zero, Int.natCast_zero, Int.add_zero] at fin hsr ⊢
    have s0 : l.length - l.length = 0 := Nat.sub_self _
    clear hn2 hc2 hle hkm hlc hk
    clear hq
    go_enter Try.func16, Try.ntmps16
    go_wp2
    refine wp_region_quiet_below (by assumption) (by kernel_rfl) ?_
    repeat (go_big_quiet_step (first | (go_at_fn 36; refine Calls.regrown_of (hsr _ (below_regrown _ _ _)))))
    refine wpQuiet_nil ?_
    intro w1 hw'
    obtain ⟨⟨dq, osq⟩, hw''⟩ := hw'
    have C1 := unhide HRR dq osq
    have b1 := below_regrown w dq osq
    dsimp only at hw''
    rw [← hw''] at C1 b1
    obtain ⟨a0, a1, a2⟩ := C1.cells
    have hl := fin w1 C1 b1
    have HC1 := hide C1
    have HB1 := hide b1
    clear hw'' C1 b1 d0 d1 fin
    go_wp2_with (go_at_call 20; refine hl.mono ?_; rintro e w2 ⟨rfl, rfl⟩)
    go_ret
    refine ⟨by rw [← unhide HR]; rfl, (show Cur (w1.setCell ⟨C, 1, none⟩ (.int .i64 ((l.length : Nat) : Int))) C _ _ _ (l.length) from (unhide HC1).put (l.length)), grown_trans (grown_below (unhide HB1) _) (grown_trans (grown_set _ _ _ _) (grown_drew _ _))⟩
  ·
    clear hq
    go_enter Try.func16, Try.ntmps16
    go_wp2
    refine wp_region_quiet_below (by assumption) (by kernel_rfl) ?_
    repeat (go_big_quiet_step (first | (go_at_fn 36; refine Calls.regrown_of (hsr _ (below_regrown _ _ _)))))
    refine wpQuiet_nil ?_
    intro w1 hw'
    obtain ⟨⟨dq, osq⟩, hw''⟩ := hw'
    have C1 := unhide HRR dq osq
    have b1 := below_regrown w dq osq
    dsimp only at hw''
    rw [← hw''] at C1 b1
    obtain ⟨a0, a1, a2⟩ := C1.cells
    have hl := fin w1 C1 b1
    have HC1 := hide C1
    have HB1 := hide b1
    clear hw'' C1 b1 d0 d1 fin
    go_wp2_with (go_at_call 20; refine hl.mono ?_; rintro e w2 ⟨rfl, rfl⟩)
    go_ret
    refine ⟨by rw [← unhide HR]; rfl, (show Cur (w1.setCell ⟨C, 1, none⟩ (.int .i64 ((k + m : Nat) : Int))) C _ _ _ (k + m) from (unhide HC1).put (k + m)), grown_trans (grown_below (unhide HB1) _) (grown_trans (grown_set _ _ _ _) (grown_drew _ _))⟩
end Go.Proofs.Ytelgpmjafaopmaa

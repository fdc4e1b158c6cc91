/- The calls whose answers the document fixes (fixed). -/
import Derived.Test.YtfenkiplofnolaaPk
namespace Go.Proofs.Ytfenkiplofnolaa
open Go.RowKit Go.Sort

theorem flat_one {α : Type} [Inhabited α] (f : α → Value) (l : List α) : (flatK (fun x => [f x]) 1 l.toArray).toList = l.map f := by
  apply List.ext_getElem?
  intro j
  by_cases hj : j < l.length
  · obtain ⟨x, hx, _⟩ := get_at hj
    have h := flat_at (enc := fun x => [f x]) (k := 1) hx 0 (by omega)
    rw [Nat.mul_one, Nat.add_zero] at h
    rw [h, List.getElem?_map, hx]
    rfl
  · rw [List.getElem?_eq_none (by rw [flat_len]; omega), List.getElem?_eq_none (by simp; omega)]
theorem sl_lit {α : Type} [Inhabited α] (f : α → Value) {W : World} {b : Nat} {e : TypeId} {l : List α} (hm : l.length ≤ maxLen) (hb : W.heap[b]? = some (.cells (l.map f).toArray e (0, 0))) : SlOf (fun x => [f x]) 1 W (some ⟨b, 0, none⟩) l.length l := by
  refine ⟨(fun h => by cases h), Nat.le_refl _, hm, fun _ => ⟨b, 0, rfl, (Array.getElem?_eq_some_iff.1 hb).1, fun j u hj => ?_⟩⟩
  rw [flat_one] at hj
  have hc : W.cell? ⟨b, 0 + j, none⟩ = (l.map f).toArray[j]? := by unfold World.cell?; simp [hb]
  rw [hc]
  simpa using hj
theorem Mv.below {C : Nat} {w w' : World} {L : Nat} {q q' : Option Addr} (h : Mv w w' L q q') (hC : ∀ i, Ft L q i → C ≤ i) (hw : C ≤ w.heap.size) : Below C w w' :=
  h.1.below fun i hi => ⟨fun hf => by have := hC i hf; omega, by omega⟩
theorem below_undrewC {C : Nat} {w w' : World} (h : Below C w.drew w') : Below C w w' := ⟨h.os, h.tape, h.output, h.size, h.block⟩
theorem roomN2 : roomN 2 = 2 := by decide
theorem roomN1 : roomN 1 = 1 := by decide
theorem fx_put (W : World) (L b : Nat) (hQ : QIn encI 3 1 51 W L none 0 2 []) (hb : W.heap[b]? = some (.cells #[.int .i64 1, .int .i64 2, .int .i64 3] 3 (0, 0))) :
    Calls Try.prog 11 #[.pointer (some ⟨L, 0, none⟩), .slice (some ⟨b, 0, none⟩) 3 3] W fun e w' => e = .returned (.int .i64 2) ∧ ∃ q' cap', QIn encI 3 1 51 w' L q' cap' 2 [1, 2] ∧ Mv W w' L none q' :=
  putI L none 0 2 [] (some ⟨b, 0, none⟩) 3 [1, 2, 3] W hQ (sl_lit (fun x => Value.int .i64 x) (l := [1, 2, 3]) (by decide) hb) (by decide)
theorem fx_putS (W : World) (L b : Nat) (hQ : QIn encS 9 1 67 W L none 0 1 []) (hb : W.heap[b]? = some (.cells #[.string ⟨#[120]⟩] 9 (0, 0))) :
    Calls Try.prog 26 #[.pointer (some ⟨L, 0, none⟩), .slice (some ⟨b, 0, none⟩) 1 1] W fun e w' => e = .returned (.int .i64 1) ∧ ∃ q' cap', QIn encS 9 1 67 w' L q' cap' 1 [⟨#[120]⟩] ∧ Mv W w' L none q' :=
  putS L none 0 1 [] (some ⟨b, 0, none⟩) 1 [⟨#[120]⟩] W hQ (sl_lit (fun x => Value.string x) (l := [(⟨#[120]⟩ : ByteArray)]) (by decide) hb) (by decide)
theorem fx_room (W : World) (L : Nat) (q : Option Addr) (c : Nat) (hQ : QIn encI 3 1 51 W L q c 2 [1, 2]) : Calls Try.prog 21 #[.pointer (some ⟨L, 0, none⟩)] W fun e w' => e = .returned (.int .i64 0) ∧ w' = W.drew := roomQ L _ 51 W 2 2 0 hQ.1 rfl (by decide)
theorem fx_len (W : World) (L : Nat) (q : Option Addr) (c m : Nat) (hQ : QIn encI 3 1 51 W L q c m [1, 2]) : Calls Try.prog 22 #[.pointer (some ⟨L, 0, none⟩)] W fun e w' => e = .returned (.int .i64 2) ∧ w' = W := lenQ L _ _ 51 W 2 hQ.1
theorem fx_len0 (W : World) (L : Nat) (q : Option Addr) (c m : Nat) (hQ : QIn encI 3 1 51 W L q c m []) : Calls Try.prog 22 #[.pointer (some ⟨L, 0, none⟩)] W fun e w' => e = .returned (.int .i64 0) ∧ w' = W := lenQ L _ _ 51 W 0 hQ.1
theorem fx_peek (W : World) (L : Nat) (q : Option Addr) (c m : Nat) (hQ : QIn encI 3 1 51 W L q c m [1, 2]) : Calls Try.prog 31 #[.pointer (some ⟨L, 0, none⟩)] W fun e w' => e = .returned (.tuple #[.int .i64 1, .bool true]) ∧ Below W.heap.size W w' := peekI L q c m [1, 2] W hQ
theorem fx_peekS (W : World) (L : Nat) (q : Option Addr) (c m : Nat) (hQ : QIn encS 9 1 67 W L q c m [⟨#[120]⟩]) : Calls Try.prog 32 #[.pointer (some ⟨L, 0, none⟩)] W fun e w' => e = .returned (.tuple #[.string ⟨#[120]⟩, .bool true]) ∧ Below W.heap.size W w' := peekS L q c m [⟨#[120]⟩] W hQ
theorem fx_all (W : World) (L : Nat) (q : Option Addr) (c m : Nat) (hQ : QIn encI 3 1 51 W L q c m [1, 2]) : Calls Try.prog 30 #[.pointer (some ⟨L, 0, none⟩)] W fun e w' => (∃ q' c', e = .returned (.slice q' 2 c') ∧ OwnK encI 3 1 W.heap.size w' q' c' [1, 2]) ∧ Below W.heap.size W w' := allI L q c m [1, 2] W hQ
theorem fx_same (W : World) (q : Option Addr) (c b : Nat) (ho : SlOf encI 1 W q c [1, 2]) (hb : W.heap[b]? = some (.cells #[.int .i64 1, .int .i64 2] 3 (0, 0))) : Calls Try.prog 14 #[.slice q 2 c, .slice (some ⟨b, 0, none⟩) 2 2] W fun e w' => e = .returned (.bool true) ∧ Below W.heap.size W w' :=
  memEqI q c [1, 2] (some ⟨b, 0, none⟩) 2 [1, 2] W ho (sl_lit (fun x => Value.int .i64 x) (l := [1, 2]) (by decide) hb) (by decide)
theorem fx_take (W : World) (L : Nat) (q : Option Addr) (c : Nat) (hQ : QIn encI 3 1 51 W L q c 2 [1, 2]) : Calls Try.prog 13 #[.pointer (some ⟨L, 0, none⟩), .int .i64 5] W fun e w' => (∃ q' c', e = .returned (.slice q' 2 c') ∧ OwnK encI 3 1 W.heap.size w' q' c' [1, 2]) ∧ QIn encI 3 1 51 w' L q c 2 [] ∧ Mv W w' L q q := takeI L q c 2 [1, 2] 5 W hQ
theorem alloc_b (w : World) (o : Obj) : Below w.heap.size w (w.alloc o) := (Below.refl _ _).alloc (Nat.le_refl _) _
/-- The blocks lie from B on. -/
def Hi (B L : Nat) (q : Option Addr) : Prop := ∀ i, Ft L q i → B ≤ i
theorem Hi.mv {B L : Nat} {q q' : Option Addr} {w w' : World} (h : Hi B L q) (hm : Mv w w' L q q') (hB : B ≤ w.heap.size) : Hi B L q' := fun i hi => by
  rcases hm.2 i hi with h1 | h1
  · exact h i h1
  · omega
theorem Hi.none {B L : Nat} (h : B ≤ L) : Hi B L Option.none := fun i hi => by
  rcases hi with rfl | hi
  · exact h
  · simp at hi
theorem fx_j3 {w w1 w2 w3 : World} {q3 : Option Addr} {o : Obj} (hlt : w.heap.size < w1.heap.size) (hj : QIn encS 9 1 67 w2 w1.heap.size none 0 1 []) (hm : Mv (w2.alloc o) w3 w.heap.size none q3) : QIn encS 9 1 67 w3 w1.heap.size none 0 1 [] :=
  (hj.below (alloc_b w2 o)).other hm (fun i hi hf => by
    rcases hi with rfl | hi
    · rcases hf with hf | hf
      · omega
      · simp at hf
    · simp at hi)
theorem fx_i5 {w w1 w2 w3 w5 : World} {q3 q5 : Option Addr} {c3 : Nat} {o o' : Obj} (hlt : w.heap.size < w1.heap.size) (hj : QIn encS 9 1 67 w2 w1.heap.size none 0 1 []) (hb : Below w1.heap.size w1 w2) (hm : Mv (w2.alloc o) w3 w.heap.size none q3) (hi : QIn encI 3 1 51 w3 w.heap.size q3 c3 2 [1, 2]) (m5 : Mv (w3.alloc o').drew w5 w1.heap.size none q5) : QIn encI 3 1 51 w5 w.heap.size q3 c3 2 [1, 2] :=
  (show QIn encI 3 1 51 (w3.alloc o').drew w.heap.size q3 c3 2 [1, 2] from hi.below (alloc_b w3 o').drew).other m5 (fun i hi hf => by
    rcases hf with rfl | hf
    · rcases hm.2 _ hi with (h | h) | h
      · omega
      · simp at h
      · have := hb.size
        have h3 := hj.lt
        simp at h
        omega
    · simp at hf)
set_option maxHeartbeats 4000000 in
set_option maxRecDepth 100000 in
theorem fixed_any (w : World) : Calls Try.prog 7 #[] w fun e w' => e = .returned (.bool true) ∧ Below w.heap.size w w' := by
  have hnI := newI 2 w
  rw [roomN2] at hnI
  have hnS := fun W => newS 1 W
  rw [roomN1] at hnS
  go_enter Try.func7, Try.ntmps7
  go_wp2_with (first
    | (go_at_call 8; refine hnI.mono ?_; rintro e w1 ⟨rfl, i1, b1⟩; have I1 := hide i1; have B1 := hide b1; clear i1 b1)
    | (go_at_call 23; refine (hnS w1).mono ?_; rintro e w2 ⟨rfl, j2, b2⟩; have J2 := hide j2; have B2 := hide b2; clear j2 b2)
    | (go_at_call 11; refine (fx_put _ _ _ (((unhide I1).below (unhide B2)).below (alloc_b w2 _)) (box_nw w2 _)).mono ?_; rintro e w3 ⟨rfl, q3, c3, i3, m3⟩; have I3 := hide i3; have M3 := hide m3; clear i3 m3)
    | (go_at_call 21; refine (fx_room _ _ _ _ (unhide I3)).mono ?_; rintro e w4 ⟨rfl, rfl⟩; have t21 := hide True.intro)
    | (go_at_call 22; have tst := unhide t21; clear tst; refine (fx_len _ _ _ _ _ (show QIn encI 3 1 51 w3.drew _ q3 c3 2 [1, 2] from unhide I3)).mono ?_; rintro e w4 ⟨rfl, hw4⟩; obtain rfl := hw4.symm; clear t21)
    | (go_at_call 26; have J3 := hide (fx_j3 (unhide I1).lt (unhide J2) (unhide M3)); refine (fx_putS _ _ _ (show QIn encS 9 1 67 (w3.alloc (.cells #[.string ⟨#[120]⟩] 9)).drew w1.heap.size none 0 1 [] from (unhide J3).below (alloc_b w3 _).drew) (box_nw w3 _)).mono ?_; rintro e w5 ⟨rfl, q5, c5, j5, m5⟩; have I5 := hide (fx_i5 (unhide I1).lt (unhide J2) (unhide B2) (unhide M3) (unhide I3) m5); have J5 := hide j5; have M5 := hide m5; clear j5 m5)
    | (go_at_call 31; refine (fx_peek _ _ _ _ _ (unhide I5)).mono ?_; rintro e w6 ⟨rfl, b6⟩; have I6 := hide ((unhide I5).below b6); have J6 := hide ((unhide J5).below b6); have B6 := hide b6; clear b6)
    | (go_at_call 32; refine (fx_peekS _ _ _ _ _ (unhide J6)).mono ?_; rintro e w7 ⟨rfl, b7⟩; have I7 := hide ((unhide I6).below b7); have B7 := hide b7; clear b7)
    | (go_at_call 30; refine (fx_all _ _ _ _ _ (unhide I7)).mono ?_; rintro e w8 ⟨⟨q8, c8, rfl, o8⟩, b8⟩; have I8 := hide ((unhide I7).below b8); have B8 := hide b8; have O8 := hide o8; clear b8 o8)
    | (go_at_call 14; have tst := unhide M10; clear tst; refine (fx_same _ _ _ _ ((unhide O10).ls.below (alloc_b w10 _)) (box_nw w10 _)).mono ?_; rintro e w11 ⟨rfl, b11⟩; have I11 := hide (((unhide I10).below (alloc_b w10 _)).below b11); have B11 := hide b11; clear b11)
    | (go_at_call 14; refine (fx_same _ _ _ _ ((unhide O8).ls.below (alloc_b w8 _)) (box_nw w8 _)).mono ?_; rintro e w9 ⟨rfl, b9⟩; have I9 := hide (((unhide I8).below (alloc_b w8 _)).below b9); have B9 := hide b9; clear b9)
    | (go_at_call 13; refine (fx_take _ _ _ _ (unhide I9)).mono ?_; rintro e w10 ⟨⟨q10, c10, rfl, o10⟩, i10, m10⟩; have I10 := hide i10; have M10 := hide m10; have O10 := hide o10; clear i10 m10 o10)
    | (go_at_call 22; refine (fx_len0 _ _ _ _ _ (unhide I11)).mono ?_; rintro e w12 ⟨rfl, hw12⟩; obtain rfl := hw12.symm))
  go_ret
  refine ⟨rfl, ?_⟩
  have hs1 := (unhide B1).size
  have hs2 := (unhide B2).size
  have hs3 := (unhide M3).1.size
  have hs5 := (unhide M5).1.size
  have hs6 := (unhide B6).size
  have hs7 := (unhide B7).size
  have hs8 := (unhide B8).size
  have hs9 := (unhide B9).size
  have hs10 := (unhide M10).1.size
  have e5 : (w3.alloc (.cells #[.string ⟨#[120]⟩] 9)).drew.heap.size = w3.heap.size + 1 := by simp
  simp only [World.size_alloc] at hs3 hs9
  rw [e5] at hs5
  have h3 : Hi w.heap.size w.heap.size q3 := (Hi.none (Nat.le_refl _)).mv (unhide M3) (by simp; omega)
  have b3 : Below w.heap.size w w3 := ((((unhide B1).trans ((unhide B2).mono hs1))).trans ((alloc_b w2 _).mono (by omega))).trans ((unhide M3).below (Hi.none (Nat.le_refl _)) (by simp; omega))
  have b5 : Below w.heap.size w w5 := (b3.trans ((alloc_b w3 _).mono (by omega))).trans (below_undrewC ((unhide M5).below (Hi.none hs1) (by rw [e5]; omega)))
  have b10 : Below w.heap.size w w10 := ((((b5.trans ((unhide B6).mono (by omega))).trans ((unhide B7).mono (by omega))).trans ((unhide B8).mono (by omega))).trans (((alloc_b w8 _).mono (by omega)).trans ((unhide B9).mono (by simp; omega)))).trans ((unhide M10).below h3 (by omega))
  exact (b10.trans ((alloc_b w10 _).mono (by omega))).trans ((unhide B11).mono (by simp; omega))
end Go.Proofs.Ytfenkiplofnolaa

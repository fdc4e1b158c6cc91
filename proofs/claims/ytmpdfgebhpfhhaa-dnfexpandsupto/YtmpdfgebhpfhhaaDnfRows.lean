/- Rows of spreads. -/
import Derived.Test.YtmpdfgebhpfhhaaDnfChoice
import Derived.Test.YtmpdfgebhpfhhaaPushSum
import Derived.Test.YtmpdfgebhpfhhaaPushPlain
import Derived.Deep.Cut
namespace Go.Proofs.Ytmpdfgebhpfhhaa
open Go.RowKit Go.Sort

set_option maxRecDepth 100000 in
set_option maxHeartbeats 1000000 in
theorem tail_or (s : Sv) (nk P : Nat) (q : Option Addr) (c n : Nat) (w : World) (Q : Ending → World → Prop) (hC : ∀ X, Below w.heap.size w X → Calls Try.prog 40 #[.agg #[.int .i64 s.lit.kind, .string s.lit.attr, .slice s.lit.qi s.lit.ni s.lit.ci, .slice s.lit.qw s.lit.nw s.lit.cw, .int .i64 s.lit.lo, .int .i64 s.lit.hi, .bool s.lit.neg, .int .i64 4, .int .i64 s.width, .slice s.qk nk s.ck], .int .i64 P, .slice q n c] X (fun e w' => ∃ v, e = .returned v ∧ Q e w')) :
    Calls Try.prog 21 #[.agg #[.int .i64 s.lit.kind, .string s.lit.attr, .slice s.lit.qi s.lit.ni s.lit.ci, .slice s.lit.qw s.lit.nw s.lit.cw, .int .i64 s.lit.lo, .int .i64 s.lit.hi, .bool s.lit.neg, .int .i64 4, .int .i64 s.width, .slice s.qk nk s.ck], .int .i64 P, .slice q n c] w Q := by
  obtain ⟨X, HX⟩ : ∃ X, w.alloc (.cells #[.int .i64 s.lit.kind, .string s.lit.attr, .slice s.lit.qi s.lit.ni s.lit.ci, .slice s.lit.qw s.lit.nw s.lit.cw, .int .i64 s.lit.lo, .int .i64 s.lit.hi, .bool s.lit.neg, .int .i64 4, .int .i64 s.width, .slice s.qk nk s.ck] 58) = X := ⟨_, rfl⟩
  have bX : Below w.heap.size w X := by rw [← HX]; exact (Below.refl _ _).alloc (Nat.le_refl _) _
  have xk : X.heap[w.heap.size]? = some (.cells #[.int .i64 s.lit.kind, .string s.lit.attr, .slice s.lit.qi s.lit.ni s.lit.ci, .slice s.lit.qw s.lit.nw s.lit.cw, .int .i64 s.lit.lo, .int .i64 s.lit.hi, .bool s.lit.neg, .int .i64 4, .int .i64 s.width, .slice s.qk nk s.ck] 58 (0, 0)) := by rw [← HX]; exact box_nw _ _
  obtain ⟨x0, x1, x2, x3, x4, x5, x6, x7, x8, x9⟩ := of10' xk
  have hC1 := hC X bX
  clear hC bX xk
  go_enter Try.func21, Try.ntmps21
  go_wp2_with (go_at_call 40; refine hC1.mono ?_; rintro e w2 ⟨v, rfl, h⟩; have HQ := hide h; clear h)
  exact unhide HQ
set_option maxRecDepth 100000 in
set_option maxHeartbeats 1000000 in
theorem tail_and (s : Sv) (nk P : Nat) (q : Option Addr) (c n : Nat) (w : World) (Q : Ending → World → Prop) (hC : ∀ X, Below w.heap.size w X → Calls Try.prog 41 #[.agg #[.int .i64 s.lit.kind, .string s.lit.attr, .slice s.lit.qi s.lit.ni s.lit.ci, .slice s.lit.qw s.lit.nw s.lit.cw, .int .i64 s.lit.lo, .int .i64 s.lit.hi, .bool s.lit.neg, .int .i64 3, .int .i64 s.width, .slice s.qk nk s.ck], .int .i64 P, .slice q n c] X (fun e w' => ∃ v, e = .returned v ∧ Q e w')) :
    Calls Try.prog 21 #[.agg #[.int .i64 s.lit.kind, .string s.lit.attr, .slice s.lit.qi s.lit.ni s.lit.ci, .slice s.lit.qw s.lit.nw s.lit.cw, .int .i64 s.lit.lo, .int .i64 s.lit.hi, .bool s.lit.neg, .int .i64 3, .int .i64 s.width, .slice s.qk nk s.ck], .int .i64 P, .slice q n c] w Q := by
  obtain ⟨X, HX⟩ : ∃ X, w.alloc (.cells #[.int .i64 s.lit.kind, .string s.lit.attr, .slice s.lit.qi s.lit.ni s.lit.ci, .slice s.lit.qw s.lit.nw s.lit.cw, .int .i64 s.lit.lo, .int .i64 s.lit.hi, .bool s.lit.neg, .int .i64 3, .int .i64 s.width, .slice s.qk nk s.ck] 58) = X := ⟨_, rfl⟩
  have bX : Below w.heap.size w X := by rw [← HX]; exact (Below.refl _ _).alloc (Nat.le_refl _) _
  have xk : X.heap[w.heap.size]? = some (.cells #[.int .i64 s.lit.kind, .string s.lit.attr, .slice s.lit.qi s.lit.ni s.lit.ci, .slice s.lit.qw s.lit.nw s.lit.cw, .int .i64 s.lit.lo, .int .i64 s.lit.hi, .bool s.lit.neg, .int .i64 3, .int .i64 s.width, .slice s.qk nk s.ck] 58 (0, 0)) := by rw [← HX]; exact box_nw _ _
  obtain ⟨x0, x1, x2, x3, x4, x5, x6, x7, x8, x9⟩ := of10' xk
  have hC1 := hC X bX
  clear hC bX xk
  go_enter Try.func21, Try.ntmps21
  go_wp2_with (go_at_call 41; refine hC1.mono ?_; rintro e w2 ⟨v, rfl, h⟩; have HQ := hide h; clear h)
  exact unhide HQ
theorem conj_or (kids : List Nd) (hK : ∀ x ∈ kids, ConjAny x) (hC : ∀ x ∈ kids, chkN x = true ∧ atN x = true) (s : Sv) (w0 : World) (P : Nat) (cj : List Lt) (q : Option Addr) (c n B : Nat) (ls : List Lt) (w : World) (hs : SdsOf w0 s.qk s.ck kids) (hcj : (cjSum kids)[P]? = some cj) (lP : P ≤ 1000000000000) (hb : Below w0.heap.size w0 w) (hB0 : w0.heap.size ≤ B) (hB : B ≤ w.heap.size) (hg : GrowL B w q c n ls) (ln : n + cj.length ≤ 1000000000) (lk : kids.length ≤ 1000000000) :
    Calls Try.prog 21 #[.agg #[.int .i64 s.lit.kind, .string s.lit.attr, .slice s.lit.qi s.lit.ni s.lit.ci, .slice s.lit.qw s.lit.nw s.lit.cw, .int .i64 s.lit.lo, .int .i64 s.lit.hi, .bool s.lit.neg, .int .i64 4, .int .i64 s.width, .slice s.qk kids.length s.ck], .int .i64 P, .slice q n c] w (ConjEnd B w ls cj) :=
  tail_or s kids.length P q c n w _ fun X bX => (oneOf_any kids hK hC ⟨s.lit, 4, s.width, s.qk, kids.length, s.ck⟩ w0 s.qk s.ck P cj q c n B ls X hs (below_sub hb bX) hB0 (Nat.le_trans hB bX.size) (hg.below bX) hcj ln lP lk).mono fun e w' h => by
    obtain ⟨q', c', N, h0, h1, h2⟩ := h
    exact ⟨_, h0, q', c', N, h0, h1, (bX.mono hB).trans h2⟩
theorem conj_and (kids : List Nd) (hK : ∀ x ∈ kids, ConjAny x) (hC : ∀ x ∈ kids, chkN x = true ∧ atN x = true) (s : Sv) (w0 : World) (P : Nat) (cj : List Lt) (q : Option Addr) (c n B : Nat) (ls : List Lt) (w : World) (hs : SdsOf w0 s.qk s.ck kids) (hwd : s.width = ((cjProd kids).length : Nat)) (hcj : (cjProd kids)[P]? = some cj) (lP : (cjProd kids).length ≤ 1000000000000) (hb : Below w0.heap.size w0 w) (hB0 : w0.heap.size ≤ B) (hB : B ≤ w.heap.size) (hg : GrowL B w q c n ls) (ln : n + cj.length ≤ 1000000000) (lk : kids.length ≤ 1000000000) :
    Calls Try.prog 21 #[.agg #[.int .i64 s.lit.kind, .string s.lit.attr, .slice s.lit.qi s.lit.ni s.lit.ci, .slice s.lit.qw s.lit.nw s.lit.cw, .int .i64 s.lit.lo, .int .i64 s.lit.hi, .bool s.lit.neg, .int .i64 3, .int .i64 s.width, .slice s.qk kids.length s.ck], .int .i64 P, .slice q n c] w (ConjEnd B w ls cj) :=
  tail_and s kids.length P q c n w _ fun X bX => (choice_any kids hK hC ⟨s.lit, 3, s.width, s.qk, kids.length, s.ck⟩ w0 s.qk s.ck P cj q c n B ls X hs hwd (below_sub hb bX) hB0 (Nat.le_trans hB bX.size) (hg.below bX) hcj ln lP lk).mono fun e w' h => by
    obtain ⟨q', c', N, h0, h1, h2⟩ := h
    exact ⟨_, h0, q', c', N, h0, h1, (bX.mono hB).trans h2⟩
theorem lsum_mem : ∀ {l : List Int} (_ : ∀ x ∈ l, 1 ≤ x) {y : Int}, y ∈ l → y ≤ lsum l := by
  intro l
  induction l with
  | nil => intro _ y hy; simp at hy
  | cons a l ih =>
    intro h y hy
    have h1 := lsum_ge (l := l) (fun x hx => h x (List.mem_cons_of_mem _ hx))
    have h2 := h a (by simp)
    simp only [lsum]
    rcases List.mem_cons.1 hy with rfl | hy
    · omega
    · have := ih (fun x hx => h x (List.mem_cons_of_mem _ hx)) hy; omega
theorem lprod_mem : ∀ {l : List Int} (_ : ∀ x ∈ l, 1 ≤ x) {y : Int}, y ∈ l → y ≤ lprod l := by
  intro l
  induction l with
  | nil => intro _ y hy; simp at hy
  | cons a l ih =>
    intro h y hy
    have h1 := lprod_ge (l := l) (fun x hx => h x (List.mem_cons_of_mem _ hx))
    have h2 := mul_ge (h a (by simp)) h1
    simp only [lprod]
    rcases List.mem_cons.1 hy with rfl | hy
    · exact h2.1
    · exact Int.le_trans (ih (fun x hx => h x (List.mem_cons_of_mem _ hx)) hy) h2.2.1
theorem kids_wide {kind : Int} {attr : ByteArray} {ints : List Int} {words : List ByteArray} {lo hi op : Int} {kids : List Nd} {M : Int} (ho : op = 3 ∨ op = 4) (hC : ∀ x ∈ kids, chkN x = true) (h : wN (.mk kind attr ints words lo hi op kids) ≤ M) : ∀ x ∈ kids, wN x ≤ M := by
  have h1 : ∀ y ∈ kids.map wN, 1 ≤ y := fun y hy => by
    obtain ⟨x, hx, rfl⟩ := List.mem_map.1 hy
    exact (wid_min (m := 64) (by omega) (by omega) x (hC x hx)).2
  intro x hx
  have hm : wN x ∈ kids.map wN := List.mem_map.2 ⟨x, hx, rfl⟩
  rcases ho with rfl | rfl
  · have e : wN (.mk kind attr ints words lo hi 3 kids) = lprod (kids.map wN) := by rw [← wProd_l]; simp [wN]
    rw [e] at h
    exact Int.le_trans (lprod_mem h1 hm) h
  · have e : wN (.mk kind attr ints words lo hi 4 kids) = lsum (kids.map wN) := by rw [← wSum_l]; simp [wN]
    rw [e] at h
    exact Int.le_trans (lsum_mem h1 hm) h
/-- conj of every tree in form whose negations stand at the predicates. -/
theorem conj_all : ∀ t, chkN t = true → atN t = true → wtN t ≤ 1000000000 → wN t ≤ 1000000000 → ConjAny t := by
  intro t
  induction t using Nd.ind with
  | h kind attr ints words lo hi op kids ih =>
    intro hch hat hwt hwn s w0 p cj q c n B ls w hin hb hB0 hB hg hcj ln
    obtain ⟨l1, l2, l4⟩ := wtN_parts hwt
    have hlen := Nat.le_trans (Nat.le_trans (len_size kids) (sizeL_wt kids)) l4
    have hN := (cj_all [] _ hch hat).1
    have hp := (List.getElem?_eq_some_iff.1 hcj).1
    have hch0 := hch
    simp only [chkN, Bool.and_eq_true] at hch
    obtain ⟨hn, hc⟩ := hch
    cases hin with
    | pos h1 h2 h3 =>
      have e : cjN (.mk kind attr ints words lo hi 1 kids) = [[⟨kind, attr, ints, words, lo, hi, false⟩]] := by simp [cjN]
      rw [e] at hcj hp
      obtain rfl : p = 0 := by simp at hp; omega
      cases hcj
      exact conj_one s _ _ q c n B ls w (h1.keep hb) h2 (by simpa using l1) (by simpa using l2) hg hB (by simp at ln; omega)
    | @neg _ _ _ _ _ _ _ k2 a2 i2 w2 lo2 hi2 o1 ks1 h1 h2 h3 =>
      have e : cjN (.mk kind attr ints words lo hi 2 [.mk k2 a2 i2 w2 lo2 hi2 o1 ks1]) = [[⟨k2, a2, i2, w2, lo2, hi2, true⟩]] := by simp [cjN, negLit]
      rw [e] at hcj hp
      obtain rfl : p = 0 := by simp at hp; omega
      cases hcj
      have hw2 : wtN (.mk k2 a2 i2 w2 lo2 hi2 o1 ks1) ≤ 1000000000 := by have := wtL_mem (l := [.mk k2 a2 i2 w2 lo2 hi2 o1 ks1]) (x := .mk k2 a2 i2 w2 lo2 hi2 o1 ks1) (by simp); omega
      obtain ⟨m1, m2, _⟩ := wtN_parts hw2
      exact conj_one s _ _ q c n B ls w (h1.keep hb) h2 (by simpa using m1) (by simpa using m2) hg hB (by simp at ln; omega)
    | join ho h2 h3 h4 h5 h6 h7 =>
      have hs : SdsOf w0 s.qk s.ck kids := ⟨_, h4, h6, h7⟩
      have hA : ∀ x ∈ kids, atN x = true := atL_all (by rcases ho with rfl | rfl <;> simpa [atN] using hat)
      have hC : ∀ x ∈ kids, chkN x = true := fun x hx => chkL_mem hc hx
      have hCC : ∀ x ∈ kids, chkN x = true ∧ atN x = true := fun x hx => ⟨hC x hx, hA x hx⟩
      have hW := kids_wide ho hC hwn
      have hK : ∀ x ∈ kids, ConjAny x := fun x hx => ih x hx (hC x hx) (hA x hx) (Nat.le_trans (wtL_mem hx) l4) (hW x hx)
      unfold Sv.val
      rw [h2, h5]
      rcases ho with rfl | rfl
      · have e : cjN (.mk kind attr ints words lo hi 3 kids) = cjProd kids := by simp [cjN]
        rw [e] at hcj hp hN
        rw [← hN] at h3
        exact conj_and kids hK hCC s w0 p cj q c n B ls w hs h3 hcj (by omega) hb hB0 hB hg ln (by omega)
      · have e : cjN (.mk kind attr ints words lo hi 4 kids) = cjSum kids := by simp [cjN]
        rw [e] at hcj hp hN
        exact conj_or kids hK hCC s w0 p cj q c n B ls w hs hcj (by omega) hb hB0 hB hg ln (by omega)
end Go.Proofs.Ytmpdfgebhpfhhaa
namespace Go.Proofs.Ytmpdfgebhpfhhaa
open Go.RowKit Go.Sort

/-- From w to w' no cell of a block below A, or from C on, was written. -/
def Ags (A C : Nat) (w w' : World) : Prop := w.heap.size ≤ w'.heap.size ∧ ∀ b o, b < w.heap.size → (b < A ∨ C ≤ b) → w'.cell? ⟨b, o, none⟩ = w.cell? ⟨b, o, none⟩
theorem Ags.refl (A C : Nat) (w : World) : Ags A C w w := ⟨Nat.le_refl _, fun _ _ _ _ => rfl⟩
theorem Ags.trans {A C : Nat} {w w1 w2 : World} (h : Ags A C w w1) (k : Ags A C w1 w2) : Ags A C w w2 := ⟨Nat.le_trans h.1 k.1, fun b o hb hc => (k.2 b o (Nat.lt_of_lt_of_le hb h.1) hc).trans (h.2 b o hb hc)⟩
theorem Ags.of {A C : Nat} {w w' : World} (hb : Below w.heap.size w w') : Ags A C w w' := ⟨hb.size, fun b o h _ => hb.cell (p := ⟨b, o, none⟩) h⟩
theorem Ags.mono {A C C' : Nat} {w w' : World} (h : Ags A C w w') (hc : C ≤ C') : Ags A C' w w' := ⟨h.1, fun b o hb hc2 => h.2 b o hb (by omega)⟩
theorem Ags.set {A C : Nat} {w0 w : World} (h : Ags A C w0 w) {p : Addr} (h1 : A ≤ p.block) (h2 : p.block < C) (u : Value) : Ags A C w0 (w.setCell p u) :=
  h.trans ⟨by simp, fun b o hb hc => World.cell?_of_block (w := w) (a := ⟨b, o, none⟩) (Below.heap_setCell w p u b (by show b ≠ p.block; omega))⟩
theorem SlOf.agree {α : Type} [Inhabited α] {enc : α → List Value} {k : Nat} {w w' : World} {q : Option Addr} {c : Nat} {l : List α} (h : SlOf enc k w q c l) (hs : w.heap.size ≤ w'.heap.size) (hc : ∀ ad, q = some ad → ad.block < w.heap.size → ∀ o, w'.cell? ⟨ad.block, o, Option.none⟩ = w.cell? ⟨ad.block, o, Option.none⟩) : SlOf enc k w' q c l :=
  ⟨h.1, h.2.1, h.2.2.1, fun h0 => by
    obtain ⟨b, off, hq, hlt, hcc⟩ := h.2.2.2 h0
    exact ⟨b, off, hq, Nat.lt_of_lt_of_le hlt hs, fun j u hj => (hc _ hq hlt _).trans (hcc j u hj)⟩⟩
/-- The spread s is the measured tree t, and stays so while no cell of a block below A, or from C on, is written. -/
def SdSt (A C : Nat) (s : Sv) (t : Nd) (w : World) : Prop := ∀ w', Ags A C w w' → SdIn w' s t
theorem SdSt.now {A C : Nat} {s : Sv} {t : Nd} {w : World} (h : SdSt A C s t w) : SdIn w s t := h w (Ags.refl _ _ _)
theorem SdSt.step {A C : Nat} {s : Sv} {t : Nd} {w w' : World} (h : SdSt A C s t w) (ha : Ags A C w w') : SdSt A C s t w' := fun w'' h2 => h w'' (ha.trans h2)
theorem SdSt.mono {A C C' : Nat} {s : Sv} {t : Nd} {w : World} (h : SdSt A C s t w) (hc : C' ≤ C) : SdSt A C' s t w := fun w' h2 => h w' (h2.mono hc)
theorem agree0 {w0 w w' w'' : World} {C : Nat} (hb : Below w0.heap.size w0 w) (h1 : Below w.heap.size w w') (h2 : Ags w0.heap.size C w' w'') : w0.heap.size ≤ w''.heap.size ∧ ∀ b o, b < w0.heap.size → w''.cell? ⟨b, o, none⟩ = w0.cell? ⟨b, o, none⟩ := by
  have s1 := hb.size
  have s2 := h1.size
  exact ⟨by have := h2.1; omega, fun b o hlt => (h2.2 b o (by omega) (Or.inl hlt)).trans ((h1.cell (p := ⟨b, o, none⟩) (by simp only; omega)).trans (hb.cell (p := ⟨b, o, none⟩) hlt))⟩
theorem Try.info58 : (Try.prog.info? 58).map (fun i => (i.zero, i.size, i.bytes)) = some (some (.agg #[.int .i64 0, .string ⟨#[]⟩, .slice none 0 0, .slice none 0 0, .int .i64 0, .int .i64 0, .bool false, .int .i64 0, .int .i64 0, .slice none 0 0]), 10, 136) := by kernel_rfl
theorem makeSd (n : Nat) (h : n * 136 ≤ 140737488355328) : ∃ cur : Array Value, cur.size = n * 10 ∧ ∀ W : World, (Instr.makeSlice 56 (.int .i64 (n : Int)) (.int .i64 (n : Int))).run Try.prog W = .ok (.slice (some ⟨W.heap.size, 0, none⟩) n n) (W.alloc (.cells cur 58)) := by
  obtain ⟨i0, hi, hz0, hz1, hz2⟩ := info_parts Try.info58
  refine ⟨madeCells (Value.agg #[.int .i64 0, .string ⟨#[]⟩, .slice none 0 0, .slice none 0 0, .int .i64 0, .int .i64 0, .bool false, .int .i64 0, .int .i64 0, .slice none 0 0]).cells (n * i0.size), by rw [size_madeCells, hz1], fun W => ?_⟩
  have := run_make (P := Try.prog) W 56 58 i0 _ Try.underlying56 hi hz0 .i64 .i64 (n : Int) (n : Int) (by omega) (by omega) (by rw [hz2]; omega) (by omega)
  simpa only [Int.toNat_natCast] using this
theorem set10_below {B g : Nat} {a w : World} (h : Below B a w) (hg : B ≤ g) (a0 a1 a2 a3 a4 a5 a6 a7 a8 a9 : Value) : Below B a ((((((((((w.setCell ⟨g, 0, none⟩ a0).setCell ⟨g, 1, none⟩ a1).setCell ⟨g, 2, none⟩ a2).setCell ⟨g, 3, none⟩ a3).setCell ⟨g, 4, none⟩ a4).setCell ⟨g, 5, none⟩ a5).setCell ⟨g, 6, none⟩ a6).setCell ⟨g, 7, none⟩ a7).setCell ⟨g, 8, none⟩ a8).setCell ⟨g, 9, none⟩ a9) :=
  (((((((((h.setCell (p := ⟨g, 0, none⟩) hg a0).setCell (p := ⟨g, 1, none⟩) hg a1).setCell (p := ⟨g, 2, none⟩) hg a2).setCell (p := ⟨g, 3, none⟩) hg a3).setCell (p := ⟨g, 4, none⟩) hg a4).setCell (p := ⟨g, 5, none⟩) hg a5).setCell (p := ⟨g, 6, none⟩) hg a6).setCell (p := ⟨g, 7, none⟩) hg a7).setCell (p := ⟨g, 8, none⟩) hg a8).setCell (p := ⟨g, 9, none⟩) hg a9
def MsP (t : Nd) : Prop := ∀ (v : Nv) (w0 w : World), NdIn w0 v t → Below w0.heap.size w0 w → chkN t = true → atN t = true → wtN t ≤ 1000000000 → wN t ≤ 64 →
    Calls Try.prog 20 #[v.val] w fun e w' => (∃ s : Sv, e = .returned s.val ∧ SdSt w0.heap.size w.heap.size s t w') ∧ Below w.heap.size w w'
set_option maxRecDepth 100000 in
set_option maxHeartbeats 1000000 in
theorem meas_pos (kind : Int) (attr : ByteArray) (qi : Option Addr) (ci : Nat) (ints : List Int) (qw : Option Addr) (cw : Nat) (words : List ByteArray) (lo hi : Int) (qk : Option Addr) (ck : Nat) (kids : List Nd) (w : World) :
    Calls Try.prog 20 #[.agg #[.int .i64 kind, .string attr, .slice qi ints.length ci, .slice qw words.length cw, .int .i64 lo, .int .i64 hi, .int .i64 1, .slice qk kids.length ck]] w fun e w' => e = .returned (.agg #[.int .i64 kind, .string attr, .slice qi ints.length ci, .slice qw words.length cw, .int .i64 lo, .int .i64 hi, .bool false, .int .i64 1, .int .i64 1, .slice none 0 0]) ∧ Below w.heap.size w w' := by
  go_enter Try.func20, Try.ntmps20
  go_wp2
  refine bodyPost_ret (v := .agg #[.int .i64 kind, .string attr, .slice qi ints.length ci, .slice qw words.length cw, .int .i64 lo, .int .i64 hi, .bool false, .int .i64 1, .int .i64 1, .slice none 0 0]) (by simp [results, Try.results20, go_sem, *]) rfl ⟨rfl, ?_⟩
  exact ((Below.refl _ _).alloc (Nat.le_refl _) _).alloc (by simp) _
set_option maxRecDepth 100000 in
set_option maxHeartbeats 1000000 in
theorem meas_neg (kind : Int) (attr : ByteArray) (qi : Option Addr) (ci : Nat) (ints : List Int) (qw : Option Addr) (cw : Nat) (words : List ByteArray) (lo hi : Int) (b off : Nat) (ck : Nat) (v : Nv) (w : World) (hb : b < w.heap.size) (g0 : w.cell? ⟨b, off, none⟩ = some (.int .i64 v.kind)) (g1 : w.cell? ⟨b, off + 1, none⟩ = some (.string v.attr)) (g2 : w.cell? ⟨b, off + 2, none⟩ = some (.slice v.qi v.ni v.ci)) (g3 : w.cell? ⟨b, off + 3, none⟩ = some (.slice v.qw v.nw v.cw)) (g4 : w.cell? ⟨b, off + 4, none⟩ = some (.int .i64 v.lo)) (g5 : w.cell? ⟨b, off + 5, none⟩ = some (.int .i64 v.hi)) :
    Calls Try.prog 20 #[.agg #[.int .i64 kind, .string attr, .slice qi ints.length ci, .slice qw words.length cw, .int .i64 lo, .int .i64 hi, .int .i64 2, .slice (some ⟨b, off, none⟩) 1 ck]] w fun e w' => e = .returned (.agg #[.int .i64 v.kind, .string v.attr, .slice v.qi v.ni v.ci, .slice v.qw v.nw v.cw, .int .i64 v.lo, .int .i64 v.hi, .bool true, .int .i64 1, .int .i64 1, .slice none 0 0]) ∧ Below w.heap.size w w' := by
  obtain ⟨X, HX⟩ : ∃ X, (w.alloc (.cells #[.int .i64 kind, .string attr, .slice qi ints.length ci, .slice qw words.length cw, .int .i64 lo, .int .i64 hi, .int .i64 2, .slice (some ⟨b, off, none⟩) 1 ck] 28)).alloc (.cells #[.int .i64 0, .string ⟨#[]⟩, .slice none 0 0, .slice none 0 0, .int .i64 0, .int .i64 0, .bool false, .int .i64 0, .int .i64 0, .slice none 0 0] 58) = X := ⟨_, rfl⟩
  obtain ⟨x8, xz, bX, sX⟩ := twoM HX
  obtain ⟨c0, c1, c2, c3, c4, c5, c6, c7⟩ := of8' x8
  obtain ⟨z0, z1, z2, z3, z4, z5, z6, z7, z8, z9⟩ := of10' xz
  have e0 := (bX.cell (p := ⟨b, off, none⟩) hb).trans g0
  have e1 := (bX.cell (p := ⟨b, off + 1, none⟩) hb).trans g1
  have e2 := (bX.cell (p := ⟨b, off + 2, none⟩) hb).trans g2
  have e3 := (bX.cell (p := ⟨b, off + 3, none⟩) hb).trans g3
  have e4 := (bX.cell (p := ⟨b, off + 4, none⟩) hb).trans g4
  have e5 := (bX.cell (p := ⟨b, off + 5, none⟩) hb).trans g5
  have zf : ∀ o, X.frozen? ⟨w.heap.size + 1, o, none⟩ = false := fun o => frozen_free xz
  have BX := hide bX
  clear g0 g1 g2 g3 g4 g5 x8 xz bX
  go_enter Try.func20, Try.ntmps20
  go_wp2
  refine bodyPost_ret (v := .agg #[.int .i64 v.kind, .string v.attr, .slice v.qi v.ni v.ci, .slice v.qw v.nw v.cw, .int .i64 v.lo, .int .i64 v.hi, .bool true, .int .i64 1, .int .i64 1, .slice none 0 0]) (by simp [results, Try.results20, go_sem, *]) rfl ⟨rfl, ?_⟩

  with_reducible exact set10_below (unhide BX) (by omega) _ _ _ _ _ _ _ _ _ _
end Go.Proofs.Ytmpdfgebhpfhhaa
namespace Go.Proofs.Ytmpdfgebhpfhhaa
open Go.RowKit Go.Sort

theorem gset {w w' : World} {g : Nat} (h : w.grownBy w' (some g)) (o : Nat) (v : Value) : w.grownBy (w'.setCell ⟨g, o, none⟩ v) (some g) := by
  have hb := (Below.refl 0 w').setCell (p := ⟨g, o, none⟩) (Nat.zero_le _) v
  exact ⟨hb.os.trans h.os, hb.tape.trans h.tape, hb.output.trans h.output, Nat.le_trans h.size hb.size, fun k hk hne => (Below.heap_setCell _ _ _ _ (fun e => hne (by rw [e]))).trans (h.block k hk hne)⟩
theorem grefl (w : World) (r : Option Nat) : w.grownBy w r := ⟨rfl, rfl, rfl, Nat.le_refl _, fun _ _ _ => rfl⟩
theorem row_below {B n m k : Nat} {e : TypeId} {g : Nat} {xs : List Value} {w w' : World} (h : w.ownsRow B e k (.slice (some ⟨g, 0, none⟩) n m) n xs) (hb : Below w.heap.size w w') : w'.ownsRow B e k (.slice (some ⟨g, 0, none⟩) n m) n xs :=
  World.ownsRow.kept h (row := none) ⟨hb.os, hb.tape, hb.output, hb.size, fun j hj _ => hb.block j hj⟩ (Or.inr (by simp [Value.ownBlock]))
theorem rowOf10 {W : World} {g B n k : Nat} {cur : Array Value} {T : TypeId} (h : W.heap[g]? = some (.cells cur T (0, 0))) (hB : B ≤ g) (hs : cur.size = n * k) (hm : n ≤ maxLen) : W.ownsRow B T k (.slice (some ⟨g, 0, none⟩) n n) n cur.toList :=
  ⟨by simp [hs], .inr ⟨g, n, cur, rfl, hB, h, Nat.le_refl _, hm, hs, by rw [List.take_of_length_le (by simp [hs])]⟩⟩
theorem row_off {B n m k : Nat} {e : TypeId} {g : Nat} {xs : List Value} {w w' : World} {r : Nat} (h : w.ownsRow B e k (.slice (some ⟨g, 0, none⟩) n m) n xs) (hg : w.grownBy w' (some r)) (hne : g ≠ r) : w'.ownsRow B e k (.slice (some ⟨g, 0, none⟩) n m) n xs :=
  World.ownsRow.kept h hg (Or.inr (by simp [Value.ownBlock, hne]))
theorem g10 (w : World) (g o : Nat) (a0 a1 a2 a3 a4 a5 a6 a7 a8 a9 : Value) : w.grownBy ((((((((((w.setCell ⟨g, o, none⟩ (a0)).setCell ⟨g, o + 1, none⟩ (a1)).setCell ⟨g, o + 2, none⟩ (a2)).setCell ⟨g, o + 3, none⟩ (a3)).setCell ⟨g, o + 4, none⟩ (a4)).setCell ⟨g, o + 5, none⟩ (a5)).setCell ⟨g, o + 6, none⟩ (a6)).setCell ⟨g, o + 7, none⟩ (a7)).setCell ⟨g, o + 8, none⟩ (a8)).setCell ⟨g, o + 9, none⟩ (a9)) (some g) := gset (gset (gset (gset (gset (gset (gset (gset (gset (gset (grefl w (some g)) _ _) _ _) _ _) _ _) _ _) _ _) _ _) _ _) _ _) _ _
theorem ags10 {A C : Nat} {w0 w : World} (h : Ags A C w0 w) {g : Nat} (o : Nat) (h1 : A ≤ g) (h2 : g < C) (a0 a1 a2 a3 a4 a5 a6 a7 a8 a9 : Value) : Ags A C w0 ((((((((((w.setCell ⟨g, o, none⟩ (a0)).setCell ⟨g, o + 1, none⟩ (a1)).setCell ⟨g, o + 2, none⟩ (a2)).setCell ⟨g, o + 3, none⟩ (a3)).setCell ⟨g, o + 4, none⟩ (a4)).setCell ⟨g, o + 5, none⟩ (a5)).setCell ⟨g, o + 6, none⟩ (a6)).setCell ⟨g, o + 7, none⟩ (a7)).setCell ⟨g, o + 8, none⟩ (a8)).setCell ⟨g, o + 9, none⟩ (a9)) := ((((((((((h.set (p := ⟨g, o, none⟩) h1 h2 a0)).set (p := ⟨g, o + 1, none⟩) h1 h2 a1).set (p := ⟨g, o + 2, none⟩) h1 h2 a2).set (p := ⟨g, o + 3, none⟩) h1 h2 a3).set (p := ⟨g, o + 4, none⟩) h1 h2 a4).set (p := ⟨g, o + 5, none⟩) h1 h2 a5).set (p := ⟨g, o + 6, none⟩) h1 h2 a6).set (p := ⟨g, o + 7, none⟩) h1 h2 a7).set (p := ⟨g, o + 8, none⟩) h1 h2 a8).set (p := ⟨g, o + 9, none⟩) h1 h2 a9
theorem row10 {B n m : Nat} {e : TypeId} {g : Nat} {p d : List Value} {w : World} {o : Nat} (z0 z1 z2 z3 z4 z5 z6 z7 z8 z9 a0 a1 a2 a3 a4 a5 a6 a7 a8 a9 : Value) (h : w.ownsRow B e 10 (.slice (some ⟨g, 0, none⟩) n m) n (p ++ [z0, z1, z2, z3, z4, z5, z6, z7, z8, z9] ++ d)) (ho : p.length = o) : ((((((((((w.setCell ⟨g, o, none⟩ (a0)).setCell ⟨g, o + 1, none⟩ (a1)).setCell ⟨g, o + 2, none⟩ (a2)).setCell ⟨g, o + 3, none⟩ (a3)).setCell ⟨g, o + 4, none⟩ (a4)).setCell ⟨g, o + 5, none⟩ (a5)).setCell ⟨g, o + 6, none⟩ (a6)).setCell ⟨g, o + 7, none⟩ (a7)).setCell ⟨g, o + 8, none⟩ (a8)).setCell ⟨g, o + 9, none⟩ (a9)).ownsRow B e 10 (.slice (some ⟨g, 0, none⟩) n m) n (p ++ [a0, a1, a2, a3, a4, a5, a6, a7, a8, a9] ++ d) := by
  have h2 := ((((((((((h.stored o a0).1.stored (o + 1) a1).1.stored (o + 2) a2).1.stored (o + 3) a3).1.stored (o + 4) a4).1.stored (o + 5) a5).1.stored (o + 6) a6).1.stored (o + 7) a7).1.stored (o + 8) a8).1.stored (o + 9) a9).1
  subst ho
  simpa [List.set_append, List.append_assoc] using h2
theorem row1 {B n m : Nat} {e : TypeId} {g : Nat} {p d : List Value} {w : World} {o : Nat} (z a : Value) (h : w.ownsRow B e 1 (.slice (some ⟨g, 0, none⟩) n m) n (p ++ [z] ++ d)) (ho : p.length = o) : (w.setCell ⟨g, o, none⟩ a).ownsRow B e 1 (.slice (some ⟨g, 0, none⟩) n m) n (p ++ [a] ++ d) := by
  have h2 := (h.stored o a).1
  subst ho
  simpa [List.set_append, List.append_assoc] using h2
theorem ten_of {d : List Value} {o : Nat} (h : o + 10 ≤ d.length) : ∃ z0 z1 z2 z3 z4 z5 z6 z7 z8 z9, d.drop o = [z0, z1, z2, z3, z4, z5, z6, z7, z8, z9] ++ d.drop (o + 10) := by
  refine ⟨d[o], d[o + 1], d[o + 2], d[o + 3], d[o + 4], d[o + 5], d[o + 6], d[o + 7], d[o + 8], d[o + 9], ?_⟩
  rw [List.drop_eq_getElem_cons (i := o) (by omega), List.drop_eq_getElem_cons (i := o + 1) (by omega), List.drop_eq_getElem_cons (i := o + 2) (by omega), List.drop_eq_getElem_cons (i := o + 3) (by omega), List.drop_eq_getElem_cons (i := o + 4) (by omega), List.drop_eq_getElem_cons (i := o + 5) (by omega), List.drop_eq_getElem_cons (i := o + 6) (by omega), List.drop_eq_getElem_cons (i := o + 7) (by omega), List.drop_eq_getElem_cons (i := o + 8) (by omega), List.drop_eq_getElem_cons (i := o + 9) (by omega)]
  rfl
theorem flat_len10 (us : List Sv) : (flatK encSd 10 us.toArray).toList.length = us.length * 10 := by simp [flatK]
theorem flat_one10 (s : Sv) : (flatK encSd 10 [s].toArray).toList = [.int .i64 s.lit.kind, .string s.lit.attr, .slice s.lit.qi s.lit.ni s.lit.ci, .slice s.lit.qw s.lit.nw s.lit.cw, .int .i64 s.lit.lo, .int .i64 s.lit.hi, .bool s.lit.neg, .int .i64 s.op, .int .i64 s.width, .slice s.qk s.nk s.ck] := by
  apply List.ext_getElem?
  intro j
  by_cases hj : j < 10
  · have := flat_at (enc := encSd) (k := 10) (l := [s]) (j := 0) (x := s) rfl j hj
    rw [Nat.zero_mul, Nat.zero_add] at this
    rw [this]
    have hm : j = 0 ∨ j = 1 ∨ j = 2 ∨ j = 3 ∨ j = 4 ∨ j = 5 ∨ j = 6 ∨ j = 7 ∨ j = 8 ∨ j = 9 := by omega
    rcases hm with e | e | e | e | e | e | e | e | e | e <;> rw [e] <;> rfl
  · rw [List.getElem?_eq_none (by simp [flatK]; omega), List.getElem?_eq_none (by simp; omega)]
theorem NdsOf.on2 {w wr : World} {q : Option Addr} {c : Nat} {l : List Nd} {j : Nat} {x : Nd} (h : NdsOf w q c l) (hj : l[j]? = some x) (hbel : Below w.heap.size w wr) :
    ∃ b off v, q = some ⟨b, off, none⟩ ∧ NdIn w v x ∧ wr.cell? ⟨b, off + j * 8, none⟩ = some (.int .i64 v.kind) ∧ wr.cell? ⟨b, off + j * 8 + 1, none⟩ = some (.string v.attr) ∧ wr.cell? ⟨b, off + j * 8 + 2, none⟩ = some (.slice v.qi v.ni v.ci) ∧ wr.cell? ⟨b, off + j * 8 + 3, none⟩ = some (.slice v.qw v.nw v.cw) ∧ wr.cell? ⟨b, off + j * 8 + 4, none⟩ = some (.int .i64 v.lo) ∧ wr.cell? ⟨b, off + j * 8 + 5, none⟩ = some (.int .i64 v.hi) ∧ wr.cell? ⟨b, off + j * 8 + 6, none⟩ = some (.int .i64 v.op) ∧ wr.cell? ⟨b, off + j * 8 + 7, none⟩ = some (.slice v.qk v.nk v.ck) := by
  obtain ⟨b, off, v, hq, hb, hin, c0, c1, c2, c3, c4, c5, c6, c7⟩ := h.at hj
  exact ⟨b, off, v, hq, hin, (hbel.cell hb).trans c0, (hbel.cell hb).trans c1, (hbel.cell hb).trans c2, (hbel.cell hb).trans c3, (hbel.cell hb).trans c4, (hbel.cell hb).trans c5, (hbel.cell hb).trans c6, (hbel.cell hb).trans c7⟩
end Go.Proofs.Ytmpdfgebhpfhhaa

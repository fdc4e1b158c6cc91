/- The statement's begins. -/
import Derived.Test.YtfigjfmldpfjkaaGreatL4
import Derived.Test.YtfigjfmldpfjkaaGreatK6
import Derived.Test.YtfigjfmldpfjkaaGreatK7
import Derived.Test.YtfigjfmldpfjkaaGreatZao
namespace Go.Proofs.YtfigjfmldpfjkaaGreat
open Go.RowKit Go.Sort Go.Shelf

theorem flat_len {α : Type} [Inhabited α] (enc : α → List Value) (k : Nat) (l : List α) : (flatK enc k l.toArray).toList.length = l.length * k := by simp [flatK]
theorem flat_pre {α : Type} [Inhabited α] (enc : α → List Value) {k : Nat} (hk : 0 < k) {l m : List α} {j : Nat} {u : Value} (h : (flatK enc k l.toArray).toList[j]? = some u) : (flatK enc k (l ++ m).toArray).toList[j]? = some u := by
  rw [flat_app enc k hk, List.getElem?_append_left (List.getElem?_eq_some_iff.1 h).1]
  exact h
theorem sl_takeG {α : Type} [Inhabited α] {enc : α → List Value} {k : Nat} (hk : 0 < k) {w : World} {q : Option Addr} {c : Nat} {l : List α} (h : SlOf enc k w q c l) (n : Nat) : SlOf enc k w q c (l.take n) := by
  refine ⟨fun hq => by have := h.1 hq; exact ⟨by rw [List.length_take]; omega, this.2⟩, by have := h.2.1; rw [List.length_take]; omega, h.2.2.1, fun h0 => ?_⟩
  obtain ⟨b, off, hq, hb, hA⟩ := h.2.2.2 (by simp at h0; omega)
  refine ⟨b, off, hq, hb, fun j u hj => hA j u ?_⟩
  have := flat_pre enc hk (m := l.drop n) hj
  rw [List.take_append_drop] at this
  exact this
def cutC (q : Option Addr) (cap a : Nat) : Option Addr := if cap = a then q else Option.map (fun x => x.add (a * 3)) q
theorem cutC_ne (q : Option Addr) {cap a : Nat} (h : ¬ cap = a) : cutC q cap a = Option.map (fun x => x.add (a * 3)) q := if_neg h
theorem cutC_same (q : Option Addr) (a : Nat) : cutC q a a = q := if_pos rfl
theorem slice_lC (q : Option Addr) (c N L : Nat) (h1 : L ≤ N) (h2 : N ≤ c) (W : World) : (Instr.sliceAt 35 (.slice q N c) (some (.int .i64 (L : Int))) none none).run Tryz.prog W = .ok (.slice (cutC q c L) (N - L) (c - L)) W := by
  have u := Tryz.underlying35
  have g1 : (L : Int) ≤ (N : Int) := by omega
  have g2 : (N : Int) ≤ (c : Int) := by omega
  by_cases hc : c = L
  · subst hc
    rw [cutC_same]
    go_simp
  · rw [cutC_ne q hc]
    go_simp
theorem slice_hC (q : Option Addr) (c N G : Nat) (h2 : G ≤ c) (W : World) : (Instr.sliceAt 35 (.slice q N c) none (some (.int .i64 (G : Int))) none).run Tryz.prog W = .ok (.slice q G c) W := by
  have u := Tryz.underlying35
  have g2 : (G : Int) ≤ (c : Int) := by omega
  have g3 : (0 : Int) ≤ (G : Int) := by omega
  go_simp
theorem cut_slC {w : World} {q : Option Addr} {cap : Nat} {l : List Ch} (h : SlOf encC 3 w q cap l) (a : Nat) (ha : a ≤ l.length) : SlOf encC 3 w (cutC q cap a) (cap - a) (l.drop a) := by
  refine ⟨fun hq => ?_, by have := h.2.1; rw [List.length_drop]; omega, by have := h.2.2.1; omega, fun hp => ?_⟩
  · have hq0 : q = none := by
      unfold cutC at hq
      split at hq
      · exact hq
      · simpa using hq
    have := h.1 hq0
    exact ⟨by rw [List.length_drop]; omega, by omega⟩
  · have hp' : a < l.length := by rw [List.length_drop] at hp; omega
    obtain ⟨b, off, hq, hb, hA⟩ := h.2.2.2 (by omega)
    have hne : ¬ cap = a := by have := h.2.1; omega
    refine ⟨b, off + a * 3, by rw [cutC_ne q hne, hq]; exact congrArg some (add_plain b off (a * 3)), hb, fun j u hj => ?_⟩
    have h9 := hA (a * 3 + j) u (by
      have e : l = l.take a ++ l.drop a := (List.take_append_drop a l).symm
      rw [e, flat_app encC 3 (by decide), List.getElem?_append_right (by rw [flat_len, List.length_take]; omega), flat_len, List.length_take, Nat.min_eq_left ha, Nat.add_sub_cancel_left]
      exact hj)
    rw [← Nat.add_assoc] at h9
    exact h9
set_option maxHeartbeats 2000000 in
set_option maxRecDepth 100000 in
theorem begins_yes (A M : List Ch) (k : Nat) (q q1 q2 : Option Addr) (c c1 c2 : Nat) (w : World) (h : SlOf encC 3 w q c (A ++ M.take k)) (h1 : SlOf encC 3 w q1 c1 A) (h2 : SlOf encC 3 w q2 c2 M) (hl : A.length + M.length ≤ 1000000000) :
    Calls Tryz.prog 17 #[.slice q (A ++ M.take k).length c, .slice q1 A.length c1, .slice q2 M.length c2] w fun e w' => e = .returned (.bool true) ∧ Below w.heap.size w w' := by
  have mixed : Tryz.prog.follows .mixedOrders = true := by kernel_rfl
  have e18 : ∀ args w, (callFunc 18 args).run Tryz.prog w = .ok (.enter 18 args) w := enters_of Tryz.func18 (by kernel_rfl) rfl
  obtain ⟨La, hLa⟩ : ∃ La, A.length = La := ⟨_, rfl⟩
  obtain ⟨Lm, hLm⟩ : ∃ Lm, M.length = Lm := ⟨_, rfl⟩
  obtain ⟨D, hD⟩ : ∃ D, (M.take k).length = D := ⟨_, rfl⟩
  have hDm : D ≤ Lm := by rw [← hD, ← hLm, List.length_take]; omega
  obtain ⟨Ll, hLl⟩ : ∃ Ll, (A ++ M.take k).length = Ll := ⟨_, rfl⟩
  have hLs : Ll = La + D := by rw [← hLl, List.length_append, hLa, hD]
  obtain ⟨S, hS⟩ : ∃ S, La + Lm = S := ⟨_, rfl⟩
  have hcap := h.2.1
  have hcap2 := h2.2.1
  rw [hLl] at hcap
  rw [hLm] at hcap2
  have hsa1 : ∀ W, Below w.heap.size w W → Calls Tryz.prog 18 #[.slice q La c, .slice q1 La c1] W fun e w' => e = .returned (.bool true) ∧ Below W.heap.size W w' := fun W hW => by
    have h9 := sameC_any q q1 c c1 A A W (by have := sl_takeG (by decide) (h.below hW) A.length; rw [List.take_left] at this; exact this) (h1.below hW) (by omega) (by omega)
    rw [decide_eq_true rfl, hLa] at h9
    exact h9
  have hsa2 : ∀ W, Below w.heap.size w W → Calls Tryz.prog 18 #[.slice (cutC q c La) D (c - La), .slice q2 D c2] W fun e w' => e = .returned (.bool true) ∧ Below W.heap.size W w' := fun W hW => by
    have h8 : SlOf encC 3 W (cutC q c La) (c - La) (M.take k) := by have := cut_slC (h.below hW) La (by omega); rw [← hLa, List.drop_left] at this; rw [← hLa]; exact this
    have h7 : SlOf encC 3 W q2 c2 (M.take k) := sl_takeG (by decide) (h2.below hW) k
    have h9 := sameC_any _ q2 _ c2 (M.take k) (M.take k) W h8 h7 (by omega) (by omega)
    rw [decide_eq_true rfl, hD] at h9
    exact h9
  have hs1 := slice_hC q c Ll La (by omega)
  have hs2 := slice_lC q c Ll La (by omega) (by omega)
  rw [show Ll - La = D by omega] at hs2
  have hs3 := slice_hC q2 c2 Lm D (by omega)
  have i1 : (La : Int) + (Lm : Int) = (S : Int) := by omega
  have i2 : IntKind.i64.wrap (S : Int) = (S : Int) := wrap_nat _ (by omega)
  have i3 : (Ll : Int) - (La : Int) = (D : Int) := by omega
  have i4 : IntKind.i64.wrap (D : Int) = (D : Int) := wrap_nat _ (by omega)
  have j1 : ¬ (Ll : Int) < (La : Int) := by omega
  have j2 : ¬ (S : Int) < (Ll : Int) := by omega
  rw [hLa, hLm, hLl]
  have i5 : La ≤ c := by omega
  have i6 : (La : Int) ≤ (c : Int) := by omega
  have i7 : (0 : Int) ≤ (La : Int) := by omega
  have HS2 := hide hsa2
  have hsa1' := hsa1 w (Below.refl _ _)
  clear h h1 h2 hLa hLm hD hLl hLs hS hl hDm hcap hcap2 hsa1 hsa2
  go_enter Tryz.func17, Tryz.ntmps17
  go_wp2_with (go_at_call 18; refine hsa1'.mono ?_; rintro e w1 ⟨rfl, b1⟩; have B1 := hide b1; clear b1)
  have hq2 := fun (d : Nat) (os : Array Obj) => unhide HS2 (grow (redrawn w1 d) os) (below_sub (unhide B1) (below_regrown w1 d os))
  have HB1 := hide (unhide B1)
  refine wp_region_quiet_below (by assumption) (by kernel_rfl) ?_
  repeat (go_big_quiet_step ((go_at_fn 18; refine Calls.regrown_of (hq2 _ _))))
  refine wpQuiet_nil ?_
  intro _ hw'
  obtain ⟨⟨dq, osq⟩, hw''⟩ := hw'
  subst hw''
  go_wp2
  go_ret
  exact ⟨rfl, below_sub (unhide B1) (below_regrown _ _ _)⟩
end Go.Proofs.YtfigjfmldpfjkaaGreat
namespace Go.Proofs.YtfigjfmldpfjkaaGreat
open Go.RowKit Go.Sort Go.Shelf

theorem own_block' (q : Option Addr) (n c : Nat) : (Value.slice q n c).ownBlock = q.map (·.block) := by cases q <;> rfl
theorem wpList_appC {ops : Array Oper} {rest : List Oper} {o : Oper} {a : Act} {w : World} {Q : Exit → Act → World → Prop} (hgd : o.guard = none) (s x : Operand)
    (ho : o.op = .call { callee := .builtin .append, args := #[s, x], argTypes := #[35, 35] }) (B : Nat) (q : Option Addr) (cap : Nat) (l : List Ch) (p : Option Addr) (c : Nat) (m : List Ch) (n n' N : Nat) (hn : l.length = n) (hn' : m.length = n') (hN : n + n' = N)
    (es : a.eval s = .slice q n cap) (ex : a.eval x = .slice p n' c) (hown : OwnK encC 63 3 B w q cap l) (hs : SrcK encC 3 w p c m) (hm : N ≤ maxLen) (hb : N * 32 ≤ 140737488355328) (hB : B ≤ w.heap.size)
    (h : ∀ q' cap' w', OwnK encC 63 3 B w' q' cap' (l ++ m) → w.grownBy w' (q.map (·.block)) → (q'.map (·.block) = q.map (·.block) ∨ ∀ g, q'.map (·.block) = some g → w.heap.size ≤ g) → wpList Tryz.prog ops Q rest (a.put o.dst (.slice q' N cap')) w') : wpList Tryz.prog ops Q (o :: rest) a w := by
  subst hn hn' hN
  obtain ⟨i0, z, hi, hz, hsz, hby, hzs⟩ := rowC.info
  refine wpList_plain hgd fun K hK => ?_
  cases p with
  | none =>
    obtain ⟨h0, rfl⟩ := hs.1 rfl
    obtain rfl : m = [] := List.length_eq_zero_iff.1 h0
    have hr := run_append_owned_none (P := Tryz.prog) (w := w) B 35 o.type 63 i0 3 rowC.und hi _ _ _ hown
    unfold Oper.wp execOp
    simp only [ho, resolve, invoke, builtin, Sem.run_bind, Sem.run_pure, Result.andThen_ok, List.map_toArray, List.map_cons, List.map_nil, List.length_nil, es, ex, hr]
    exact hK _ _ (h q cap w (by simpa using hown) (grown_refl _ _) (Or.inl rfl))
  | some ad =>
    obtain ⟨v', w', hr, ho2, hg, _, hat⟩ := run_append_own_at (P := Tryz.prog) w B 35 o.type 63 i0 z 3 32 rowC.und hi hz hsz hby hzs rowC.pos _ _ _ hown ad m.length c (flatK encC 3 m.toArray).toList (by simp) (hs.2 ad rfl) (rowC.one m) hm hb hB
    obtain ⟨q', cap', rfl, _⟩ := OwnK.shape ho2
    rw [own_block'] at hg
    rw [own_block', own_block'] at hat
    unfold Oper.wp execOp
    simp only [ho, resolve, invoke, builtin, Sem.run_bind, Sem.run_pure, Result.andThen_ok, List.map_toArray, List.map_cons, List.map_nil, es, ex, hr]
    refine hK _ _ (h q' cap' w' ?_ hg ?_)
    · unfold OwnK
      rw [flat_app encC 3 (by decide), List.length_append]
      exact ho2
    · rcases hat with h1 | h1
      · exact Or.inl h1
      · exact Or.inr fun g hg => by rw [h1] at hg; injection hg with hg; omega
/-- Two lists of changes beside a journal on its disk. -/
structure LM (B : Nat → Prop) (N0 : Nat) (w : World) (gj g : Nat) (s : JS) (x : JX) (q1 q2 : Option Addr) (c1 c2 : Nat) (A C : List Ch) : Prop where
  jr : JrAt B w gj g s x
  sub : Sub B w
  base : ∀ i, B i → i < N0
  o1 : OwnK encC 63 3 N0 w q1 c1 A
  o2 : OwnK encC 63 3 N0 w q2 c2 C
  dis : ∀ p p', q1 = some p → q2 = some p' → p.block ≠ p'.block
/-- What the calls leave alone: the lists, and one block more. -/
def Side (B : Nat → Prop) (q1 q2 : Option Addr) (N : Nat) : Nat → Prop := fun i => B i ∨ (∃ p, q1 = some p ∧ p.block = i) ∨ (∃ p, q2 = some p ∧ p.block = i) ∨ i = N
section
variable {B : Nat → Prop} {N0 : Nat} {w w' : World} {gj g : Nat} {s s' : JS} {x x' : JX} {q1 q2 : Option Addr} {c1 c2 : Nat} {A C : List Ch}
theorem LM.n0 (h : LM B N0 w gj g s x q1 q2 c1 c2 A C) {p : Addr} (hp : q1 = some p) : N0 ≤ p.block ∧ p.block < w.heap.size := by
  obtain ⟨h1, cur, hc⟩ := own_cellsG h.o1 hp
  exact ⟨h1, (Array.getElem?_eq_some_iff.1 hc).1⟩
theorem LM.n1 (h : LM B N0 w gj g s x q1 q2 c1 c2 A C) {p : Addr} (hp : q2 = some p) : N0 ≤ p.block ∧ p.block < w.heap.size := by
  obtain ⟨h1, cur, hc⟩ := own_cellsG h.o2 hp
  exact ⟨h1, (Array.getElem?_eq_some_iff.1 hc).1⟩
theorem LM.below (h : LM B N0 w gj g s x q1 q2 c1 c2 A C) (hb : Below w.heap.size w w') : LM B N0 w' gj g s x q1 q2 c1 c2 A C :=
  ⟨h.jr.below hb, h.sub.trans hb.size, h.base, h.o1.below hb, h.o2.below hb, h.dis⟩
/-- A journal that keeps off the lists and a block of another type. -/
theorem LM.side (h : LM B N0 w gj g s x q1 q2 c1 c2 A C) {N : Nat} {cur : Array Value} (hN : w.heap[N]? = some (.cells cur 42 (0, 0))) : JrAt (Side B q1 q2 N) w gj g s x ∧ Sub (Side B q1 q2 N) w := by
  refine ⟨h.jr.more fun i hi => ?_, fun i hi => ?_⟩
  · rcases hi with h1 | ⟨p, hp, rfl⟩ | ⟨p, hp, rfl⟩ | rfl
    · exact Or.inl h1
    · obtain ⟨_, cur, hc⟩ := own_cellsG h.o1 hp
      exact Or.inr (Or.inr ⟨cur, 63, hc, by decide, by decide, by decide, by decide⟩)
    · obtain ⟨_, cur, hc⟩ := own_cellsG h.o2 hp
      exact Or.inr (Or.inr ⟨cur, 63, hc, by decide, by decide, by decide, by decide⟩)
    · exact Or.inr (Or.inr ⟨cur, 42, hN, by decide, by decide, by decide, by decide⟩)
  · rcases hi with h1 | ⟨p, hp, rfl⟩ | ⟨p, hp, rfl⟩ | rfl
    · exact h.sub i h1
    · exact (h.n0 hp).2
    · exact (h.n1 hp).2
    · exact (Array.getElem?_eq_some_iff.1 hN).1
/-- Behind a call of the journal. -/
theorem LM.call (h : LM B N0 w gj g s x q1 q2 c1 c2 A C) {N : Nat} (hr : JrAt (Side B q1 q2 N) w' gj g s' x') (hk : Kpt (Side B q1 q2 N) w w') : LM B N0 w' gj g s' x' q1 q2 c1 c2 A C :=
  ⟨hr.more fun _ hi => Or.inl (Or.inl hi), h.sub.trans hk.size, h.base, own_sameG h.o1 fun p hp => hk.block _ (Or.inr (Or.inl ⟨p, hp, rfl⟩)) (h.n0 hp).2, own_sameG h.o2 fun p hp => hk.block _ (Or.inr (Or.inr (Or.inl ⟨p, hp, rfl⟩))) (h.n1 hp).2, h.dis⟩
theorem kpt_row {B : Nat → Prop} {N0 : Nat} {w w' : World} {q : Option Addr} (hg : w.grownBy w' (q.map (·.block))) (hb : ∀ i, B i → i < N0) (hq : ∀ p, q = some p → N0 ≤ p.block) : Kpt B w w' :=
  ⟨hg.os, hg.tape, hg.output, hg.size, fun i hi hs => hg.block i hs (by
    intro e
    cases q with
    | none => cases e
    | some p => injection e with e; have h1 := hq p rfl; have h2 := hb i hi; simp only at e; omega)⟩
/-- A journal stays while a row of changes grows. -/
theorem JrAt.row {B : Nat → Prop} {N0 : Nat} {w w' : World} {gj g : Nat} {s : JS} {x : JX} (h : JrAt B w gj g s x) {q : Option Addr} {c : Nat} {l : List Ch} (ho : OwnK encC 63 3 N0 w q c l) (hg : w.grownBy w' (q.map (·.block))) : JrAt B w' gj g s x := by
  cases q with
  | none => exact h.below ⟨hg.os, hg.tape, hg.output, hg.size, fun i hi => hg.block i hi (by intro e; cases e)⟩
  | some p =>
    obtain ⟨_, cur, hc⟩ := own_cellsG ho rfl
    have h2 : JrAt (PlusB B p.block) w gj g s x := h.more fun i hi => by
      rcases hi with h1 | rfl
      · exact Or.inl h1
      · exact Or.inr (Or.inr ⟨cur, 63, hc, by decide, by decide, by decide, by decide⟩)
    have hg' : w.grownBy w' (some p.block) := hg
    have hne : gj ≠ p.block := fun e => h2.nb (Or.inr e)
    exact ⟨(hg'.block gj h.lt (by intro e; injection e with e; exact hne e)).trans h.box, h.nb, (h2.disk.other hg' (Or.inl (Or.inr rfl))).more fun i hi => Or.inl (by rcases hi with h1 | h1; exact Or.inl (Or.inl h1); exact Or.inr h1)⟩
/-- The second list grows. -/
theorem LM.grow2 (h : LM B N0 w gj g s x q1 q2 c1 c2 A C) {q' : Option Addr} {c' : Nat} {C' : List Ch} (ho : OwnK encC 63 3 N0 w' q' c' C') (hg : w.grownBy w' (q2.map (·.block))) (hat : q'.map (·.block) = q2.map (·.block) ∨ ∀ k, q'.map (·.block) = some k → w.heap.size ≤ k) : LM B N0 w' gj g s x q1 q' c1 c' A C' := by
  refine ⟨h.jr.row h.o2 hg, h.sub.trans hg.size, h.base, own_sameG h.o1 fun p hp => hg.block _ (h.n0 hp).2 ?_, ho, fun p p' hp hp' => ?_⟩
  · intro e
    cases hq : q2 with
    | none => rw [hq] at e; cases e
    | some p2 => rw [hq] at e; injection e with e; exact h.dis p p2 hp hq e
  · rw [hp'] at hat
    rcases hat with h1 | h1
    · cases hq : q2 with
      | none => rw [hq] at h1; cases h1
      | some p2 => rw [hq] at h1; injection h1 with h1; simp only at h1; rw [h1]; exact h.dis p p2 hp hq
    · have h2 := h1 _ rfl
      simp only at h2
      have := (h.n0 hp).2
      omega
/-- The first list takes the second one in. -/
theorem LM.grow1 (h : LM B N0 w gj g s x q1 q2 c1 c2 A C) {q' : Option Addr} {c' : Nat} {A' : List Ch} (ho : OwnK encC 63 3 N0 w' q' c' A') (hg : w.grownBy w' (q1.map (·.block))) : LM B N0 w' gj g s x q' none c' 0 A' [] :=
  ⟨h.jr.row h.o1 hg, h.sub.trans hg.size, h.base, ho, OwnK.nil _ _, fun p p' _ hp' => by cases hp'⟩
/-- The first list is another one. -/
theorem LM.new1 (h : LM B N0 w gj g s x q1 q2 c1 c2 A C) {q' : Option Addr} {c' : Nat} {A' : List Ch} (hb : Below w.heap.size w w') (ho : OwnK encC 63 3 w.heap.size w' q' c' A') (hn : N0 ≤ w.heap.size) : LM B N0 w' gj g s x q' none c' 0 A' [] :=
  ⟨h.jr.below hb, h.sub.trans hb.size, h.base, ho.mono hn, OwnK.nil _ _, fun p p' _ hp' => by cases hp'⟩
end
/-- A call as it lies in memory. -/
structure Ov where
  kind : Int
  pc : Option Addr
  nc : Nat
  cc : Nat
  n : Int
  m : Int
  pi : Option Addr
  ni : Nat
  ci : Nat
  pb : Option Addr
  nb : Nat
  cb : Nat
instance : Inhabited Ov := ⟨⟨0, none, 0, 0, 0, 0, none, 0, 0, none, 0, 0⟩⟩
def encO (v : Ov) : List Value := [.int .i64 v.kind, .slice v.pc v.nc v.cc, .int .i64 v.n, .int .i64 v.m, .slice v.pi v.ni v.ci, .slice v.pb v.nb v.cb]
structure Od where
  kind : Int
  cs : List Ch
  n : Int
  m : Int
  is : List Int
  bs : List UInt8
instance : Inhabited Od := ⟨⟨0, [], 0, 0, [], []⟩⟩
def OdIn (w : World) (v : Ov) (o : Od) : Prop := (v.kind = o.kind ∧ v.n = o.n ∧ v.m = o.m ∧ v.nc = o.cs.length ∧ v.ni = o.is.length ∧ v.nb = o.bs.length) ∧ SlOf encC 3 w v.pc v.cc o.cs ∧ SlOf encI 1 w v.pi v.ci o.is ∧ SlOf encB 1 w v.pb v.cb o.bs
def OpsOf (w : World) (q : Option Addr) (c : Nat) (l : List Od) : Prop := ∃ vs, SlOf encO 6 w q c vs ∧ vs.length = l.length ∧ ∀ (j : Nat) (v : Ov) (o : Od), vs[j]? = some v → l[j]? = some o → OdIn w v o
def odW (o : Od) : Nat := o.cs.length + o.is.length + o.bs.length
def odsW : List Od → Nat
  | [] => 0
  | o :: l => 1 + odW o + odsW l
/-- How many changes the first calls hand in. -/
def chN (l : List Od) (k : Nat) : Nat := ((l.take k).map fun o => o.cs.length).sum
theorem odW_mem : ∀ {l : List Od} {o : Od}, o ∈ l → odW o ≤ odsW l := by
  intro l
  induction l with
  | nil => intro o h; simp at h
  | cons a l ih =>
    intro o h
    simp only [odsW]
    rcases List.mem_cons.1 h with rfl | h
    · omega
    · have := ih h; omega
theorem ods_len : ∀ l : List Od, l.length ≤ odsW l := by
  intro l
  induction l with
  | nil => simp
  | cons a l ih => simp only [odsW, List.length_cons]; omega
theorem chN_snoc {l : List Od} {k : Nat} {o : Od} (h : l[k]? = some o) : chN l (k + 1) = chN l k + o.cs.length := by
  unfold chN
  rw [List.take_add_one, h]
  simp
theorem chN_le (l : List Od) (k : Nat) : chN l k ≤ odsW l := by
  unfold chN
  induction l generalizing k with
  | nil => simp
  | cons a l ih =>
    cases k with
    | zero => simp
    | succ k => have := ih k; simp only [List.take_succ_cons, List.map_cons, List.sum_cons, odsW, odW]; omega
/-- The j-th call: its cells, and what it hands in. -/
theorem OpsOf.at {w wr : World} {q : Option Addr} {c : Nat} {l : List Od} {j : Nat} {o : Od} (h : OpsOf w q c l) (hj : l[j]? = some o) (hb : Below w.heap.size w wr) :
    ∃ b off v, q = some ⟨b, off, none⟩ ∧ OdIn w v o ∧ wr.cell? ⟨b, off + j * 6, none⟩ = some (.int .i64 v.kind) ∧ wr.cell? ⟨b, off + j * 6 + 1, none⟩ = some (.slice v.pc v.nc v.cc) ∧ wr.cell? ⟨b, off + j * 6 + 2, none⟩ = some (.int .i64 v.n) ∧ wr.cell? ⟨b, off + j * 6 + 3, none⟩ = some (.int .i64 v.m) ∧ wr.cell? ⟨b, off + j * 6 + 4, none⟩ = some (.slice v.pi v.ni v.ci) ∧ wr.cell? ⟨b, off + j * 6 + 5, none⟩ = some (.slice v.pb v.nb v.cb) := by
  obtain ⟨vs, h1, h2, h3⟩ := h
  have hl : j < l.length := (List.getElem?_eq_some_iff.1 hj).1
  obtain ⟨v, hv, _⟩ := get_at (l := vs) (k := j) (by omega)
  obtain ⟨b, off, hq, hlt, hc⟩ := h1.2.2.2.at hv
  refine ⟨b, off, v, hq, h3 j v o hv hj, ?_, ?_, ?_, ?_, ?_, ?_⟩
  · exact (hb.cell hlt).trans (hc 0 (by decide))
  · exact (hb.cell hlt).trans (hc 1 (by decide))
  · exact (hb.cell hlt).trans (hc 2 (by decide))
  · exact (hb.cell hlt).trans (hc 3 (by decide))
  · exact (hb.cell hlt).trans (hc 4 (by decide))
  · exact (hb.cell hlt).trans (hc 5 (by decide))
end Go.Proofs.YtfigjfmldpfjkaaGreat
namespace Go.Proofs.YtfigjfmldpfjkaaGreat
open Go.RowKit Go.Sort Go.Shelf

section
variable {B P : Nat → Prop} {w w' Y V V' : World} {gw d g : Nat} {s s' : JS} {M A M' A' A0 : Nat} {j0 s0 : Option Nat} {r : Rk}
theorem wsame_any (h : KS B P w gw d g s M A) (hM : M ≤ 25000000000) :
    Calls Tryz.prog 34 #[.pointer (some ⟨gw, 0, none⟩)] w fun e w' => e = .returned (.bool true) ∧ Below w.heap.size w w' := by
  obtain ⟨r, h1, h2, h3⟩ := h
  rcases h3 with ⟨h3, h4⟩ | ⟨gj, gs, x, L, h3, h4⟩
  · exact wsame_no h3 h4 h1 hM
  · exact wsame_yes h3 h4 h1 hM
theorem KS.below (h : KS B P w gw d g s M A) (hb : Below w.heap.size w w') : KS B P w' gw d g s M A := by
  obtain ⟨r, h1, h2, h3⟩ := h
  refine ⟨r, h1, h2, ?_⟩
  rcases h3 with ⟨h3, h4⟩ | ⟨gj, gs, x, L, h3, h4⟩
  · exact Or.inl ⟨h3.below hb, h4.below hb⟩
  · exact Or.inr ⟨gj, gs, x, L, h3.below hb, h4.jr.below hb, h4.rj.below hb, h4.bs, h4.ne, h4.l1, h4.l2, h4.l3⟩
theorem KM.more (h : KM B P w gw d g j0 s0 r) (hb : Below w.heap.size w Y) : KM (moreB B w Y) P Y gw d g j0 s0 r := (h.below hb).setB (moreB_sub h.sub hb.size) fun _ hi => Or.inl hi
theorem JAt.moreY (h : JAt B w d s) (hb : Below w.heap.size w Y) : JAt (moreB B w Y) Y d s := (h.more fun i hi => by
    rcases hi with hi | hi
    · exact Or.inl hi
    · exact Or.inr (Or.inl hi.1)).below hb
theorem KJ.more {gj gs : Nat} {x : JX} {L : List Ch} (h : KJ B P w gw d g gj gs x L s M) (hb : Below w.heap.size w Y) : KJ (moreB B w Y) P Y gw d g gj gs x L s M :=
  ⟨(h.jr.more fun i hi => by
    rcases hi with hi | hi
    · exact Or.inl hi
    · exact Or.inr (Or.inl hi.1)).below hb, h.rj.below hb, Or.inl h.bs, h.ne, h.l1, h.l2, h.l3⟩
theorem KX.mono (h : KX B P w gw g s' M A w') (hm : M ≤ M') (ha : A ≤ A') : KX B P w gw g s' M' A' w' := by
  obtain ⟨d', g', h1, B', P', h2, h3⟩ := h
  exact ⟨d', g', h1, B', P', h2.mono hm ha, h3⟩
theorem KE.kx {d' : Nat} (h : KE B P w gw g d' g s' M A w') : KX B P w gw g s' M A w' := ⟨d', g, Or.inl rfl, h⟩
theorem KX.below (h : KX B P w gw g s' M A V) (hb : Below V.heap.size V V') (hl : gw < V.heap.size) : KX B P w gw g s' M A V' := by
  obtain ⟨d', g', h1, B', P', h2, h3, h4, h5, h6⟩ := h
  exact ⟨d', g', h1, B', P', h2.below hb, h3, h4.trans (Kpt.of hb), h5, fun gs h7 => h6 gs (by rw [cell_same (hb.block gw hl)] at h7; exact h7)⟩
/-- The inputs lie below all of it. -/
structure Lo (A0 : Nat) (B : Nat → Prop) (gw g : Nat) (w : World) : Prop where
  all : ∀ i, i < A0 → B i
  og : A0 ≤ g
  ow : A0 ≤ gw
  os : ∀ gs, w.cell? ⟨gw, 3, none⟩ = some (.pointer (some ⟨gs, 0, none⟩)) → A0 ≤ gs
  le : A0 ≤ w.heap.size
/-- Of the world in which a call lays its own things, back to the call's. -/
theorem KX.back (h : KX (moreB B w Y) P Y gw g s' M A V) (hb : Below w.heap.size w Y) (hw : gw < w.heap.size) : KX B P w gw g s' M A V := by
  obtain ⟨d', g', h1, B', P', h2, h3, h4, h5, h6⟩ := h
  have hc := cell_same (o := 3) (hb.block gw hw)
  refine ⟨d', g', h1.imp id (Nat.le_trans hb.size), B', P', h2, fun i hi => h3 i (Or.inl hi), (Kpt.of hb).trans (h4.mono fun i hi => ⟨Or.inl hi.1, hi.2.1, hi.2.2.1, by rw [hc]; exact hi.2.2.2⟩), fun i hi => (h5 i hi).imp id (Nat.le_trans hb.size), fun gs h7 => ?_⟩
  rcases h6 gs h7 with h | h
  · exact Or.inl (Nat.le_trans hb.size h)
  · rw [hc] at h; exact Or.inr h
/-- While a row of the call's own is turned. -/
theorem KX.turn {q : Option Addr} (h : KX (moreB B w Y) P Y gw g s' M A V) (hk : KM B P w gw d g j0 s0 r) (hgs : ∀ gs, w.cell? ⟨gw, 3, none⟩ = some (.pointer (some ⟨gs, 0, none⟩)) → gs < w.heap.size) (hb : Below w.heap.size w Y) (hq : ∀ p, q = some p → w.heap.size ≤ p.block ∧ p.block < Y.heap.size) (hg : V.grownBy V' (q.map (·.block))) : KX B P w gw g s' M A V' := by
  have hw := hk.lt
  have hgl := hk.gl
  have hc := cell_same (o := 3) (hb.block gw hw)
  have hbk := KX.back h hb hw
  obtain ⟨d', g', h1, B', P', h2, h3, h4, h5, h6⟩ := h
  obtain ⟨_, _, _, _, _, _, _, k4, _, _⟩ := hbk
  have hne : q.map (·.block) ≠ some gw := fun e => by
    obtain ⟨p, hp, hpb⟩ := Option.map_eq_some_iff.1 e
    have := (hq p hp).1
    omega
  have hVs : Y.heap.size ≤ V.heap.size := h4.size
  have hwV : gw < V.heap.size := by have := hb.size; omega
  have hcV : V'.cell? ⟨gw, 3, none⟩ = V.cell? ⟨gw, 3, none⟩ := cell_same (hg.block gw hwV (fun e => hne e.symm))
  have hgs' : ∀ gs, V.cell? ⟨gw, 3, none⟩ = some (.pointer (some ⟨gs, 0, none⟩)) → ∀ p, q = some p → p.block ≠ gs := fun gs h7 p hp e => by
    have hp' := hq p hp
    rcases h6 gs h7 with h | h
    · omega
    · rw [hc] at h
      have := hgs gs h
      omega
  have hcond : ∀ p, q = some p → B' p.block ∧ p.block ≠ gw ∧ p.block ≠ g' ∧ ¬ P' p.block := fun p hp => by
    have hp' := hq p hp
    refine ⟨h3 _ (Or.inr hp'), by omega, ?_, fun hP => ?_⟩
    · rcases h1 with rfl | h1
      · omega
      · omega
    · rcases h5 _ hP with h | h
      · have := hk.sub _ (hk.pb _ h); omega
      · omega
  refine ⟨d', g', h1.imp id (Nat.le_trans hb.size), B', P', ?_, fun i hi => h3 i (Or.inl hi), ?_, fun i hi => (h5 i hi).imp id (Nat.le_trans hb.size), fun gs h7 => ?_⟩
  · obtain ⟨r1, e1, e2, e3⟩ := h2
    refine ⟨r1, e1, e2, ?_⟩
    rcases e3 with ⟨e3, e4⟩ | ⟨gj, gs, x, L, e3, e4⟩
    · refine Or.inl ?_
      cases q with
      | none => exact ⟨e3.below (below_none hg), e4.below (below_none hg)⟩
      | some p =>
        obtain ⟨f1, f2, f3, f4⟩ := hcond p rfl
        exact ⟨e3.turn hg f2 f3 f4, e4.other hg f1⟩
    · refine Or.inr ⟨gj, gs, x, L, ?_⟩
      have hbx := (cellsW e3.box).1.2.2.2
      exact KJ.turn e3 e4 hg fun p hp => by
        obtain ⟨f1, f2, f3, f4⟩ := hcond p hp
        exact ⟨f1, f2, f3, hgs' gs hbx p hp, f4⟩
  · refine ⟨hg.os.trans k4.os, hg.tape.trans k4.tape, hg.output.trans k4.output, Nat.le_trans k4.size hg.size, fun i hi hl => (hg.block i (Nat.lt_of_lt_of_le hl k4.size) (fun e => ?_)).trans (k4.block i hi hl)⟩
    obtain ⟨p, hp, hpb⟩ := Option.map_eq_some_iff.1 e.symm
    have := (hq p hp).1
    omega
  · rw [hcV] at h7
    rcases h6 gs h7 with h | h
    · exact Or.inl (Nat.le_trans hb.size h)
    · rw [hc] at h; exact Or.inr h
theorem KX.lo (h : KX B P w gw g s' M A w') (hl : Lo A0 B gw g w) : ∃ B' P' d' g', KS B' P' w' gw d' g' s' M A ∧ Lo A0 B' gw g' w' ∧ Below A0 w w' := by
  obtain ⟨d', g', h1, B', P', h2, h3, h4, h5, h6⟩ := h
  have hle := hl.le
  refine ⟨B', P', d', g', h2, ⟨fun i hi => h3 i (hl.all i hi), ?_, hl.ow, fun gs h7 => ?_, Nat.le_trans hl.le h4.size⟩, ⟨h4.os, h4.tape, h4.output, h4.size, fun i hi => h4.block i ⟨hl.all i hi, ?_, ?_, fun e => ?_⟩ (by omega)⟩⟩
  · rcases h1 with rfl | h1
    · exact hl.og
    · omega
  · rcases h6 gs h7 with h | h
    · omega
    · exact hl.os gs h
  · have := hl.og; omega
  · have := hl.ow; omega
  · have := hl.os i e; omega
theorem KS.gs (h : KS B P w gw d g s M A) : ∀ gs, w.cell? ⟨gw, 3, none⟩ = some (.pointer (some ⟨gs, 0, none⟩)) → gs < w.heap.size := fun gs h9 => by
  obtain ⟨r, h1, h2, h3⟩ := h
  rcases h3 with ⟨h3, h4⟩ | ⟨gj, gs', x, L, h3, h4⟩
  · rw [(cellsW h3.box).1.2.2.2] at h9; cases h9
  · rw [(cellsW h3.box).1.2.2.2] at h9
    injection h9 with h9
    injection h9 with h9
    injection h9 with h9
    injection h9 with h9
    exact h9 ▸ h3.sub _ h4.bs
end
end Go.Proofs.YtfigjfmldpfjkaaGreat

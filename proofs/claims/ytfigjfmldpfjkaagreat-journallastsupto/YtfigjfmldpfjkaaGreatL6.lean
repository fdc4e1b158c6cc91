/- A script of calls in memory; lists of changes that grow beside a journal. -/
import Derived.Test.YtfigjfmldpfjkaaGreatL5
namespace Go.Proofs.YtfigjfmldpfjkaaGreat
open Go.RowKit Go.Sort Go.Shelf

theorem own_block' (q : Option Addr) (n c : Nat) : (Value.slice q n c).ownBlock = q.map (·.block) := by cases q <;> rfl
theorem wpList_appC {ops : Array Oper} {rest : List Oper} {o : Oper} {a : Act} {w : World} {Q : Exit → Act → World → Prop} (hgd : o.guard = none) (s x : Operand)
    (ho : o.op = .call { callee := .builtin .append, args := #[s, x], argTypes := #[35, 35] }) (B : Nat) (q : Option Addr) (cap : Nat) (l : List Ch) (p : Option Addr) (c : Nat) (m : List Ch) (n n' N : Nat) (hn : l.length = n) (hn' : m.length = n') (hN : n + n' = N)
    (es : a.eval s = .slice q n cap) (ex : a.eval x = .slice p n' c) (hown : OwnK encC 63 3 B w q cap l) (hs : SrcK encC 3 w p c m) (hm : N ≤ maxLen) (hb : N * 32 ≤ 140737488355328) (hB : B ≤ w.heap.size)
    (h : ∀ q' cap' w', OwnK encC 63 3 B w' q' cap' (l ++ m) → w.grownBy w' (q.map (·.block)) → (q'.map (·.block) = q.map (·.block) ∨ ∀ g, q'.map (·.block) = some g → w.heap.size ≤ g) → wpList Tryz.prog ops Q rest (a.put o.dst (.slice q' N cap')) w') : wpList Tryz.prog ops Q (o :: rest) a w := by
  subst hn hn' hN
  obtain ⟨i0, z, hi, hz, hsz, hby, hzs⟩ := rowC.info
  refine wpList_plain hgd fun K hK => ?_
  cases p with
  | none =>
    obtain ⟨h0, rfl⟩ := hs.1 rfl
    obtain rfl : m = [] := List.length_eq_zero_iff.1 h0
    have hr := run_append_owned_none (P := Tryz.prog) (w := w) B 35 o.type 63 i0 3 rowC.und hi _ _ _ hown
    unfold Oper.wp execOp
    simp only [ho, resolve, invoke, builtin, Sem.run_bind, Sem.run_pure, Result.andThen_ok, List.map_toArray, List.map_cons, List.map_nil, List.length_nil, es, ex, hr]
    exact hK _ _ (h q cap w (by simpa using hown) (grown_refl _ _) (Or.inl rfl))
  | some ad =>
    obtain ⟨v', w', hr, ho2, hg, _, hat⟩ := run_append_own_at (P := Tryz.prog) w B 35 o.type 63 i0 z 3 32 rowC.und hi hz hsz hby hzs rowC.pos _ _ _ hown ad m.length c (flatK encC 3 m.toArray).toList (by simp) (hs.2 ad rfl) (rowC.one m) hm hb hB
    obtain ⟨q', cap', rfl, _⟩ := OwnK.shape ho2
    rw [own_block'] at hg
    rw [own_block', own_block'] at hat
    unfold Oper.wp execOp
    simp only [ho, resolve, invoke, builtin, Sem.run_bind, Sem.run_pure, Result.andThen_ok, List.map_toArray, List.map_cons, List.map_nil, es, ex, hr]
    refine hK _ _ (h q' cap' w' ?_ hg ?_)
    · unfold OwnK
      rw [flat_app encC 3 (by decide), List.length_append]
      exact ho2
    · rcases hat with h1 | h1
      · exact Or.inl h1
      · exact Or.inr fun g hg => by rw [h1] at hg; injection hg with hg; omega
/-- Two lists of changes beside a journal on its disk. -/
structure LM (B : Nat → Prop) (N0 : Nat) (w : World) (gj g : Nat) (s : JS) (x : JX) (q1 q2 : Option Addr) (c1 c2 : Nat) (A C : List Ch) : Prop where
  jr : JrAt B w gj g s x
  sub : Sub B w
  base : ∀ i, B i → i < N0
  o1 : OwnK encC 63 3 N0 w q1 c1 A
  o2 : OwnK encC 63 3 N0 w q2 c2 C
  dis : ∀ p p', q1 = some p → q2 = some p' → p.block ≠ p'.block
/-- What the calls leave alone: the lists, and one block more. -/
def Side (B : Nat → Prop) (q1 q2 : Option Addr) (N : Nat) : Nat → Prop := fun i => B i ∨ (∃ p, q1 = some p ∧ p.block = i) ∨ (∃ p, q2 = some p ∧ p.block = i) ∨ i = N
section
variable {B : Nat → Prop} {N0 : Nat} {w w' : World} {gj g : Nat} {s s' : JS} {x x' : JX} {q1 q2 : Option Addr} {c1 c2 : Nat} {A C : List Ch}
theorem LM.n0 (h : LM B N0 w gj g s x q1 q2 c1 c2 A C) {p : Addr} (hp : q1 = some p) : N0 ≤ p.block ∧ p.block < w.heap.size := by
  obtain ⟨h1, cur, hc⟩ := own_cellsG h.o1 hp
  exact ⟨h1, (Array.getElem?_eq_some_iff.1 hc).1⟩
theorem LM.n1 (h : LM B N0 w gj g s x q1 q2 c1 c2 A C) {p : Addr} (hp : q2 = some p) : N0 ≤ p.block ∧ p.block < w.heap.size := by
  obtain ⟨h1, cur, hc⟩ := own_cellsG h.o2 hp
  exact ⟨h1, (Array.getElem?_eq_some_iff.1 hc).1⟩
theorem LM.below (h : LM B N0 w gj g s x q1 q2 c1 c2 A C) (hb : Below w.heap.size w w') : LM B N0 w' gj g s x q1 q2 c1 c2 A C :=
  ⟨h.jr.below hb, h.sub.trans hb.size, h.base, h.o1.below hb, h.o2.below hb, h.dis⟩
/-- A journal that keeps off the lists and a block of another type. -/
theorem LM.side (h : LM B N0 w gj g s x q1 q2 c1 c2 A C) {N : Nat} {cur : Array Value} (hN : w.heap[N]? = some (.cells cur 42 (0, 0))) : JrAt (Side B q1 q2 N) w gj g s x ∧ Sub (Side B q1 q2 N) w := by
  refine ⟨h.jr.more fun i hi => ?_, fun i hi => ?_⟩
  · rcases hi with h1 | ⟨p, hp, rfl⟩ | ⟨p, hp, rfl⟩ | rfl
    · exact Or.inl h1
    · obtain ⟨_, cur, hc⟩ := own_cellsG h.o1 hp
      exact Or.inr (Or.inr ⟨cur, 63, hc, by decide, by decide, by decide, by decide⟩)
    · obtain ⟨_, cur, hc⟩ := own_cellsG h.o2 hp
      exact Or.inr (Or.inr ⟨cur, 63, hc, by decide, by decide, by decide, by decide⟩)
    · exact Or.inr (Or.inr ⟨cur, 42, hN, by decide, by decide, by decide, by decide⟩)
  · rcases hi with h1 | ⟨p, hp, rfl⟩ | ⟨p, hp, rfl⟩ | rfl
    · exact h.sub i h1
    · exact (h.n0 hp).2
    · exact (h.n1 hp).2
    · exact (Array.getElem?_eq_some_iff.1 hN).1
/-- Behind a call of the journal. -/
theorem LM.call (h : LM B N0 w gj g s x q1 q2 c1 c2 A C) {N : Nat} (hr : JrAt (Side B q1 q2 N) w' gj g s' x') (hk : Kpt (Side B q1 q2 N) w w') : LM B N0 w' gj g s' x' q1 q2 c1 c2 A C :=
  ⟨hr.more fun _ hi => Or.inl (Or.inl hi), h.sub.trans hk.size, h.base, own_sameG h.o1 fun p hp => hk.block _ (Or.inr (Or.inl ⟨p, hp, rfl⟩)) (h.n0 hp).2, own_sameG h.o2 fun p hp => hk.block _ (Or.inr (Or.inr (Or.inl ⟨p, hp, rfl⟩))) (h.n1 hp).2, h.dis⟩
theorem kpt_row {B : Nat → Prop} {N0 : Nat} {w w' : World} {q : Option Addr} (hg : w.grownBy w' (q.map (·.block))) (hb : ∀ i, B i → i < N0) (hq : ∀ p, q = some p → N0 ≤ p.block) : Kpt B w w' :=
  ⟨hg.os, hg.tape, hg.output, hg.size, fun i hi hs => hg.block i hs (by
    intro e
    cases q with
    | none => cases e
    | some p => injection e with e; have h1 := hq p rfl; have h2 := hb i hi; simp only at e; omega)⟩
/-- A journal stays while a row of changes grows. -/
theorem JrAt.row {B : Nat → Prop} {N0 : Nat} {w w' : World} {gj g : Nat} {s : JS} {x : JX} (h : JrAt B w gj g s x) {q : Option Addr} {c : Nat} {l : List Ch} (ho : OwnK encC 63 3 N0 w q c l) (hg : w.grownBy w' (q.map (·.block))) : JrAt B w' gj g s x := by
  cases q with
  | none => exact h.below ⟨hg.os, hg.tape, hg.output, hg.size, fun i hi => hg.block i hi (by intro e; cases e)⟩
  | some p =>
    obtain ⟨_, cur, hc⟩ := own_cellsG ho rfl
    have h2 : JrAt (PlusB B p.block) w gj g s x := h.more fun i hi => by
      rcases hi with h1 | rfl
      · exact Or.inl h1
      · exact Or.inr (Or.inr ⟨cur, 63, hc, by decide, by decide, by decide, by decide⟩)
    have hg' : w.grownBy w' (some p.block) := hg
    have hne : gj ≠ p.block := fun e => h2.nb (Or.inr e)
    exact ⟨(hg'.block gj h.lt (by intro e; injection e with e; exact hne e)).trans h.box, h.nb, (h2.disk.other hg' (Or.inl (Or.inr rfl))).more fun i hi => Or.inl (by rcases hi with h1 | h1; exact Or.inl (Or.inl h1); exact Or.inr h1)⟩
/-- The second list grows. -/
theorem LM.grow2 (h : LM B N0 w gj g s x q1 q2 c1 c2 A C) {q' : Option Addr} {c' : Nat} {C' : List Ch} (ho : OwnK encC 63 3 N0 w' q' c' C') (hg : w.grownBy w' (q2.map (·.block))) (hat : q'.map (·.block) = q2.map (·.block) ∨ ∀ k, q'.map (·.block) = some k → w.heap.size ≤ k) : LM B N0 w' gj g s x q1 q' c1 c' A C' := by
  refine ⟨h.jr.row h.o2 hg, h.sub.trans hg.size, h.base, own_sameG h.o1 fun p hp => hg.block _ (h.n0 hp).2 ?_, ho, fun p p' hp hp' => ?_⟩
  · intro e
    cases hq : q2 with
    | none => rw [hq] at e; cases e
    | some p2 => rw [hq] at e; injection e with e; exact h.dis p p2 hp hq e
  · rw [hp'] at hat
    rcases hat with h1 | h1
    · cases hq : q2 with
      | none => rw [hq] at h1; cases h1
      | some p2 => rw [hq] at h1; injection h1 with h1; simp only at h1; rw [h1]; exact h.dis p p2 hp hq
    · have h2 := h1 _ rfl
      simp only at h2
      have := (h.n0 hp).2
      omega
/-- The first list takes the second one in. -/
theorem LM.grow1 (h : LM B N0 w gj g s x q1 q2 c1 c2 A C) {q' : Option Addr} {c' : Nat} {A' : List Ch} (ho : OwnK encC 63 3 N0 w' q' c' A') (hg : w.grownBy w' (q1.map (·.block))) : LM B N0 w' gj g s x q' none c' 0 A' [] :=
  ⟨h.jr.row h.o1 hg, h.sub.trans hg.size, h.base, ho, OwnK.nil _ _, fun p p' _ hp' => by cases hp'⟩
/-- The first list is another one. -/
theorem LM.new1 (h : LM B N0 w gj g s x q1 q2 c1 c2 A C) {q' : Option Addr} {c' : Nat} {A' : List Ch} (hb : Below w.heap.size w w') (ho : OwnK encC 63 3 w.heap.size w' q' c' A') (hn : N0 ≤ w.heap.size) : LM B N0 w' gj g s x q' none c' 0 A' [] :=
  ⟨h.jr.below hb, h.sub.trans hb.size, h.base, ho.mono hn, OwnK.nil _ _, fun p p' _ hp' => by cases hp'⟩
end
/-- A call as it lies in memory. -/
structure Ov where
  kind : Int
  pc : Option Addr
  nc : Nat
  cc : Nat
  n : Int
  m : Int
  pi : Option Addr
  ni : Nat
  ci : Nat
  pb : Option Addr
  nb : Nat
  cb : Nat
instance : Inhabited Ov := ⟨⟨0, none, 0, 0, 0, 0, none, 0, 0, none, 0, 0⟩⟩
def encO (v : Ov) : List Value := [.int .i64 v.kind, .slice v.pc v.nc v.cc, .int .i64 v.n, .int .i64 v.m, .slice v.pi v.ni v.ci, .slice v.pb v.nb v.cb]
structure Od where
  kind : Int
  cs : List Ch
  n : Int
  m : Int
  is : List Int
  bs : List UInt8
instance : Inhabited Od := ⟨⟨0, [], 0, 0, [], []⟩⟩
def OdIn (w : World) (v : Ov) (o : Od) : Prop := (v.kind = o.kind ∧ v.n = o.n ∧ v.m = o.m ∧ v.nc = o.cs.length ∧ v.ni = o.is.length ∧ v.nb = o.bs.length) ∧ SlOf encC 3 w v.pc v.cc o.cs ∧ SlOf encI 1 w v.pi v.ci o.is ∧ SlOf encB 1 w v.pb v.cb o.bs
def OpsOf (w : World) (q : Option Addr) (c : Nat) (l : List Od) : Prop := ∃ vs, SlOf encO 6 w q c vs ∧ vs.length = l.length ∧ ∀ (j : Nat) (v : Ov) (o : Od), vs[j]? = some v → l[j]? = some o → OdIn w v o
def odW (o : Od) : Nat := o.cs.length + o.is.length + o.bs.length
def odsW : List Od → Nat
  | [] => 0
  | o :: l => 1 + odW o + odsW l
/-- How many changes the first calls hand in. -/
def chN (l : List Od) (k : Nat) : Nat := ((l.take k).map fun o => o.cs.length).sum
theorem odW_mem : ∀ {l : List Od} {o : Od}, o ∈ l → odW o ≤ odsW l := by
  intro l
  induction l with
  | nil => intro o h; simp at h
  | cons a l ih =>
    intro o h
    simp only [odsW]
    rcases List.mem_cons.1 h with rfl | h
    · omega
    · have := ih h; omega
theorem ods_len : ∀ l : List Od, l.length ≤ odsW l := by
  intro l
  induction l with
  | nil => simp
  | cons a l ih => simp only [odsW, List.length_cons]; omega
theorem chN_snoc {l : List Od} {k : Nat} {o : Od} (h : l[k]? = some o) : chN l (k + 1) = chN l k + o.cs.length := by
  unfold chN
  rw [List.take_add_one, h]
  simp
theorem chN_le (l : List Od) (k : Nat) : chN l k ≤ odsW l := by
  unfold chN
  induction l generalizing k with
  | nil => simp
  | cons a l ih =>
    cases k with
    | zero => simp
    | succ k => have := ih k; simp only [List.take_succ_cons, List.map_cons, List.sum_cons, odsW, odW]; omega
/-- The j-th call: its cells, and what it hands in. -/
theorem OpsOf.at {w wr : World} {q : Option Addr} {c : Nat} {l : List Od} {j : Nat} {o : Od} (h : OpsOf w q c l) (hj : l[j]? = some o) (hb : Below w.heap.size w wr) :
    ∃ b off v, q = some ⟨b, off, none⟩ ∧ OdIn w v o ∧ wr.cell? ⟨b, off + j * 6, none⟩ = some (.int .i64 v.kind) ∧ wr.cell? ⟨b, off + j * 6 + 1, none⟩ = some (.slice v.pc v.nc v.cc) ∧ wr.cell? ⟨b, off + j * 6 + 2, none⟩ = some (.int .i64 v.n) ∧ wr.cell? ⟨b, off + j * 6 + 3, none⟩ = some (.int .i64 v.m) ∧ wr.cell? ⟨b, off + j * 6 + 4, none⟩ = some (.slice v.pi v.ni v.ci) ∧ wr.cell? ⟨b, off + j * 6 + 5, none⟩ = some (.slice v.pb v.nb v.cb) := by
  obtain ⟨vs, h1, h2, h3⟩ := h
  have hl : j < l.length := (List.getElem?_eq_some_iff.1 hj).1
  obtain ⟨v, hv, _⟩ := get_at (l := vs) (k := j) (by omega)
  obtain ⟨b, off, hq, hlt, hc⟩ := h1.2.2.2.at hv
  refine ⟨b, off, v, hq, h3 j v o hv hj, ?_, ?_, ?_, ?_, ?_, ?_⟩
  · exact (hb.cell hlt).trans (hc 0 (by decide))
  · exact (hb.cell hlt).trans (hc 1 (by decide))
  · exact (hb.cell hlt).trans (hc 2 (by decide))
  · exact (hb.cell hlt).trans (hc 3 (by decide))
  · exact (hb.cell hlt).trans (hc 4 (by decide))
  · exact (hb.cell hlt).trans (hc 5 (by decide))
end Go.Proofs.YtfigjfmldpfjkaaGreat

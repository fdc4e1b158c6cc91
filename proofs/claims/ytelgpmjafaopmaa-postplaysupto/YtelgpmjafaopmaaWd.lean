/- The law's struct world in memory: two lists, the reference's, a cursor and the reference's. -/
import Derived.Test.YtelgpmjafaopmaaAsPlain
import Derived.Test.YtelgpmjafaopmaaStands
namespace Go.Proofs.Ytelgpmjafaopmaa
open Go.RowKit Go.Sort Go.Shelf

structure St where
  L : Bool → Nat
  l : Bool → List Pt
  m : Bool → List Pt
  q : Bool → Option Addr
  cap : Bool → Nat
  p : Bool → Option Addr
  c : Bool → Nat
  C : Nat
  R : Nat
  lc : List Pt
  kc : Nat
  kr : Nat
  qc : Option Addr
  capc : Nat
  pr : Option Addr
  cr : Nat
/-- All but the struct itself. -/
structure Wr (B : Nat) (w : World) (s : St) : Prop where
  lst : ∀ b, Lst w B (s.L b) (s.q b) (s.cap b) (s.l b)
  lowL : ∀ b, B ≤ s.L b
  lowC : B ≤ s.C
  lowR : B ≤ s.R
  str : ∀ b, Str (s.l b)
  ne : s.L false ≠ s.L true
  ref : ∀ b, SlOf encP 2 w (s.p b) (s.c b) (s.m b)
  cur : Cur w s.C s.qc s.lc.length s.capc s.kc
  curl : SlOf encP 2 w s.qc s.capc s.lc
  curb : s.qc = none ∨ ∃ g, s.qc = some ⟨g, 0, none⟩
  curs : Str s.lc
  kcl : s.kc ≤ s.lc.length
  krl : s.kr ≤ s.lc.length
  rc : RCur w s.R s.pr s.lc.length s.cr s.kr
  rcl : SlOf encP 2 w s.pr s.cr s.lc
  qq : Sep (s.q false) (s.q true)
  qp : ∀ b b', Sep (s.p b') (s.q b)
  qr : ∀ b, Sep s.pr (s.q b)
  pre : ∀ b, (s.q b = s.qc ∧ s.lc <+: s.l b) ∨ Sep s.qc (s.q b)
  plt : ∀ b a, s.p b = some a → a.block < w.heap.size
  rlt : ∀ a, s.pr = some a → a.block < w.heap.size
  clt : ∀ a, s.qc = some a → a.block < w.heap.size
/-- The struct's cells. -/
def cellsOf (s : St) : Array Value := #[.pointer (some ⟨s.L false, 0, none⟩), .pointer (some ⟨s.L true, 0, none⟩), .slice (s.p false) (s.m false).length (s.c false), .slice (s.p true) (s.m true).length (s.c true), .pointer (some ⟨s.C, 0, none⟩), .pointer (some ⟨s.R, 0, none⟩), .bool false]
structure Wd (B : Nat) (w : World) (G : Nat) (s : St) : Prop extends Wr B w s where
  blk : w.heap[G]? = some (.cells (cellsOf s) 33 (0, 0))
  lowG : B ≤ G
theorem Wd.lt {B : Nat} {w : World} {G : Nat} {s : St} (h : Wd B w G s) : G < w.heap.size := (Array.getElem?_eq_some_iff.1 h.blk).1
theorem Wd.below {B : Nat} {w w' : World} {G : Nat} {s : St} (h : Wd B w G s) (hb : Below w.heap.size w w') : Wd B w' G s :=
  { h with
    blk := (hb.block G h.lt).trans h.blk
    lst := fun b => (h.lst b).below hb
    ref := fun b => (h.ref b).below hb
    cur := h.cur.below hb
    curl := h.curl.below hb
    rc := h.rc.below hb
    rcl := h.rcl.below hb
    plt := fun b a e => Nat.lt_of_lt_of_le (h.plt b a e) hb.size
    rlt := fun a e => Nat.lt_of_lt_of_le (h.rlt a e) hb.size
    clt := fun a e => Nat.lt_of_lt_of_le (h.clt a e) hb.size }
/-- The posts do not lie where a cursor lies. -/
theorem Cur.keeps {w w' : World} {C : Nat} {q q' : Option Addr} {n cap cap' k : Nat} {l : List Pt} (h : Cur w C q n cap k) (hs : SlOf encP 2 w q' cap' l) (hg : w.grownBy w' (some C)) : SlOf encP 2 w' q' cap' l := by
  refine ⟨hs.1, hs.2.1, hs.2.2.1, fun h0 => ?_⟩
  obtain ⟨b, off, hq, hb, hA⟩ := hs.2.2.2 h0
  have hne : b ≠ C := by
    obtain ⟨x, hx, _⟩ := get_at h0
    obtain ⟨b', off', hq', _, c0, c1⟩ := postAt hs hx
    rw [hq] at hq'
    obtain ⟨rfl, rfl⟩ : b = b' ∧ off = off' := by injection hq' with h1; injection h1 with h1 h2; exact ⟨h1, h2⟩
    rintro rfl
    unfold Cur at h
    unfold World.cell? at c0 c1
    simp [h] at c0 c1
    match off, c0, c1 with
    | 0, c0, _ => simp at c0
    | 1, _, c1 => simp at c1
    | o + 2, c0, _ => simp at c0
  exact ⟨b, off, hq, Nat.lt_of_lt_of_le hb hg.size, fun j u hj => (cell_blk (hg.block b hb (by simp [hne]))).trans (hA j u hj)⟩
theorem Lst.rcur {w w' : World} {B L C : Nat} {q q' : Option Addr} {cap n cap' k : Nat} {l : List Pt} (h : Lst w B L q cap l) (hc : RCur w C q' n cap' k) (hg : w.grownBy w' (some C)) : Lst w' B L q cap l := by
  have hne : C ≠ L := fun e => by subst e; have := h.1; unfold RCur at hc; rw [hc] at this; simp at this
  refine ⟨(hg.block L h.lt (by simp [Ne.symm hne])).trans h.1, World.ownsRow.kept h.2 hg ?_⟩
  rcases h.2.2 with ⟨h2, _⟩ | ⟨g, _, cur, hv, _, hblk, _⟩
  · rw [h2]; exact Or.inl rfl
  · refine Or.inr ?_
    rw [hv]
    intro e
    simp [Value.ownBlock] at e
    subst e
    unfold RCur at hc
    rw [hc] at hblk
    simp at hblk
theorem Wd.neCR {B : Nat} {w : World} {G : Nat} {s : St} (h : Wd B w G s) : s.C ≠ s.R := fun e => by
  have h1 := h.cur; have h2 := h.rc; unfold Cur at h1; unfold RCur at h2; rw [e, h2] at h1; simp at h1
theorem Wd.neGC {B : Nat} {w : World} {G : Nat} {s : St} (h : Wd B w G s) : G ≠ s.C := fun e => by
  have h1 := h.cur; have h2 := h.blk; unfold Cur at h1; rw [e, h1] at h2; simp at h2
theorem Wd.neGR {B : Nat} {w : World} {G : Nat} {s : St} (h : Wd B w G s) : G ≠ s.R := fun e => by
  have h1 := h.rc; have h2 := h.blk; unfold RCur at h1; rw [e, h1] at h2; simp at h2
theorem Wd.neGL {B : Nat} {w : World} {G : Nat} {s : St} (h : Wd B w G s) (b : Bool) : G ≠ s.L b := fun e => by
  have h1 := (h.lst b).1; have h2 := h.blk; rw [e, h1] at h2; simp at h2
/-- The cursor moves. -/
theorem Wd.moveC {B : Nat} {w w' : World} {G : Nat} {s : St} (h : Wd B w G s) {k : Nat} (hk : k ≤ s.lc.length) (hc : Cur w' s.C s.qc s.lc.length s.capc k) (hg : w.grownBy w' (some s.C)) : Wd B w' G { s with kc := k } :=
  { h with
    blk := (hg.block G h.lt (by simp [h.neGC])).trans h.blk
    lst := fun b => (h.lst b).cur h.cur hg
    ref := fun b => h.cur.keeps (h.ref b) hg
    cur := hc
    curl := h.cur.keeps h.curl hg
    kcl := hk
    rc := (hg.block s.R h.rc.lt (by simp [Ne.symm h.neCR])).trans h.rc
    rcl := h.cur.keeps h.rcl hg
    plt := fun b a e => Nat.lt_of_lt_of_le (h.plt b a e) hg.size
    rlt := fun a e => Nat.lt_of_lt_of_le (h.rlt a e) hg.size
    clt := fun a e => Nat.lt_of_lt_of_le (h.clt a e) hg.size }
/-- The reference's cursor moves. -/
theorem Wd.moveR {B : Nat} {w w' : World} {G : Nat} {s : St} (h : Wd B w G s) {k : Nat} (hk : k ≤ s.lc.length) (hc : RCur w' s.R s.pr s.lc.length s.cr k) (hg : w.grownBy w' (some s.R)) : Wd B w' G { s with kr := k } :=
  { h with
    blk := (hg.block G h.lt (by simp [h.neGR])).trans h.blk
    lst := fun b => (h.lst b).rcur h.rc hg
    ref := fun b => h.rc.keeps (h.ref b) hg
    cur := (hg.block s.C h.cur.lt (by simp [h.neCR])).trans h.cur
    curl := h.rc.keeps h.curl hg
    krl := hk
    rc := hc
    rcl := h.rc.keeps h.rcl hg
    plt := fun b a e => Nat.lt_of_lt_of_le (h.plt b a e) hg.size
    rlt := fun a e => Nat.lt_of_lt_of_le (h.rlt a e) hg.size
    clt := fun a e => Nat.lt_of_lt_of_le (h.clt a e) hg.size }
/-- A slice of posts whose block has not turned. -/
theorem slof_keep {w w' : World} {q : Option Addr} {cap : Nat} {l : List Pt} (h : SlOf encP 2 w q cap l) (hk : ∀ b off, q = some ⟨b, off, none⟩ → 0 < l.length → w'.heap[b]? = w.heap[b]?) (hs : w.heap.size ≤ w'.heap.size) : SlOf encP 2 w' q cap l := by
  refine ⟨h.1, h.2.1, h.2.2.1, fun h0 => ?_⟩
  obtain ⟨b, off, hq, hlt, hc⟩ := h.2.2.2 h0
  exact ⟨b, off, hq, Nat.lt_of_lt_of_le hlt hs, fun j u hj => (cell_blk (hk b off hq h0)).trans (hc j u hj)⟩
/-- A slice of posts does not lie where a list's head lies. -/
theorem slof_ne {w : World} {B L : Nat} {q q' : Option Addr} {cap cap' : Nat} {l l' : List Pt} (h : Lst w B L q cap l) (hs : SlOf encP 2 w q' cap' l') {b off : Nat} (hq : q' = some ⟨b, off, none⟩) (h0 : 0 < l'.length) : b ≠ L := by
  obtain ⟨x, hx, _⟩ := get_at h0
  obtain ⟨b', off', hq', _, c0, c1⟩ := postAt hs hx
  rw [hq] at hq'
  obtain ⟨rfl, rfl⟩ : b = b' ∧ off = off' := by injection hq' with h1; injection h1 with h1 h2; exact ⟨h1, h2⟩
  rintro rfl
  have h1 := h.1
  unfold World.cell? at c0
  simp [h1] at c0
  match off, c0 with
  | 0, c0 => simp at c0
  | o + 1, c0 => simp at c0
theorem own_ne {w : World} {B X : Nat} {q : Option Addr} {cap : Nat} {l : List Pt} {cs : Array Value} {T : TypeId} (h : OwnK encP 43 2 B w q cap l) (hX : w.heap[X]? = some (.cells cs T (0, 0))) (hT : T ≠ 43) : some X ≠ q.map (·.block) := by
  rcases h.2 with ⟨h1, _⟩ | ⟨g, _, cur, hv, _, hblk, _⟩
  · injection h1 with h1; subst h1; simp
  · injection hv with h1
    subst h1
    intro e
    simp at e
    subst e
    rw [hX] at hblk
    simp at hblk
    exact hT hblk.2
theorem OwnK.keepBlk {w w' : World} {B : Nat} {q : Option Addr} {cap : Nat} {l : List Pt} (h : OwnK encP 43 2 B w q cap l) (hk : ∀ a, q = some a → w'.heap[a.block]? = w.heap[a.block]?) : OwnK encP 43 2 B w' q cap l := by
  refine ⟨h.1, ?_⟩
  rcases h.2 with h0 | ⟨g, cp, cur, hv, hB, hblk, hr⟩
  · exact Or.inl h0
  · injection hv with h1 h2 h3
    exact Or.inr ⟨g, cp, cur, by rw [h1, h2, h3], hB, (hk _ h1).trans hblk, hr⟩
theorem own_ne_L {w : World} {B B' L : Nat} {q q' : Option Addr} {cap cap' : Nat} {l l' : List Pt} (h : OwnK encP 43 2 B w q cap l) (hL : Lst w B' L q' cap' l') {a : Addr} (e : q = some a) : a.block ≠ L := fun e2 => by
  have := own_ne h hL.1 (by decide)
  rw [e] at this
  exact this (by simp [e2])
def upd {α : Type} (f : Bool → α) (b : Bool) (v : α) : Bool → α := fun x => if x = b then v else f x
theorem upd_same {α : Type} (f : Bool → α) (b : Bool) (v : α) : upd f b v b = v := by simp [upd]
theorem upd_other {α : Type} (f : Bool → α) {b x : Bool} (v : α) (h : x ≠ b) : upd f b v x = f x := by simp [upd, h]
theorem Sep.symm' {a b : Option Addr} (h : Sep a b) : Sep b a := fun x y hx hy e => h y x hy hx e.symm
/-- Add or Drop of one list. -/
theorem Wd.turn {B : Nat} {w w' : World} {G : Nat} {s : St} (h : Wd B w G s) (b : Bool) {l' : List Pt} (hst : Str l') (ht : Turned2 B (s.L b) w (s.q b) (s.l b) l' w') :
    ∃ q' cap', Wd B w' G { s with q := upd s.q b q', cap := upd s.cap b cap', l := upd s.l b l' } ∧ Below B w w' := by
  obtain ⟨q', cap', w1, hs, hb1, ho, rfl, hp⟩ := ht
  have hput := ((h.lst b).put hs ho).2
  have hsz : w.heap.size ≤ (w1.setCell ⟨s.L b, 0, none⟩ (.slice q' l'.length cap')).heap.size := Nat.le_trans hs.1.size ((Below.refl 0 w1).setCell (p := ⟨s.L b, 0, none⟩) (Nat.zero_le _) _).size
  have keep : ∀ X, X ≠ s.L b → X < w.heap.size → some X ≠ (s.q b).map (·.block) → (w1.setCell ⟨s.L b, 0, none⟩ (.slice q' l'.length cap')).heap[X]? = w.heap[X]? := fun X h1 h2 h3 =>
    (Below.heap_setCell _ _ _ _ (by exact h1)).trans (hs.1.block X h2 h3)
  have row : ∀ (q0 : Option Addr) (cap0 : Nat) (l0 : List Pt), SlOf encP 2 w q0 cap0 l0 → Sep q0 (s.q b) → SlOf encP 2 (w1.setCell ⟨s.L b, 0, none⟩ (.slice q' l'.length cap')) q0 cap0 l0 := fun q0 cap0 l0 h0 hsep =>
    slof_keep h0 (fun g off e h1 => keep g (slof_ne (h.lst b) h0 e h1) (by obtain ⟨b2, o2, e2, h2, _⟩ := h0.2.2.2 h1; rw [e] at e2; cases e2; exact h2) (by
      cases hq : s.q b with
      | none => simp
      | some a => simp; exact hsep _ a e hq)) hsz
  refine ⟨q', cap', { h with
    blk := (keep G (h.neGL b) h.lt (own_ne (h.lst b).2 h.blk (by decide))).trans h.blk
    lst := ?_
    str := ?_
    ref := fun b' => row _ _ _ (h.ref b') (h.qp b b')
    cur := (keep s.C (fun e => by have h1 := (h.lst b).1; have h2 := h.cur; unfold Cur at h2; rw [e, h1] at h2; simp at h2) h.cur.lt (own_ne (h.lst b).2 h.cur (by decide))).trans h.cur
    curl := ?_
    rc := (keep s.R (fun e => by have h1 := (h.lst b).1; have h2 := h.rc; unfold RCur at h2; rw [e, h1] at h2; simp at h2) h.rc.lt (own_ne (h.lst b).2 h.rc (by decide))).trans h.rc
    rcl := row _ _ _ h.rcl (h.qr b)
    qq := ?_
    qp := ?_
    qr := ?_
    pre := ?_
    plt := fun b a e => Nat.lt_of_lt_of_le (h.plt b a e) hsz
    rlt := fun a e => Nat.lt_of_lt_of_le (h.rlt a e) hsz
    clt := fun a e => Nat.lt_of_lt_of_le (h.clt a e) hsz }, hb1.setCell (p := ⟨s.L b, 0, none⟩) (h.lowL b) _⟩
  · intro b'
    by_cases e : b' = b
    · subst e; simp only [upd_same]; exact hput
    · simp only [upd_other _ _ e]
      have hLL : s.L b' ≠ s.L b := by
        cases b <;> cases b' <;> first | exact absurd rfl e | exact h.ne | exact Ne.symm h.ne
      have hqq : Sep (s.q b') (s.q b) := by
        cases b <;> cases b' <;> first | exact absurd rfl e | exact h.qq | exact h.qq.symm'
      refine ⟨(keep _ hLL (h.lst b').lt (own_ne (h.lst b).2 (h.lst b').1 (by decide))).trans (h.lst b').1, (h.lst b').2.keepBlk fun a ea => keep _ (own_ne_L (h.lst b').2 (h.lst b) ea) (own_lt (h.lst b').2 a ea) ?_⟩
      cases hq : s.q b with
      | none => simp
      | some a2 => simp; exact hqq a a2 ea hq
  · intro b'
    by_cases e : b' = b
    · subst e; simp only [upd_same]; exact hst
    · simp only [upd_other _ _ e]; exact h.str b'
  · show SlOf encP 2 _ s.qc s.capc s.lc
    rcases h.pre b with ⟨e, hpre⟩ | hsep
    · rcases hs.2 with e2 | ⟨hg1, hf⟩
      · have h3 := slof_pre hput.2.ls (List.IsPrefix.trans hpre (hp e2)) (cap0 := s.capc) (by rw [e2, e]; exact h.curl.1) h.curl.2.1 h.curl.2.2.1
        rw [e2, e] at h3
        rw [e2, e]
        exact h3
      · exact slof_keep h.curl (fun g off eg h1 => (Below.heap_setCell _ _ _ _ (by exact slof_ne (h.lst b) h.curl eg h1)).trans (hg1.block g (h.clt _ eg) (by simp))) hsz
    · exact row _ _ _ h.curl hsep
  · show Sep (upd s.q b q' false) (upd s.q b q' true)
    cases b with
    | false => exact (sep_step h.qq.symm' hs fun a e => own_lt (h.lst true).2 a e).symm'
    | true => exact sep_step h.qq hs fun a e => own_lt (h.lst false).2 a e
  · intro x b'
    show Sep (s.p b') (upd s.q b q' x)
    by_cases e : x = b
    · subst e; rw [upd_same]; exact sep_step (h.qp x b') hs (h.plt b')
    · rw [upd_other _ _ e]; exact h.qp x b'
  · intro x
    show Sep s.pr (upd s.q b q' x)
    by_cases e : x = b
    · subst e; rw [upd_same]; exact sep_step (h.qr x) hs h.rlt
    · rw [upd_other _ _ e]; exact h.qr x
  · intro x
    show (upd s.q b q' x = s.qc ∧ s.lc <+: upd s.l b l' x) ∨ Sep s.qc (upd s.q b q' x)
    by_cases e : x = b
    · subst e
      rw [upd_same, upd_same]
      rcases h.pre x with ⟨e1, hpre⟩ | hsep
      · rcases hs.2 with e2 | ⟨hg1, hf⟩
        · exact Or.inl ⟨e2.trans e1, List.IsPrefix.trans hpre (hp e2)⟩
        · refine Or.inr fun a a1 ea ea1 => ?_
          have := h.clt a ea
          rcases hf with hf | ⟨g', hf, hg'⟩
          · rw [hf] at ea1; cases ea1
          · rw [hf] at ea1; cases ea1; show a.block ≠ g'; omega
      · exact Or.inr (sep_step hsep hs h.clt)
    · rw [upd_other _ _ e, upd_other _ _ e]; exact h.pre x
theorem cells_no_int (s : St) (o : Nat) (i : Int) : (cellsOf s)[o]? ≠ some (.int .i64 i) := by
  unfold cellsOf
  match o with
  | 0 => simp
  | 1 => simp
  | 2 => simp
  | 3 => simp
  | 4 => simp
  | 5 => simp
  | 6 => simp
  | n + 7 => simp
theorem slof_neG {w : World} {G : Nat} {s : St} (hG : w.heap[G]? = some (.cells (cellsOf s) 33 (0, 0))) {q' : Option Addr} {cap' : Nat} {l' : List Pt} (hs : SlOf encP 2 w q' cap' l') {b off : Nat} (hq : q' = some ⟨b, off, none⟩) (h0 : 0 < l'.length) : b ≠ G := by
  obtain ⟨x, hx, _⟩ := get_at h0
  obtain ⟨b', off', hq', _, c0, c1⟩ := postAt hs hx
  rw [hq] at hq'
  obtain ⟨rfl, rfl⟩ : b = b' ∧ off = off' := by injection hq' with h1; injection h1 with h1 h2; exact ⟨h1, h2⟩
  rintro rfl
  rw [cell_of_row _ _ _ _ 33 (0, 0) hG] at c0
  exact cells_no_int s _ _ c0
/-- The struct is written. -/
theorem Wr.keepG {B : Nat} {w w' : World} {G : Nat} {s s0 : St} (h : Wr B w s) (hG : w.heap[G]? = some (.cells (cellsOf s0) 33 (0, 0))) (hg : w.grownBy w' (some G)) : Wr B w' s := by
  have keep : ∀ X, X ≠ G → X < w.heap.size → w'.heap[X]? = w.heap[X]? := fun X h1 h2 => hg.block X h2 (by simp [h1])
  have row : ∀ (q0 : Option Addr) (cap0 : Nat) (l0 : List Pt), SlOf encP 2 w q0 cap0 l0 → SlOf encP 2 w' q0 cap0 l0 := fun q0 cap0 l0 h0 =>
    slof_keep h0 (fun g off e h1 => keep g (slof_neG hG h0 e h1) (by obtain ⟨b2, o2, e2, h2, _⟩ := h0.2.2.2 h1; rw [e] at e2; cases e2; exact h2)) hg.size
  have neT : ∀ {X : Nat} {cs : Array Value} {T : TypeId}, w.heap[X]? = some (.cells cs T (0, 0)) → T ≠ 33 → X ≠ G := fun {X cs T} hX hT e => by
    subst e
    rw [hX] at hG
    simp at hG
    exact hT hG.2
  exact { h with
    lst := fun b => ⟨(keep _ (neT (h.lst b).1 (by decide)) (h.lst b).lt).trans (h.lst b).1, (h.lst b).2.keepBlk fun a ea => keep _ (by
      have := own_ne (h.lst b).2 hG (by decide)
      rw [ea] at this
      exact fun e => this (by simp [e])) (own_lt (h.lst b).2 a ea)⟩
    ref := fun b => row _ _ _ (h.ref b)
    cur := (keep _ (neT h.cur (by decide)) h.cur.lt).trans h.cur
    curl := row _ _ _ h.curl
    rc := (keep _ (neT h.rc (by decide)) h.rc.lt).trans h.rc
    rcl := row _ _ _ h.rcl
    plt := fun b a e => Nat.lt_of_lt_of_le (h.plt b a e) hg.size
    rlt := fun a e => Nat.lt_of_lt_of_le (h.rlt a e) hg.size
    clt := fun a e => Nat.lt_of_lt_of_le (h.clt a e) hg.size }
theorem Wd.put {B : Nat} {w : World} {G : Nat} {s s' : St} (h : Wd B w G s) (hr : Wr B w s') (i : Nat) (v : Value) (hcs : (cellsOf s).setIfInBounds i v = cellsOf s') : Wd B (w.setCell ⟨G, i, none⟩ v) G s' :=
  { hr.keepG h.blk (grown_set w G i v) with
    blk := by rw [heap_setCell_same w G i _ 33 v h.blk, hcs]
    lowG := h.lowG }
/-- The reference's list in another's place. -/
theorem Wr.setM {B : Nat} {w : World} {s : St} (h : Wr B w s) (b : Bool) {pq : Option Addr} {pc : Nat} {m' : List Pt} (hm : SlOf encP 2 w pq pc m') (hlt : ∀ a, pq = some a → a.block < w.heap.size) (hsep : ∀ x, Sep pq (s.q x)) : Wr B w { s with p := upd s.p b pq, c := upd s.c b pc, m := upd s.m b m' } :=
  { h with
    ref := fun x => by
      by_cases e : x = b
      · subst e; simp only [upd_same]; exact hm
      · simp only [upd_other _ _ e]; exact h.ref x
    qp := fun x y => by
      show Sep (upd s.p b pq y) (s.q x)
      by_cases e : y = b
      · subst e; rw [upd_same]; exact hsep x
      · rw [upd_other _ _ e]; exact h.qp x y
    plt := fun y a ea => by
      have ea : upd s.p b pq y = some a := ea
      by_cases e : y = b
      · subst e; rw [upd_same] at ea; exact hlt a ea
      · rw [upd_other _ _ e] at ea; exact h.plt y a ea }
/-- Another list in a list's place. -/
theorem Wr.setL {B : Nat} {w : World} {s : St} (h : Wr B w s) (b : Bool) {L' : Nat} {q' : Option Addr} {cap' : Nat} {l' : List Pt} (hl : Lst w B L' q' cap' l') (hB : B ≤ L') (hst : Str l') (hne : ∀ x, s.L x ≠ L') (hq : ∀ x, Sep (s.q x) q') (hp : ∀ x, Sep (s.p x) q') (hr : Sep s.pr q') (hc : Sep s.qc q') : Wr B w { s with L := upd s.L b L', q := upd s.q b q', cap := upd s.cap b cap', l := upd s.l b l' } :=
  { h with
    lst := fun x => by
      by_cases e : x = b
      · subst e; simp only [upd_same]; exact hl
      · simp only [upd_other _ _ e]; exact h.lst x
    lowL := fun x => by
      show B ≤ upd s.L b L' x
      by_cases e : x = b
      · subst e; rw [upd_same]; exact hB
      · rw [upd_other _ _ e]; exact h.lowL x
    str := fun x => by
      show Str (upd s.l b l' x)
      by_cases e : x = b
      · subst e; rw [upd_same]; exact hst
      · rw [upd_other _ _ e]; exact h.str x
    ne := by
      cases b with
      | false => exact Ne.symm (hne true)
      | true => exact hne false
    qq := by
      cases b with
      | false => exact (hq true).symm'
      | true => exact hq false
    qp := fun x y => by
      show Sep (s.p y) (upd s.q b q' x)
      by_cases e : x = b
      · subst e; rw [upd_same]; exact hp y
      · rw [upd_other _ _ e]; exact h.qp x y
    qr := fun x => by
      show Sep s.pr (upd s.q b q' x)
      by_cases e : x = b
      · subst e; rw [upd_same]; exact hr
      · rw [upd_other _ _ e]; exact h.qr x
    pre := fun x => by
      show (upd s.q b q' x = s.qc ∧ s.lc <+: upd s.l b l' x) ∨ Sep s.qc (upd s.q b q' x)
      by_cases e : x = b
      · subst e; rw [upd_same]; exact Or.inr hc
      · rw [upd_other _ _ e, upd_other _ _ e]; exact h.pre x }
/-- Cursors anew, over one list. -/
theorem Wr.setC {B : Nat} {w : World} {s : St} (h : Wr B w s) (b : Bool) {C R : Nat} {pr : Option Addr} {cr : Nat} (hC : B ≤ C) (hR : B ≤ R) (hc : Cur w C (s.q b) (s.l b).length (s.cap b) 0) (hr : RCur w R pr (s.l b).length cr 0) (hrl : SlOf encP 2 w pr cr (s.l b)) (hsep : ∀ x, Sep pr (s.q x)) (hlt : ∀ a, pr = some a → a.block < w.heap.size) : Wr B w { s with C := C, R := R, lc := s.l b, kc := 0, kr := 0, qc := s.q b, capc := s.cap b, pr := pr, cr := cr } :=
  { h with
    lowC := hC
    lowR := hR
    cur := hc
    curl := (h.lst b).2.ls
    curb := (h.lst b).2.base
    curs := h.str b
    kcl := Nat.zero_le _
    krl := Nat.zero_le _
    rc := hr
    rcl := hrl
    qr := hsep
    pre := fun x => by
      by_cases e : x = b
      · subst e; exact Or.inl ⟨rfl, List.prefix_refl _⟩
      · refine Or.inr ?_
        show Sep (s.q b) (s.q x)
        cases b <;> cases x <;> first | exact absurd rfl e | exact h.qq | exact h.qq.symm'
    rlt := hlt
    clt := fun a e => own_lt (h.lst b).2 a e }
end Go.Proofs.Ytelgpmjafaopmaa

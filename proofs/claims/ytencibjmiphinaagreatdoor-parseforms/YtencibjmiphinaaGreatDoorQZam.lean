/- A list of trees that grows by append: what lies outside its own block stays. -/
import Derived.Test.YtencibjmiphinaaGreatDoorQMemNode
import Derived.Test.YtencibjmiphinaaGreatDoorQZak
import Derived.Test.YtencibjmiphinaaGreatDoorQZaj
namespace Go.Proofs.YtencibjmiphinaaGreatDoor
open Go.RowKit Go.Sort

/-- P holds here, and wherever, from the block B on, only the block g was written since. -/
def OffP (B : Nat) (P : World → Prop) (g : Option Nat) (w : World) : Prop := ∀ w' : World, w.heap.size ≤ w'.heap.size → (∀ b o, B ≤ b → b < w.heap.size → some b ≠ g → w'.cell? ⟨b, o, none⟩ = w.cell? ⟨b, o, none⟩) → P w'
theorem OffP.now {B : Nat} {P : World → Prop} {g : Option Nat} {w : World} (h : OffP B P g w) : P w := h w (Nat.le_refl _) fun _ _ _ _ _ => rfl
theorem OffP.imp {B : Nat} {P Q : World → Prop} {g : Option Nat} {w : World} (h : OffP B P g w) (hi : ∀ w, P w → Q w) : OffP B Q g w := fun w' hs hc => hi _ (h w' hs hc)
theorem OffP.and {B : Nat} {P Q : World → Prop} {g : Option Nat} {w : World} (h : OffP B P g w) (k : OffP B Q g w) : OffP B (fun w => P w ∧ Q w) g w := fun w' hs hc => ⟨h w' hs hc, k w' hs hc⟩
theorem OffP.below {B : Nat} {P : World → Prop} {g : Option Nat} {w w' : World} (h : OffP B P g w) (hb : Below w.heap.size w w') : OffP B P g w' := fun w'' hs hc =>
  h w'' (Nat.le_trans hb.size hs) fun b o hB hlt hne => (hc b o hB (Nat.lt_of_lt_of_le hlt hb.size) hne).trans (hb.cell (p := ⟨b, o, none⟩) hlt)
theorem OffP.step {B : Nat} {P : World → Prop} {g g' : Option Nat} {w w' : World} (h : OffP B P g w) (hg : w.grownBy w' g) (hor : g' = g ∨ g' = some w.heap.size) : OffP B P g' w' := fun w'' hs hc =>
  h w'' (Nat.le_trans hg.size hs) fun b o hB hlt hne => (hc b o hB (Nat.lt_of_lt_of_le hlt hg.size) (hor.elim (fun e => by rw [e]; exact hne) (fun e => by rw [e]; intro e2; cases e2; omega))).trans (World.cell?_of_block (w := w) (a := ⟨b, o, none⟩) (hg.block b hlt hne))
theorem OffP.set {B : Nat} {P : World → Prop} {g : Option Nat} {w : World} (h : OffP B P g w) {p : Addr} (hp : p.block < B) (u : Value) : OffP B P g (w.setCell p u) := fun w'' hs hc =>
  h w'' (by simpa using hs) fun b o hB hlt hne => (hc b o hB (by simpa using hlt) hne).trans (World.cell?_of_block (w := w) (a := ⟨b, o, none⟩) (Below.heap_setCell w p u b (by show b ≠ p.block; omega)))
theorem OffP.spin {B : Nat} {w : World} {C : Nat} {v : Nv} {x : Nd} {g : Option Nat} (h : SpIn w C v x) (hB : B ≤ C) (hg : ∀ b, g = some b → b < C) : OffP B (fun w => SpIn w C v x) g w := fun _ hs hc =>
  h.up ⟨hs, fun b o hb hlt => hc b o (by omega) hlt fun e => by have := hg b e.symm; omega⟩
theorem OffP.from {B : Nat} {w : World} {C : Nat} {v : Nv} {x : Nd} {g : Option Nat} (h : NdFrom w C v x) (hB : B ≤ C) (hg : ∀ b, g = some b → b < C) : OffP B (fun w => NdFrom w C v x) g w := fun _ hs hc =>
  h.up ⟨hs, fun b o hb hlt => hc b o (by omega) hlt fun e => by have := hg b e.symm; omega⟩
theorem snoc_all {Q : Nv → Nd → Prop} {kids : List Nd} {us : List Nv} {v : Nv} {x : Nd} {k : Nat} (h : ∀ (j : Nat) (v : Nv) (x : Nd), us[j]? = some v → kids[j]? = some x → Q v x) (hu : us.length = k) (hx : kids[k]? = some x) (sp : Q v x) : ∀ (j : Nat) (y : Nv) (z : Nd), (us ++ [v])[j]? = some y → kids[j]? = some z → Q y z := by
  intro j y z hj hz
  by_cases hjk : j < k
  · rw [List.getElem?_append_left (by omega)] at hj
    exact h j y z hj hz
  · have hj2 := (List.getElem?_eq_some_iff.1 hj).1
    rw [List.length_append, hu] at hj2
    obtain rfl : j = k := by simp at hj2; omega
    rw [List.getElem?_append_right (by omega), hu, Nat.sub_self] at hj
    rw [hx] at hz
    cases hj
    cases hz
    exact sp
def MineIn (B : Nat) (kids : List Nd) (us : List Nv) (w : World) : Prop := ∀ (j : Nat) (v : Nv) (x : Nd), us[j]? = some v → kids[j]? = some x → SpIn w B v x
theorem MineIn.snoc {B : Nat} {kids : List Nd} {us : List Nv} {w : World} {v : Nv} {x : Nd} {k : Nat} (h : MineIn B kids us w) (hu : us.length = k) (hx : kids[k]? = some x) (sp : SpIn w B v x) : MineIn B kids (us ++ [v]) w := snoc_all h hu hx sp
theorem MineIn.nds {B B' : Nat} {kids : List Nd} {us : List Nv} {w : World} {q : Option Addr} {c : Nat} (h : MineIn B kids us w) (ho : OwnK encV 29 8 B' w q c us) (hl : us.length = kids.length) : NdsOf w q c kids :=
  ⟨us, ho.ls, hl, fun j v x hj hx => (h j v x hj hx).toIn⟩
def FromIn (B : Nat) (kids : List Nd) (us : List Nv) (w : World) : Prop := ∀ (j : Nat) (v : Nv) (x : Nd), us[j]? = some v → kids[j]? = some x → NdFrom w B v x
theorem OwnK.ownLt {B c k : Nat} {w : World} {q : Option Addr} {l : List Nv} (h : OwnK encV 29 8 B w q c l) (hl : l.length = k) : ∀ b, (Value.slice q k c).ownBlock = some b → b < w.heap.size := fun b e => by
  subst hl
  exact (World.ownsRow.lt h b e).2
theorem OwnK.ownGe {B c k : Nat} {w : World} {q : Option Addr} {l : List Nv} (h : OwnK encV 29 8 B w q c l) (hl : l.length = k) : ∀ b, (Value.slice q k c).ownBlock = some b → B ≤ b := fun b e => by
  subst hl
  exact (World.ownsRow.lt h b e).1
section
variable {α : Type} [Inhabited α] {enc : α → List Value} {t e : TypeId} {k bytes : Nat}
/-- append, with where the answer's block is. -/
theorem wp_appG (R : RowOf enc t e k bytes) {o : Oper} {a : Act} {w : World} {K : Act → World → Prop} {Q : Exit → Act → World → Prop} (s x : Operand)
    (ho : o.op = .call { callee := .builtin .append, args := #[s, x], argTypes := #[t, t] }) (B : Nat) (q : Option Addr) (cap : Nat) (l : List α) (ad : Addr) (c : Nat) (m : List α) (n n' N : Nat) (hn : l.length = n) (hn' : m.length = n') (hN : n + n' = N)
    (es : a.eval s = .slice q n cap) (ex : a.eval x = .slice (some ad) n' c) (hown : OwnK enc e k B w q cap l) (hs : SrcK enc k w (some ad) c m) (hm : N ≤ maxLen) (hb : N * bytes ≤ 140737488355328) (hB : B ≤ w.heap.size)
    (h : ∀ q' cap' w', OwnK enc e k B w' q' cap' (l ++ m) → Below B w w' → w.grownBy w' (Value.slice q n cap).ownBlock → ((Value.slice q' N cap').ownBlock = (Value.slice q n cap).ownBlock ∨ (Value.slice q' N cap').ownBlock = some w.heap.size) → K (a.put o.dst (.slice q' N cap')) w') : o.wp Tryz.prog a w K Q := by
  subst hn hn' hN
  obtain ⟨i0, z, hi, hz, hsz, hby, hzs⟩ := R.info
  obtain ⟨v', w', hr, hO, hg, hnil, hor⟩ := run_append_own_at (P := Tryz.prog) w B t o.type e i0 z k bytes R.und hi hz hsz hby hzs R.pos _ _ _ hown ad m.length c (flatK enc k m.toArray).toList (by simp) (hs.2 ad rfl) (R.one m) hm hb hB
  obtain ⟨q', cap', rfl, hq⟩ := OwnK.shape hO
  unfold Oper.wp execOp
  simp only [ho, resolve, invoke, builtin, Sem.run_bind, Sem.run_pure, Result.andThen_ok, List.map_toArray, List.map_cons, List.map_nil, es, ex, hr]
  refine h q' cap' w' ?_ ((Below.refl _ _).grown hg hB fun j hj => (World.ownsRow.lt hown j hj).1) hg hor
  unfold OwnK
  rw [flat_app enc k R.pos, List.length_append]
  exact hO
theorem wpList_appG (R : RowOf enc t e k bytes) {ops : Array Oper} {rest : List Oper} {o : Oper} {a : Act} {w : World} {Q : Exit → Act → World → Prop} (hgd : o.guard = none) (s x : Operand)
    (ho : o.op = .call { callee := .builtin .append, args := #[s, x], argTypes := #[t, t] }) (B : Nat) (q : Option Addr) (cap : Nat) (l : List α) (ad : Addr) (c : Nat) (m : List α) (n n' N : Nat) (hn : l.length = n) (hn' : m.length = n') (hN : n + n' = N)
    (es : a.eval s = .slice q n cap) (ex : a.eval x = .slice (some ad) n' c) (hown : OwnK enc e k B w q cap l) (hs : SrcK enc k w (some ad) c m) (hm : N ≤ maxLen) (hb : N * bytes ≤ 140737488355328) (hB : B ≤ w.heap.size)
    (h : ∀ q' cap' w', OwnK enc e k B w' q' cap' (l ++ m) → Below B w w' → w.grownBy w' (Value.slice q n cap).ownBlock → ((Value.slice q' N cap').ownBlock = (Value.slice q n cap).ownBlock ∨ (Value.slice q' N cap').ownBlock = some w.heap.size) → wpList Tryz.prog ops Q rest (a.put o.dst (.slice q' N cap')) w') : wpList Tryz.prog ops Q (o :: rest) a w :=
  wpList_plain hgd fun _ hK => wp_appG R s x ho B q cap l ad c m n n' N hn hn' hN es ex hown hs hm hb hB fun q' cap' w' h2 h3 h4 h5 => hK _ _ (h q' cap' w' h2 h3 h4 h5)
theorem step_appG (R : RowOf enc t e k bytes) {ops : Array Oper} {o : Oper} {a : Act} {w : World} {K : Act → World → Prop} {Q : Exit → Act → World → Prop} {E : Prop} (hgd : o.guard = none) (s x : Operand)
    (ho : o.op = .call { callee := .builtin .append, args := #[s, x], argTypes := #[t, t] }) (B : Nat) (q : Option Addr) (cap : Nat) (l : List α) (ad : Addr) (c : Nat) (m : List α) (n n' N : Nat) (hn : l.length = n) (hn' : m.length = n') (hN : n + n' = N)
    (es : a.eval s = .slice q n cap) (ex : a.eval x = .slice (some ad) n' c) (hown : OwnK enc e k B w q cap l) (hs : SrcK enc k w (some ad) c m) (hm : N ≤ maxLen) (hb : N * bytes ≤ 140737488355328) (hB : B ≤ w.heap.size)
    (h : ∀ q' cap' w', OwnK enc e k B w' q' cap' (l ++ m) → Below B w w' → w.grownBy w' (Value.slice q n cap).ownBlock → ((Value.slice q' N cap').ownBlock = (Value.slice q n cap).ownBlock ∨ (Value.slice q' N cap').ownBlock = some w.heap.size) → K (a.put o.dst (.slice q' N cap')) w') :
    if Region.wanted o (yielded ops a.tmps) = true then Oper.wp Tryz.prog o a w K Q else E := by
  have hw : Region.wanted o (yielded ops a.tmps) = true := by simp [Region.wanted, hgd]
  rw [if_pos hw]
  exact wp_appG R s x ho B q cap l ad c m n n' N hn hn' hN es ex hown hs hm hb hB h
end
end Go.Proofs.YtencibjmiphinaaGreatDoor
namespace Go.Proofs.YtencibjmiphinaaGreatDoor
open Go.RowKit

/-- How many tokens are left, read off the box. -/
def lnAt (g : Nat) (w : World) : Nat := match w.cell? ⟨g, 0, none⟩ with
  | some (.slice _ n _) => n
  | _ => 0
theorem Ps.ln {w : World} {g : Nat} {en : Int} {l : List Tk} (h : Ps w g en l) : lnAt g w = l.length := by
  obtain ⟨q, c, h0, _⟩ := h
  unfold lnAt; rw [(of2 h0).1]
theorem OffP.far {B g : Nat} {P : World → Prop} {o : Option Nat} {w w' : World} (h : OffP B P o w) (hg : w.grownBy w' (some g)) (hB : g < B) : OffP B P o w' := fun w'' hs hc =>
  h w'' (Nat.le_trans hg.size hs) fun b ofs hb hlt hne => (hc b ofs hb (Nat.lt_of_lt_of_le hlt hg.size) hne).trans (hg.cell_far ⟨b, ofs, none⟩ hlt (fun e => by have e2 : b = g := (by simpa using e); omega))
theorem own_far {α : Type} [Inhabited α] {enc : α → List Value} {e : TypeId} {k B g : Nat} {w w' : World} {q : Option Addr} {c : Nat} {l : List α} (h : OwnK enc e k B w q c l) (hg : w.grownBy w' (some g)) (hB : g < B) : OwnK enc e k B w' q c l := by
  refine World.ownsRow.kept h hg ?_
  cases e : (Value.slice q l.length c).ownBlock with
  | none => exact Or.inl rfl
  | some b => right; intro e2; have := (World.ownsRow.lt h _ e).1; cases e2; omega
theorem FromIn.snoc {B : Nat} {ks : List Nd} {us : List Nv} {w : World} {v : Nv} {x : Nd} (h : FromIn B ks us w) (hl : us.length = ks.length) (hv : NdFrom w B v x) : FromIn B (ks ++ [x]) (us ++ [v]) w := by
  intro j y z hj hz
  by_cases hlt : j < us.length
  · rw [List.getElem?_append_left hlt] at hj
    rw [List.getElem?_append_left (by omega)] at hz
    exact h j y z hj hz
  · rw [List.getElem?_append_right (by omega)] at hj
    rw [List.getElem?_append_right (by omega)] at hz
    have e1 : j - us.length = 0 := by
      have := (List.getElem?_eq_some_iff.1 hj).1
      simp at this; omega
    rw [e1] at hj
    rw [← hl, e1] at hz
    cases hj; cases hz; exact hv
theorem oneV {w : World} {b : Nat} {v : Nv} (h : w.heap[b]? = some (.cells #[.int .i64 v.kind, .string v.attr, .slice v.qi v.ni v.ci, .slice v.qw v.nw v.cw, .int .i64 v.lo, .int .i64 v.hi, .int .i64 v.op, .slice v.qk v.nk v.ck] 29)) : SrcK encV 8 w (some ⟨b, 0, none⟩) 1 [v] := by
  obtain ⟨c0, c1, c2, c3, c4, c5, c6, c7⟩ := of8' h
  refine LsOf.src (fun h => by cases h) (LsOf.one (Array.getElem?_eq_some_iff.1 h).1 (fun c hc => ?_))
  match c, hc with
  | 0, _ => exact c0
  | 1, _ => exact c1
  | 2, _ => exact c2
  | 3, _ => exact c3
  | 4, _ => exact c4
  | 5, _ => exact c5
  | 6, _ => exact c6
  | 7, _ => exact c7
/-- The kids so far: their row, and their trees. -/
def Kd (B : Nat) (ks : List Nd) (q : Option Addr) (c : Nat) (w : World) : Prop := ∃ us, us.length = ks.length ∧ OwnK encV 29 8 B w q c us ∧ OffP B (FromIn B ks us) (Value.slice q ks.length c).ownBlock w
theorem Kd.far {B g : Nat} {ks : List Nd} {q : Option Addr} {c : Nat} {w w' : World} (h : Kd B ks q c w) (hg : w.grownBy w' (some g)) (hB : g < B) : Kd B ks q c w' := by
  obtain ⟨us, h1, h2, h3⟩ := h
  exact ⟨us, h1, own_far h2 hg hB, h3.far hg hB⟩
theorem Kd.nil (B : Nat) (w : World) : Kd B [] none 0 w := ⟨[], rfl, OwnK.nil _ _, fun _ _ _ j v x h => by simp at h⟩
/-- The first one: a list literal of one. -/
theorem Kd.one {B : Nat} {v : Nv} {x : Nd} {w : World} (hv : NdFrom w B v x) (hB : B ≤ w.heap.size) : Kd B [x] (some ⟨w.heap.size, 0, none⟩) 1 (w.alloc (.cells #[.int .i64 v.kind, .string v.attr, .slice v.qi v.ni v.ci, .slice v.qw v.nw v.cw, .int .i64 v.lo, .int .i64 v.hi, .int .i64 v.op, .slice v.qk v.nk v.ck] 29)) := by
  have hb := box_nw w (.cells #[.int .i64 v.kind, .string v.attr, .slice v.qi v.ni v.ci, .slice v.qw v.nw v.cw, .int .i64 v.lo, .int .i64 v.hi, .int .i64 v.op, .slice v.qk v.nk v.ck] 29)
  refine ⟨[v], rfl, ?_, ?_⟩
  · unfold OwnK; exact ⟨by simp, Or.inr ⟨w.heap.size, 1, _, rfl, hB, hb, Nat.le_refl _, by unfold maxLen; omega, rfl, by simp only [Go.Sort.flatK, Array.toList_map, Array.toList_range]; simp [List.range, List.range.loop, encV]⟩⟩
  · intro w' hs hc j y z hj hz
    cases j with
    | succ j => simp at hj
    | zero =>
      cases hj; cases hz
      refine hv.up ⟨by simp at hs; omega, fun b o h1 h2 => (hc b o h1 (by simp; omega) (fun e => ?_)).trans (Below.cell ((Below.refl w.heap.size w).alloc (Nat.le_refl _) _) (p := ⟨b, o, none⟩) h2)⟩
      simp [Value.ownBlock] at e; omega
theorem chG_none {s : ByteArray} {f : List Tk → Rs Nd} {n : Nat} {ks : List Nd} {l : List Tk} (h : skL s l = none) : chG s f (n + 1) ks l = .ok ks l := by simp only [chG, h]
theorem chG_bad {s : ByteArray} {f : List Tk → Rs Nd} {n : Nat} {ks : List Nd} {l r : List Tk} {p : Int} (h : skL s l = some r) (hf : f r = .bad p) : chG s f (n + 1) ks l = .bad p := by simp only [chG, h, hf]
theorem chG_more {s : ByteArray} {f : List Tk → Rs Nd} {n : Nat} {ks : List Nd} {l r r' : List Tk} {x : Nd} (h : skL s l = some r) (hf : f r = .ok x r') : chG s f (n + 1) ks l = chG s f n (ks ++ [x]) r' := by simp only [chG, h, hf]
/-- The loop stands at l, the operands so far are ks. -/
def Ch (s : ByteArray) (f : List Tk → Rs Nd) (l0 : List Tk) (x0 : Nd) (r0 : List Tk) (ks : List Nd) (l : List Tk) : Prop := f l0 = .ok x0 r0 ∧ ∃ n, l.length ≤ n ∧ chG s f (r0.length + 1) [x0] r0 = chG s f (n + 1) ks l
theorem Ch.first {s : ByteArray} {f : List Tk → Rs Nd} {l r : List Tk} {x : Nd} (h : f l = .ok x r) : Ch s f l x r [x] r := ⟨h, r.length, Nat.le_refl _, rfl⟩
theorem Ch.more {s : ByteArray} {f : List Tk → Rs Nd} {l0 r0 l r r' : List Tk} {x0 x : Nd} {ks : List Nd} (a : Ch s f l0 x0 r0 ks l) (h : skL s l = some r) (hf : f r = .ok x r') (hl : r'.length ≤ r.length) : Ch s f l0 x0 r0 (ks ++ [x]) r' := by
  obtain ⟨h0, n, h1, h2⟩ := a
  have e1 := skL_len h
  obtain ⟨m, rfl⟩ : ∃ m, n = m + 1 := ⟨n - 1, by omega⟩
  exact ⟨h0, m, by omega, h2.trans (chG_more h hf)⟩
theorem Ch.bad {s : ByteArray} {f : List Tk → Rs Nd} {op : Int} {l0 r0 l r : List Tk} {x0 : Nd} {ks : List Nd} {p : Int} (a : Ch s f l0 x0 r0 ks l) (h : skL s l = some r) (hf : f r = .bad p) : chL op s f l0 = .bad p := by
  obtain ⟨h0, n, h1, h2⟩ := a
  simp only [chL, h0, h2.trans (chG_bad h hf)]
theorem Ch.done {s : ByteArray} {f : List Tk → Rs Nd} {op : Int} {l0 r0 l : List Tk} {x0 : Nd} {ks : List Nd} (a : Ch s f l0 x0 r0 ks l) (h : skL s l = none) : chL op s f l0 = .ok (jnT op ks) l := by
  obtain ⟨h0, n, h1, h2⟩ := a
  simp only [chL, h0, h2.trans (chG_none h)]
end Go.Proofs.YtencibjmiphinaaGreatDoor
namespace Go.Proofs.YtencibjmiphinaaGreatDoor
open Go.RowKit Go.Sort

theorem of6r {w : World} {M : Nat} {a0 a1 a2 a3 a4 a5 : Value} {T : TypeId} (h : w.heap[M]? = some (.cells #[a0, a1, a2, a3, a4, a5] T (0, 0))) : w.cell? ⟨M, 0, none⟩ = some a0 ∧ w.cell? ⟨M, 1, none⟩ = some a1 ∧ w.cell? ⟨M, 2, none⟩ = some a2 ∧ w.cell? ⟨M, 3, none⟩ = some a3 ∧ w.cell? ⟨M, 4, none⟩ = some a4 ∧ w.cell? ⟨M, 5, none⟩ = some a5 ∧ (∀ o, w.frozen? ⟨M, o, none⟩ = false) ∧ M < w.heap.size := by
  refine ⟨by unfold World.cell?; simp [h], by unfold World.cell?; simp [h], by unfold World.cell?; simp [h], by unfold World.cell?; simp [h], by unfold World.cell?; simp [h], by unfold World.cell?; simp [h], fun o => by unfold World.frozen?; simp [h], (Array.getElem?_eq_some_iff.1 h).1⟩
/-- A rule under way: the reader, the result's box (at w's end) and the predicate's box b. -/
structure PS (w : World) (g : Nat) (L : List Tk) (i : Nat) (bad : Bool) (b : Nat) (p0 p1 p2 p3 p4 p5 : Value) (W : World) : Prop where
  rx : Rx g L i bad w W
  res : W.heap[w.heap.size]? = some (.cells #[.int .i64 0, .string ⟨#[]⟩, .slice none 0 0, .slice none 0 0, .int .i64 0, .int .i64 0] 26 (0, 0))
  box : W.heap[b]? = some (.cells #[p0, p1, p2, p3, p4, p5] 26 (0, 0))
  lt : g < w.heap.size
  lb : w.heap.size < b
section
variable {w W W' : World} {g i i' b : Nat} {L : List Tk} {bad bad' : Bool} {p0 p1 p2 p3 p4 p5 : Value}
theorem PS.call (h : PS w g L i bad b p0 p1 p2 p3 p4 p5 W) (k : Rx g L i' bad' W W') : PS w g L i' bad' b p0 p1 p2 p3 p4 p5 W' :=
  ⟨h.rx.trans k, blk_far2 h.res k.2 (by have := h.lt; omega), blk_far2 h.box k.2 (by have := h.lt; have := h.lb; omega), h.lt, h.lb⟩
theorem PS.bel (h : PS w g L i bad b p0 p1 p2 p3 p4 p5 W) (k : RowKit.Below W.heap.size W W') : PS w g L i bad b p0 p1 p2 p3 p4 p5 W' :=
  ⟨h.rx.bel k, (k.block _ (Array.getElem?_eq_some_iff.1 h.res).1).trans h.res, (k.block _ (Array.getElem?_eq_some_iff.1 h.box).1).trans h.box, h.lt, h.lb⟩
theorem PS.al (h : PS w g L i bad b p0 p1 p2 p3 p4 p5 W) (o : Obj) : PS w g L i bad b p0 p1 p2 p3 p4 p5 (W.alloc o) := h.bel ((RowKit.Below.refl _ _).alloc (Nat.le_refl _) o)
theorem PS.hp (h : PS w g L i bad b p0 p1 p2 p3 p4 p5 W) (e : W'.heap = W.heap) (k : RowKit.Below W.heap.size W W') : PS w g L i bad b p0 p1 p2 p3 p4 p5 W' := (fun _ => h.bel k) e
theorem PS.put (h : PS w g L i bad b p0 p1 p2 p3 p4 p5 W) (j : Nat) (v : Value) {q0 q1 q2 q3 q4 q5 : Value} (e : (#[p0, p1, p2, p3, p4, p5] : Array Value).setIfInBounds j v = #[q0, q1, q2, q3, q4, q5]) : PS w g L i bad b q0 q1 q2 q3 q4 q5 (W.setCell ⟨b, j, none⟩ v) := by
  have hb := h.lb
  have hs := (Array.getElem?_eq_some_iff.1 h.res).1
  have k : RowKit.Below (w.heap.size + 1) W (W.setCell ⟨b, j, none⟩ v) := (RowKit.Below.refl _ _).setCell (by show w.heap.size + 1 ≤ b; omega) v
  refine ⟨⟨h.rx.1.low fun n hn => k.block n (by have := h.lt; omega), ?_⟩, (k.block _ (by omega)).trans h.res, ?_, h.lt, h.lb⟩
  · exact ⟨k.os.trans h.rx.2.os, k.tape.trans h.rx.2.tape, k.output.trans h.rx.2.output, Nat.le_trans h.rx.2.size (by simp), fun n hn hr => (k.block n (by omega)).trans (h.rx.2.block n hn hr)⟩
  · rw [heap_set, h.box]
    show some (Obj.cells ((#[p0, p1, p2, p3, p4, p5] : Array Value).setIfInBounds j v) 26 (0, 0)) = _
    rw [e]
theorem PS.st0 (h : PS w g L i bad b p0 p1 p2 p3 p4 p5 W) (v : Value) : PS w g L i bad b v p1 p2 p3 p4 p5 (W.setCell ⟨b, 0, none⟩ v) := h.put 0 v rfl
theorem PS.st2 (h : PS w g L i bad b p0 p1 p2 p3 p4 p5 W) (v : Value) : PS w g L i bad b p0 p1 v p3 p4 p5 (W.setCell ⟨b, 2, none⟩ v) := h.put 2 v rfl
theorem PS.st3 (h : PS w g L i bad b p0 p1 p2 p3 p4 p5 W) (v : Value) : PS w g L i bad b p0 p1 p2 v p4 p5 (W.setCell ⟨b, 3, none⟩ v) := h.put 3 v rfl
theorem PS.st4 (h : PS w g L i bad b p0 p1 p2 p3 p4 p5 W) (v : Value) : PS w g L i bad b p0 p1 p2 p3 v p5 (W.setCell ⟨b, 4, none⟩ v) := h.put 4 v rfl
theorem PS.st5 (h : PS w g L i bad b p0 p1 p2 p3 p4 p5 W) (v : Value) : PS w g L i bad b p0 p1 p2 p3 p4 v (W.setCell ⟨b, 5, none⟩ v) := h.put 5 v rfl
theorem Rd.inc {w : World} {g i : Nat} {L : List Tk} {bad : Bool} (h : Rd w g L i bad) (hi : i + 1 ≤ L.length) : Rx g L (i + 1) bad w (w.setCell ⟨g, 1, none⟩ (.int .i64 ((i : Int) + 1))) := by
  have := h.put1 hi
  have e : ((i + 1 : Nat) : Int) = (i : Int) + 1 := by omega
  rw [e] at this; exact this
theorem PS.inc (h : PS w g L i bad b p0 p1 p2 p3 p4 p5 W) (hi : i + 1 ≤ L.length) : PS w g L (i + 1) bad b p0 p1 p2 p3 p4 p5 (W.setCell ⟨g, 1, none⟩ (.int .i64 ((i : Int) + 1))) := h.call (h.rx.1.inc hi)
theorem PS.stB (h : PS w g L i bad b p0 p1 p2 p3 p4 p5 W) (v : Bool) : PS w g L i v b p0 p1 p2 p3 p4 p5 (W.setCell ⟨g, 2, none⟩ (.bool v)) := h.call (h.rx.1.put2 v)
theorem PS.cells (h : PS w g L i bad b p0 p1 p2 p3 p4 p5 W) : (W.cell? ⟨b, 0, none⟩ = some p0 ∧ W.cell? ⟨b, 1, none⟩ = some p1 ∧ W.cell? ⟨b, 2, none⟩ = some p2 ∧ W.cell? ⟨b, 3, none⟩ = some p3 ∧ W.cell? ⟨b, 4, none⟩ = some p4 ∧ W.cell? ⟨b, 5, none⟩ = some p5 ∧ (∀ o, W.frozen? ⟨b, o, none⟩ = false) ∧ b < W.heap.size) ∧
    (W.cell? ⟨w.heap.size, 0, none⟩ = some (.int .i64 0) ∧ W.cell? ⟨w.heap.size, 1, none⟩ = some (.string ⟨#[]⟩) ∧ W.cell? ⟨w.heap.size, 2, none⟩ = some (.slice none 0 0) ∧ W.cell? ⟨w.heap.size, 3, none⟩ = some (.slice none 0 0) ∧ W.cell? ⟨w.heap.size, 4, none⟩ = some (.int .i64 0) ∧ W.cell? ⟨w.heap.size, 5, none⟩ = some (.int .i64 0) ∧ (∀ o, W.frozen? ⟨w.heap.size, o, none⟩ = false) ∧ w.heap.size < W.heap.size) ∧
    W.cell? ⟨g, 1, none⟩ = some (.int .i64 i) ∧ W.cell? ⟨g, 2, none⟩ = some (.bool bad) ∧ (∀ o, W.frozen? ⟨g, o, none⟩ = false) := by
  obtain ⟨q, c, h0, _⟩ := h.rx.1
  obtain ⟨_, c1, c2, hf, _⟩ := of3 h0
  exact ⟨of6r h.box, of6r h.res, c1, c2, hf⟩
theorem set6_up (W : World) (B : Nat) (M : Nat) (hM : M < B) (a0 a1 a2 a3 a4 a5 : Value) : RowKit.Below M W ((((((W.setCell ⟨M, 0, none⟩ a0).setCell ⟨M, 1, none⟩ a1).setCell ⟨M, 2, none⟩ a2).setCell ⟨M, 3, none⟩ a3).setCell ⟨M, 4, none⟩ a4).setCell ⟨M, 5, none⟩ a5) ∧ SameUp B W ((((((W.setCell ⟨M, 0, none⟩ a0).setCell ⟨M, 1, none⟩ a1).setCell ⟨M, 2, none⟩ a2).setCell ⟨M, 3, none⟩ a3).setCell ⟨M, 4, none⟩ a4).setCell ⟨M, 5, none⟩ a5) := by
  refine ⟨((((((RowKit.Below.refl _ _).setCell (Nat.le_refl M) _).setCell (Nat.le_refl M) _).setCell (Nat.le_refl M) _).setCell (Nat.le_refl M) _).setCell (Nat.le_refl M) _).setCell (Nat.le_refl M) _, by simp, fun b o hb hl => ?_⟩
  have e : b ≠ M := by omega
  rw [set_other _ e, set_other _ e, set_other _ e, set_other _ e, set_other _ e, set_other _ e]
theorem PS.start (hg : g < w.heap.size) (h : Rx g L i bad (w.alloc (.cells #[.int .i64 0, .string ⟨#[]⟩, .slice none 0 0, .slice none 0 0, .int .i64 0, .int .i64 0] 26)) W) (x : ByteArray) : PS w g L i bad W.heap.size (.int .i64 0) (.string x) (.slice none 0 0) (.slice none 0 0) (.int .i64 0) (.int .i64 0) (W.alloc (.cells #[.int .i64 0, .string x, .slice none 0 0, .slice none 0 0, .int .i64 0, .int .i64 0] 26)) := by
  have hs := h.2.size
  simp at hs
  have k : RowKit.Below w.heap.size w (w.alloc (.cells #[.int .i64 0, .string ⟨#[]⟩, .slice none 0 0, .slice none 0 0, .int .i64 0, .int .i64 0] 26)) := (RowKit.Below.refl _ _).alloc (Nat.le_refl _) _
  have k2 : RowKit.Below W.heap.size W (W.alloc (.cells #[.int .i64 0, .string x, .slice none 0 0, .slice none 0 0, .int .i64 0, .int .i64 0] 26)) := (RowKit.Below.refl _ _).alloc (Nat.le_refl _) _
  exact ⟨⟨h.1.below k2, ((grown_bel k _).trans h.2).trans (grown_bel k2 _)⟩, (k2.block _ (by omega)).trans (blk_far2 (box_nw w _) h.2 (by omega)), box_nw _ _, hg, hs⟩
end
/-- What the predicate's rule leaves: a predicate, and the reader's state. -/
def PvR (g : Nat) (L : List Tk) (w : World) (x : Nd) (i' : Nat) (b' : Bool) (e : Ending) (w' : World) : Prop :=
  ∃ v : Nv, e = .returned (.agg #[.int .i64 v.kind, .string v.attr, .slice v.qi v.ni v.ci, .slice v.qw v.nw v.cw, .int .i64 v.lo, .int .i64 v.hi]) ∧ v.op = 1 ∧ v.qk = none ∧ v.nk = 0 ∧ v.ck = 0 ∧ NdFrom w' w.heap.size v x ∧ Rx g L i' b' w w'
theorem own_from {α : Type} [Inhabited α] {enc : α → List Value} {e : TypeId} {k B : Nat} {w : World} {q : Option Addr} {cap : Nat} {l : List α} (h : OwnK enc e k B w q cap l) : ∀ a, q = some a → B ≤ a.block := fun a ha => by
  subst ha
  exact (World.ownsRow.lt h a.block rfl).1
theorem own_pastj {α : Type} [Inhabited α] {enc : α → List Value} {e : TypeId} {k bx : Nat} {w : World} {q : Option Addr} {c : Nat} {l : List α} (h : OwnK enc e k (bx + 1) w q c l) (j : Nat) (v : Value) : OwnK enc e k (bx + 1) (w.setCell ⟨bx, j, none⟩ v) q c l := by
  refine World.ownsRow.kept h (row := some bx) ⟨by simp [World.setCell], by simp [World.setCell], by simp [World.setCell], by simp [World.setCell], fun k hk hr => Below.heap_setCell w ⟨bx, j, none⟩ _ k (fun e => hr (by rw [e]))⟩ ?_
  cases e : (Value.slice q l.length c).ownBlock with
  | none => exact Or.inl rfl
  | some b => right; intro e2; have := (World.ownsRow.lt h _ e).1; cases e2; omega
theorem own_oneS (W : World) (x : ByteArray) (B M : Nat) (hM : W.heap.size = M) (hB : B ≤ M) : OwnK encS 9 1 B (W.alloc (.cells #[.string x] 9)) (some ⟨M, 0, none⟩) 1 [x] := by
  subst hM
  have hb := box_nw W (.cells #[.string x] 9)
  unfold OwnK; exact ⟨by simp, Or.inr ⟨W.heap.size, 1, _, rfl, hB, hb, Nat.le_refl _, by unfold maxLen; omega, rfl, by simp only [Go.Sort.flatK, Array.toList_map, Array.toList_range]; simp [List.range, List.range.loop, encS]⟩⟩
/-- The end: the predicate is copied into the result. -/
theorem PS.fin {w W : World} {g i b : Nat} {L : List Tk} {bad : Bool} {k : Int} {a : ByteArray} {ints : List Int} {words : List ByteArray} {lo hi : Int} {qi qw : Option Addr} {ci cw ni nw : Nat} (h : PS w g L i bad b (.int .i64 k) (.string a) (.slice qi ni ci) (.slice qw nw cw) (.int .i64 lo) (.int .i64 hi) W)
    (hi1 : SlOf encI 1 W qi ci ints) (hn1 : ints.length = ni) (f1 : ∀ x, qi = some x → b + 1 ≤ x.block) (hw1 : SlOf encS 1 W qw cw words) (hn2 : words.length = nw) (f2 : ∀ x, qw = some x → b + 1 ≤ x.block) :
    PvR g L w (.mk k a ints words lo hi 1 []) i bad (.returned (.agg #[.int .i64 k, .string a, .slice qi ni ci, .slice qw nw cw, .int .i64 lo, .int .i64 hi])) ((((((W.setCell ⟨w.heap.size, 0, none⟩ (.int .i64 k)).setCell ⟨w.heap.size, 1, none⟩ (.string a)).setCell ⟨w.heap.size, 2, none⟩ (.slice qi ni ci)).setCell ⟨w.heap.size, 3, none⟩ (.slice qw nw cw)).setCell ⟨w.heap.size, 4, none⟩ (.int .i64 lo)).setCell ⟨w.heap.size, 5, none⟩ (.int .i64 hi)) := by
  subst hn1 hn2
  have hb := h.lb
  have hu := set6_up W (b + 1) w.heap.size (by omega) (.int .i64 k) (.string a) (.slice qi ints.length ci) (.slice qw words.length cw) (.int .i64 lo) (.int .i64 hi)
  refine ⟨⟨k, a, qi, ints.length, ci, qw, words.length, cw, lo, hi, 1, none, 0, 0⟩, rfl, rfl, rfl, rfl, rfl, ?_, ?_⟩
  · exact (NdFrom.make (kids := []) (vs := []) (hi1.up f1 hu.2) f1 (hw1.up f2 hu.2) f2 (SlOf.none _) no_from rfl (fun j v x h => by simp at h)).mono (by omega)
  · exact ⟨h.rx.1.low fun n hn => hu.1.block n (by have := h.lt; omega), ⟨hu.1.os.trans h.rx.2.os, hu.1.tape.trans h.rx.2.tape, hu.1.output.trans h.rx.2.output, Nat.le_trans h.rx.2.size hu.1.size, fun n hn hr => (hu.1.block n hn).trans (h.rx.2.block n hn hr)⟩⟩
theorem bel_zp (w : World) : RowKit.Below w.heap.size w (w.alloc (.cells #[.int .i64 0, .string ⟨#[]⟩, .slice none 0 0, .slice none 0 0, .int .i64 0, .int .i64 0] 26)) := (RowKit.Below.refl _ _).alloc (Nat.le_refl _) _
set_option maxHeartbeats 4000000 in
/-- A name, and a word behind it. -/
theorem pred_word (g : Nat) (L : List Tk) (i i1 i2 i3 : Nat) (b1 b2 b3 : Bool) (t x : Tk) (w : World) (h : Rd w g L i false) (h1 : tkS L 1 i false = (t, i1, b1)) (hk : kdB b1 (L.drop i1) = 3) (h2 : tkS L 3 i1 b1 = (x, i2, b2)) (h3 : sgS L ⟨#[42]⟩ i2 b2 = (i3, b3)) :
    Calls Tryz.prog 101 #[.pointer (some ⟨g, 0, none⟩)] w fun e w' => PvR g L w (.mk 4 t.2.2.2.2 [] [x.2.2.2.2] 0 0 1 []) i3 b3 e w' := by
  have hg := h.lt
  have hf4 := fld4
  have H0 := hide (h.below (bel_zp w))
  have H1 := hide h1
  have H2 := hide h2
  have H3 := hide h3
  have HK := hide hk
  clear h h1 h2 h3 hk
  go_enter Tryz.func101, Tryz.ntmps101
  go_wp2_with first
    | (go_at_call 123; have tst := unhide P2; clear tst; refine (take_st (by decide) ((unhide P2).st0 (.int .i64 4)).rx.1 (unhide H2)).mono ?_; rintro e w3 ⟨rfl, hx⟩; have P3 := hide (((unhide P2).st0 (.int .i64 4)).call hx); obtain ⟨⟨k0, k1, k2, k3, k4, k5, kf, kl⟩, _, _, _, _⟩ := (unhide P3).cells; clear hx; unfold tkV)
    | (go_at_call 123; refine (take_st (by decide) (unhide H0) (unhide H1)).mono ?_; rintro e w1 ⟨rfl, hx⟩; have P1 := hide (PS.start hg hx t.2.2.2.2); clear hx; unfold tkV)
    | (go_at_call 124; refine (kind_r g L i1 b1 _ (unhide P1).rx.1).mono ?_; rintro e w2 ⟨rfl, hb⟩; have P2 := hide ((unhide P1).bel hb); obtain ⟨⟨k0, k1, k2, k3, k4, k5, kf, kl⟩, _, _, _, _⟩ := (unhide P2).cells; clear hb; rw [unhide HK])
    | (go_at_call 100; refine (sign_st (((unhide P3).st3 _).al _).rx.1 (unhide H3)).mono ?_; rintro e w4 ⟨rfl, hx⟩; have P4 := hide ((((unhide P3).st3 _).al _).call hx); have hs4 := own_far (own_oneS _ x.2.2.2.2 (w1.heap.size + 1) w3.heap.size (by simp) kl) hx.2 (by have := (unhide P3).lt; have := (unhide P3).lb; omega); have O4 := hide hs4; obtain ⟨⟨m0, m1, m2, m3, m4, m5, mf, ml⟩, ⟨r0, r1, r2, r3, r4, r5, rf, rl⟩, _, _, _⟩ := (unhide P4).cells; clear hx hs4)
  refine bodyPost_ret (v := .agg #[.int .i64 4, .string t.2.2.2.2, .slice none 0 0, .slice (some ⟨w3.heap.size, 0, none⟩) 1 1, .int .i64 0, .int .i64 0]) (by simp [results, Tryz.results101, go_sem, *]) rfl ?_
  exact (unhide P4).fin (ints := []) (words := [x.2.2.2.2]) (SlOf.none _) rfl no_from (unhide O4).ls rfl (own_from (unhide O4))
end Go.Proofs.YtencibjmiphinaaGreatDoor
namespace Go.Proofs.YtencibjmiphinaaGreatDoor
open Go.RowKit Go.Sort

set_option maxHeartbeats 4000000 in
/-- A name, and a bracket behind it. -/
theorem pred_range (g : Nat) (L : List Tk) (i i1 i2 i3 i4 i5 : Nat) (b1 b2 b3 b4 b5 : Bool) (t x y : Tk) (w : World) (h : Rd w g L i false) (h1 : tkS L 1 i false = (t, i1, b1)) (hk : ¬ kdB b1 (L.drop i1) = 3) (hs : isS ⟨#[91]⟩ b1 (L.drop i1) = true) (h2 : tkS L 2 (i1 + 1) b1 = (x, i2, b2)) (h3 : sgS L ⟨#[44]⟩ i2 b2 = (i3, b3)) (h4 : tkS L 2 i3 b3 = (y, i4, b4)) (h5 : sgS L ⟨#[93]⟩ i4 b4 = (i5, b5)) :
    Calls Tryz.prog 101 #[.pointer (some ⟨g, 0, none⟩)] w fun e w' => PvR g L w (.mk 3 t.2.2.2.2 [] [] x.2.2.2.1 y.2.2.2.1 1 []) i5 b5 e w' := by
  have hg := h.lt
  have hf4 := fld4
  have hf3 := fld3
  have hle := h.le.2
  have hi1 : i1 + 1 ≤ L.length := by
    obtain ⟨_, r, hr⟩ := isS_some hs
    have := skL_len hr
    simp at this; omega
  have a0 : (i1 : Int) ≤ 4096 := by omega
  have H0 := hide (h.below (bel_zp w))
  have H1 := hide h1
  have H2 := hide h2
  have H3 := hide h3
  have H4 := hide h4
  have H5 := hide h5
  obtain ⟨m, hm⟩ : ∃ m, kdB b1 (L.drop i1) = m := ⟨_, rfl⟩
  have HM := hide hm
  have HS := hide hs
  have HI := hide hi1
  have bm : (m == 3) = false := by rw [hm] at hk; simp [hk]
  clear h h1 h2 h3 h4 h5 hk hs hm hi1 hle
  go_enter Tryz.func101, Tryz.ntmps101
  go_wp2_with first
    | (go_at_call 123; have tst := unhide P6; clear tst; refine (take_st (by decide) (unhide P6).rx.1 (unhide H4)).mono ?_; rintro e w7 ⟨rfl, hx⟩; have P7 := hide ((unhide P6).call hx); obtain ⟨⟨k0, k1, k2, k3, k4, k5, kf, kl⟩, ⟨r0, r1, r2, r3, r4, r5, rf, rl⟩, c1, c2, cf⟩ := (unhide P7).cells; clear hx; unfold tkV)
    | (go_at_call 123; have tst := unhide P4; clear tst; refine (take_st (by decide) (unhide P4).rx.1 (unhide H2)).mono ?_; rintro e w5 ⟨rfl, hx⟩; have P5 := hide ((unhide P4).call hx); obtain ⟨⟨k0, k1, k2, k3, k4, k5, kf, kl⟩, ⟨r0, r1, r2, r3, r4, r5, rf, rl⟩, c1, c2, cf⟩ := (unhide P5).cells; clear hx; unfold tkV)
    | (go_at_call 123; refine (take_st (by decide) (unhide H0) (unhide H1)).mono ?_; rintro e w1 ⟨rfl, hx⟩; have P1 := hide (PS.start hg hx t.2.2.2.2); clear hx; unfold tkV)
    | (go_at_call 124; refine (kind_r g L i1 b1 _ (unhide P1).rx.1).mono ?_; rintro e w2 ⟨rfl, hb⟩; have P2 := hide ((unhide P1).bel hb); clear hb; rw [unhide HM])
    | (go_at_call 57; refine (is_any g L i1 b1 _ _ (unhide P2).rx.1).mono ?_; rintro e w3 ⟨rfl, hb⟩; have P3 := hide ((unhide P2).bel hb); obtain ⟨⟨k0, k1, k2, k3, k4, k5, kf, kl⟩, ⟨r0, r1, r2, r3, r4, r5, rf, rl⟩, c1, c2, cf⟩ := (unhide P3).cells; have P4 := hide (((unhide P3).inc (unhide HI)).st0 (.int .i64 3)); clear hb; rw [unhide HS])
    | (go_at_call 100; have tst := unhide P7; clear tst; refine (sign_st ((unhide P7).st5 _).rx.1 (unhide H5)).mono ?_; rintro e w8 ⟨rfl, hx⟩; have P8 := hide (((unhide P7).st5 _).call hx); obtain ⟨⟨k0, k1, k2, k3, k4, k5, kf, kl⟩, ⟨r0, r1, r2, r3, r4, r5, rf, rl⟩, c1, c2, cf⟩ := (unhide P8).cells; clear hx)
    | (go_at_call 100; refine (sign_st ((unhide P5).st4 _).rx.1 (unhide H3)).mono ?_; rintro e w6 ⟨rfl, hx⟩; have P6 := hide (((unhide P5).st4 _).call hx); obtain ⟨⟨k0, k1, k2, k3, k4, k5, kf, kl⟩, ⟨r0, r1, r2, r3, r4, r5, rf, rl⟩, c1, c2, cf⟩ := (unhide P6).cells; clear hx)
  refine bodyPost_ret (v := .agg #[.int .i64 3, .string t.2.2.2.2, .slice none 0 0, .slice none 0 0, .int .i64 x.2.2.2.1, .int .i64 y.2.2.2.1]) (by simp [results, Tryz.results101, go_sem, *]) rfl ?_
  exact (unhide P8).fin (ints := []) (words := []) (SlOf.none _) rfl no_from (SlOf.none _) rfl no_from
set_option maxHeartbeats 4000000 in
/-- No brace behind the name, or no name. -/
theorem pred_none (g : Nat) (L : List Tk) (i i1 i2 i3 : Nat) (b1 b3 : Bool) (t : Tk) (w : World) (h : Rd w g L i false) (h1 : tkS L 1 i false = (t, i1, b1)) (hk : ¬ kdB b1 (L.drop i1) = 3) (hs : isS ⟨#[91]⟩ b1 (L.drop i1) = false) (h2 : sgS L ⟨#[123]⟩ i1 b1 = (i2, true)) (h3 : sgS L ⟨#[125]⟩ i2 true = (i3, b3)) :
    Calls Tryz.prog 101 #[.pointer (some ⟨g, 0, none⟩)] w fun e w' => PvR g L w (.mk 2 t.2.2.2.2 [] [] 0 0 1 []) i3 b3 e w' := by
  have hg := h.lt
  have hf4 := fld4
  have H0 := hide (h.below (bel_zp w))
  have H1 := hide h1
  have H2 := hide h2
  have H3 := hide h3
  obtain ⟨m, hm⟩ : ∃ m, kdB b1 (L.drop i1) = m := ⟨_, rfl⟩
  have HM := hide hm
  have HS := hide hs
  have bm : (m == 3) = false := by rw [hm] at hk; simp [hk]
  clear h h1 h2 h3 hk hs hm
  go_enter Tryz.func101, Tryz.ntmps101
  go_wp2_with first
    | (go_at_call 123; refine (take_st (by decide) (unhide H0) (unhide H1)).mono ?_; rintro e w1 ⟨rfl, hx⟩; have P1 := hide (PS.start hg hx t.2.2.2.2); clear hx; unfold tkV)
    | (go_at_call 124; have tst := unhide P4; clear tst; refine (kind_r g L i2 true _ (unhide P4).rx.1).mono ?_; rintro e w5 ⟨rfl, hb⟩; have P5 := hide ((unhide P4).bel hb); obtain ⟨⟨k0, k1, k2, k3, k4, k5, kf, kl⟩, ⟨r0, r1, r2, r3, r4, r5, rf, rl⟩, c1, c2, cf⟩ := (unhide P5).cells; clear hb; simp only [kdB, if_true])
    | (go_at_call 124; refine (kind_r g L i1 b1 _ (unhide P1).rx.1).mono ?_; rintro e w2 ⟨rfl, hb⟩; have P2 := hide ((unhide P1).bel hb); clear hb; rw [unhide HM])
    | (go_at_call 57; refine (is_any g L i1 b1 _ _ (unhide P2).rx.1).mono ?_; rintro e w3 ⟨rfl, hb⟩; have P3 := hide ((unhide P2).bel hb); clear hb; rw [unhide HS])
    | (go_at_call 100; refine (sign_st (unhide P3).rx.1 (unhide H2)).mono ?_; rintro e w4 ⟨rfl, hx⟩; have Q4 := hide ((unhide P3).call hx); obtain ⟨⟨k0, k1, k2, k3, k4, k5, kf, kl⟩, ⟨r0, r1, r2, r3, r4, r5, rf, rl⟩, c1, c2, cf⟩ := (unhide Q4).cells; have P4 := hide ((unhide Q4).st0 (.int .i64 2)); clear hx)
  go_loopw [4] (fun v wr => v = .int .i64 0 ∧ wr = w5) (fun _ _ => 0)
  case atStart => exact ⟨rfl, rfl⟩
  case round =>
  obtain ⟨rfl, rfl⟩ := hrel
  go_wp2_with (go_at_call 100; refine (sign_st (unhide P5).rx.1 (unhide H3)).mono ?_; rintro e w6 ⟨rfl, hx⟩; have P6 := hide ((unhide P5).call hx); obtain ⟨⟨k0, k1, k2, k3, k4, k5, kf, kl⟩, ⟨r0, r1, r2, r3, r4, r5, rf, rl⟩, c1, c2, cf⟩ := (unhide P6).cells; clear hx)
  refine bodyPost_ret (v := .agg #[.int .i64 2, .string t.2.2.2.2, .slice none 0 0, .slice none 0 0, .int .i64 0, .int .i64 0]) (by simp [results, Tryz.results101, go_sem, *]) rfl ?_
  exact (unhide P6).fin (ints := []) (words := []) (SlOf.none _) rfl no_from (SlOf.none _) rfl no_from
end Go.Proofs.YtencibjmiphinaaGreatDoor

/- A file is laid under a name, taken away, written anew. -/
import Derived.Test.YtonhagoeajhacaaOldFile
import Derived.Test.YtonhagoeajhacaaSh
namespace Go.Proofs.Ytonhagoeajhacaa.Old
open Go.RowKit Go.Sort Go.Shelf

theorem strClone (s : ByteArray) (hs : s.size ≤ 281474976710656) (w : World) : Calls Try.prog 54 #[.string s] w fun e w' => e = .returned (.string s) ∧ Below w.heap.size w w' := by
  have hcon := Any.stringslite_Clone Try.cloneStr s w hs
  change Calls Try.prog 62 _ _ _ at hcon
  go_enter Try.func54, Try.ntmps54
  go_wp2_with (go_at_call 62; refine hcon.mono ?_; rintro e w1 ⟨rfl, b1⟩; have B1 := hide b1; clear b1)
  go_ret
  exact ⟨rfl, unhide B1⟩
def upF {α : Type} (f : ByteArray → α) (nm : ByteArray) (x : α) : ByteArray → α := fun k => if k = nm then x else f k
theorem upF_same {α : Type} (f : ByteArray → α) (nm : ByteArray) (x : α) : upF f nm x nm = x := if_pos rfl
theorem upF_ne {α : Type} (f : ByteArray → α) {nm k : ByteArray} (x : α) (h : k ≠ nm) : upF f nm x k = f k := if_neg h
theorem FM.ext {w : World} {m n : Nat} {f f' : ByteArray → Option Nat} (h : FM w m n f) (he : ∀ k, f k = f' k) : FM w m n f' := by
  obtain rfl : f = f' := funext he
  exact h
theorem FM.same {w w' : World} {m n : Nat} {f : ByteArray → Option Nat} (h : FM w m n f) (he : w'.heap[m]? = w.heap[m]?) : FM w' m n f := by
  obtain ⟨D, ⟨es, cl, hb, hr⟩, h2⟩ := h
  exact ⟨D, ⟨es, cl, he.trans hb, hr⟩, h2⟩
theorem own_same {B : Nat} {w w' : World} {q : Option Addr} {cap : Nat} {l : List UInt8} (h : OwnK encB 5 1 B w q cap l) (he : ∀ p, q = some p → w'.heap[p.block]? = w.heap[p.block]?) : OwnK encB 5 1 B w' q cap l := by
  refine ⟨h.1, ?_⟩
  rcases h.2 with h0 | ⟨g, cp, cur, hv, hB, hblk, hr⟩
  · exact Or.inl h0
  · refine Or.inr ⟨g, cp, cur, hv, hB, ?_, hr⟩
    injection hv with h1
    exact (he _ h1).trans hblk
theorem FlAt.same {B : Nat} {w w' : World} {h c : Nat} {q : Option Addr} {fl : Fl} (hf : FlAt B w h q c fl) (h1 : w'.heap[h]? = w.heap[h]?) (h2 : ∀ p, q = some p → w'.heap[p.block]? = w.heap[p.block]?) : FlAt B w' h q c fl :=
  ⟨hf.1, h1.trans hf.2.1, own_same hf.2.2.1 h2, hf.2.2.2⟩
theorem FlAt.lt {B : Nat} {w : World} {h c : Nat} {q : Option Addr} {fl : Fl} (hf : FlAt B w h q c fl) : h < w.heap.size := (Array.getElem?_eq_some_iff.1 hf.2.1).1
theorem FlAt.row_lt {B : Nat} {w : World} {h c : Nat} {q : Option Addr} {fl : Fl} (hf : FlAt B w h q c fl) {p : Addr} (hp : q = some p) : p.block < w.heap.size := by
  obtain ⟨cur, hc⟩ := own_cells hf.2.2.1 hp
  exact (Array.getElem?_eq_some_iff.1 hc).1
/-- A file lies under a name: it was there, or it is new; it is apart from all the others. -/
theorem DkIn.put {B : Nat} {w w' : World} {g m : Nat} {s : Dk} {h : ByteArray → Nat} {q : ByteArray → Option Addr} {c : ByteArray → Nat} (hd : DkIn B w g s m h q c) {nm : ByteArray} {nh c0 : Nat} {q0 : Option Addr} {fl0 : Fl}
    (hg : w.grownBy w' (some m)) (hm : FM w' m (s.n + 1) (upd (fun k => (s.get k).map fun _ => h k) nm (some nh))) (hf : FlAt B w nh q0 c0 fl0)
    (hap : ∀ k fl, k ≠ nm → s.get k = some fl → h k ≠ nh ∧ ∀ p p', q k = some p → q0 = some p' → p.block ≠ p'.block) :
    DkIn B w' g { s with get := upd s.get nm (some fl0), n := s.n + 1 } m (upF h nm nh) (upF q nm q0) (upF c nm c0) := by
  have hmap : ∀ (k : Nat) (cur : Array Value) (t : TypeId), w.heap[k]? = some (.cells cur t (0, 0)) → k ≠ m := fun k cur t hk e => by
    subst e
    obtain ⟨es, cl, h9⟩ := hd.map.is_map
    rw [hk] at h9
    cases h9
  have hst : ∀ (k : Nat) (cur : Array Value) (t : TypeId), w.heap[k]? = some (.cells cur t (0, 0)) → w'.heap[k]? = w.heap[k]? := fun k cur t hk => hg.block k (Array.getElem?_eq_some_iff.1 hk).1 (by intro e; injection e with e; exact hmap k cur t hk e)
  have hfs : ∀ {h c : Nat} {q : Option Addr} {fl : Fl}, FlAt B w h q c fl → FlAt B w' h q c fl := fun hf => hf.same (hst _ _ _ hf.2.1) (fun p hp => by obtain ⟨cur, hc⟩ := own_cells hf.2.2.1 hp; exact hst _ _ _ hc)
  refine ⟨hd.bg, hd.bm, hd.small, (hst _ _ _ hd.box).trans hd.box, ?_, ?_, ?_⟩
  · refine hm.ext fun k => ?_
    by_cases e : k = nm
    · subst e; simp only [upd_same, upF_same]; rfl
    · simp only [upd_ne _ _ e, upF_ne _ _ e]
  · intro k fl hk
    simp only at hk
    by_cases e : k = nm
    · subst e
      rw [upd_same] at hk
      cases hk
      simp only [upF_same]
      exact hfs hf
    · rw [upd_ne _ _ e] at hk
      simp only [upF_ne _ _ e]
      exact hfs (hd.file k fl hk)
  · intro k k' fl fl' hk hk' hne
    simp only at hk hk'
    by_cases e : k = nm
    · by_cases e' : k' = nm
      · exact absurd (e.trans e'.symm) hne
      · rw [upd_ne _ _ e'] at hk'
        obtain ⟨a1, a2⟩ := hap k' fl' e' hk'
        subst e
        simp only [upF_same, upF_ne _ _ e']
        exact ⟨fun h => a1 h.symm, fun p p' h1 h2 h3 => a2 p' p h2 h1 h3.symm⟩
    · rw [upd_ne _ _ e] at hk
      by_cases e' : k' = nm
      · subst e'
        simp only [upF_same, upF_ne _ _ e]
        exact hap k fl e hk
      · rw [upd_ne _ _ e'] at hk'
        simp only [upF_ne _ _ e, upF_ne _ _ e']
        exact hd.apart k k' fl fl' hk hk' hne
/-- A file goes. -/
theorem DkIn.del {B : Nat} {w w' : World} {g m : Nat} {s : Dk} {h : ByteArray → Nat} {q : ByteArray → Option Addr} {c : ByteArray → Nat} (hd : DkIn B w g s m h q c) {nm : ByteArray}
    (hg : w.grownBy w' (some m)) (hm : FM w' m s.n (upd (fun k => (s.get k).map fun _ => h k) nm none)) : DkIn B w' g { s with get := upd s.get nm none } m h q c := by
  have hst : ∀ (k : Nat) (cur : Array Value) (t : TypeId), w.heap[k]? = some (.cells cur t (0, 0)) → w'.heap[k]? = w.heap[k]? := fun k cur t hk => hg.block k (Array.getElem?_eq_some_iff.1 hk).1 (by
    intro e; injection e with e
    subst e
    obtain ⟨es, cl, h9⟩ := hd.map.is_map
    rw [hk] at h9
    cases h9)
  have hfs : ∀ {h c : Nat} {q : Option Addr} {fl : Fl}, FlAt B w h q c fl → FlAt B w' h q c fl := fun hf => hf.same (hst _ _ _ hf.2.1) (fun p hp => by obtain ⟨cur, hc⟩ := own_cells hf.2.2.1 hp; exact hst _ _ _ hc)
  have hget : ∀ k fl, upd s.get nm none k = some fl → s.get k = some fl := fun k fl hk => by
    by_cases e : k = nm
    · subst e; rw [upd_same] at hk; cases hk
    · rwa [upd_ne _ _ e] at hk
  refine ⟨hd.bg, hd.bm, hd.small, (hst _ _ _ hd.box).trans hd.box, ?_, fun k fl hk => hfs (hd.file k fl (hget k fl hk)), fun k k' fl fl' hk hk' => hd.apart k k' fl fl' (hget _ _ hk) (hget _ _ hk')⟩
  refine hm.ext fun k => ?_
  by_cases e : k = nm
  · subst e; simp only [upd_same]; rfl
  · simp only [upd_ne _ _ e]
/-- A file is written anew: its box, its row. -/
theorem DkIn.refile {B : Nat} {w w' : World} {g m : Nat} {s : Dk} {h : ByteArray → Nat} {q : ByteArray → Option Addr} {c : ByteArray → Nat} (hd : DkIn B w g s m h q c) {nm : ByteArray} {fl fl' : Fl} (hf : s.get nm = some fl) {q' : Option Addr} {c' : Nat}
    (hk : ∀ i, i < w.heap.size → i ≠ h nm → (∀ p, q nm = some p → i ≠ p.block) → w'.heap[i]? = w.heap[i]?) (hn : FlAt B w' (h nm) q' c' fl')
    (hrow : ∀ p', q' = some p' → (∃ p, q nm = some p ∧ p.block = p'.block) ∨ w.heap.size ≤ p'.block) :
    DkIn B w' g { s with get := upd s.get nm (some fl') } m h (upF q nm q') (upF c nm c') := by
  have f0 := hd.file nm fl hf
  have hbox : w'.heap[g]? = w.heap[g]? := by
    refine hk g (Array.getElem?_eq_some_iff.1 hd.box).1 ?_ ?_
    · intro e
      have h1 := f0.2.1
      rw [← e, hd.box] at h1
      injection h1 with h1; injection h1 with _ h1; cases h1
    · intro p hp e
      obtain ⟨cur, h1⟩ := own_cells f0.2.2.1 hp
      rw [← e, hd.box] at h1
      injection h1 with h1; injection h1 with _ h1; cases h1
  have hmp : w'.heap[m]? = w.heap[m]? := by
    obtain ⟨es, cl, h9⟩ := hd.map.is_map
    refine hk m hd.map.lt ?_ ?_
    · intro e
      have h1 := f0.2.1
      rw [← e, h9] at h1
      cases h1
    · intro p hp e
      obtain ⟨cur, h1⟩ := own_cells f0.2.2.1 hp
      rw [← e, h9] at h1
      cases h1
  have hoth : ∀ k fl2, k ≠ nm → s.get k = some fl2 → FlAt B w' (h k) (q k) (c k) fl2 := fun k fl2 hne hk2 => by
    have f2 := hd.file k fl2 hk2
    obtain ⟨a1, a2⟩ := hd.apart k nm fl2 fl hk2 hf hne
    refine f2.same (hk _ f2.lt a1 ?_) (fun p hp => hk _ (f2.row_lt hp) ?_ ?_)
    · intro p hp e
      obtain ⟨cur, h1⟩ := own_cells f0.2.2.1 hp
      have h2 := f2.2.1
      rw [e, h1] at h2
      injection h2 with h2; injection h2 with _ h2; cases h2
    · intro e
      obtain ⟨cur, h1⟩ := own_cells f2.2.2.1 hp
      rw [e, f0.2.1] at h1
      injection h1 with h1; injection h1 with _ h1; cases h1
    · intro p' hp'
      exact a2 p p' hp hp'
  refine ⟨hd.bg, hd.bm, hd.small, hbox.trans hd.box, ?_, ?_, ?_⟩
  · refine (hd.map.same hmp).ext fun k => ?_
    by_cases e : k = nm
    · subst e; simp only [upd_same, hf]; rfl
    · simp only [upd_ne _ _ e]
  · intro k fl2 hk2
    simp only at hk2
    by_cases e : k = nm
    · subst e
      rw [upd_same] at hk2
      cases hk2
      simp only [upF_same]
      exact hn
    · rw [upd_ne _ _ e] at hk2
      simp only [upF_ne _ _ e]
      exact hoth k fl2 e hk2
  · intro k k' fl2 fl3 hk2 hk3 hne
    simp only at hk2 hk3
    have key : ∀ k fl2, k ≠ nm → s.get k = some fl2 → ∀ p p', q k = some p → q' = some p' → p.block ≠ p'.block := fun k fl2 e hk2 p p' hp hp' => by
      rcases hrow p' hp' with ⟨p0, h0, h1⟩ | h1
      · rw [← h1]; exact (hd.apart k nm fl2 fl hk2 hf e).2 p p0 hp h0
      · have := (hd.file k fl2 hk2).row_lt hp; omega
    by_cases e : k = nm
    · by_cases e' : k' = nm
      · exact absurd (e.trans e'.symm) hne
      · rw [upd_ne _ _ e'] at hk3
        subst e
        simp only [upF_same, upF_ne _ _ e']
        exact ⟨fun h => (hd.apart k' k fl3 fl hk3 hf e').1 h.symm, fun p p' h1 h2 h3 => key k' fl3 e' hk3 p' p h2 h1 h3.symm⟩
    · rw [upd_ne _ _ e] at hk2
      by_cases e' : k' = nm
      · subst e'
        simp only [upF_same, upF_ne _ _ e]
        exact ⟨(hd.apart k k' fl2 fl hk2 hf e).1, key k fl2 e hk2⟩
      · rw [upd_ne _ _ e'] at hk3
        simp only [upF_ne _ _ e, upF_ne _ _ e']
        exact hd.apart k k' fl2 fl3 hk2 hk3 hne
end Go.Proofs.Ytonhagoeajhacaa.Old
namespace Go.Proofs.Ytonhagoeajhacaa.Old
open Go.RowKit Go.Sort Go.Shelf

set_option maxHeartbeats 1000000 in
set_option maxRecDepth 100000 in
/-- put: the map alone turns, besides new memory. -/
theorem put_any {w : World} {g m n : Nat} {f : ByteArray → Option Nat} {a0 a1 a2 a3 : Value} (hbox : w.heap[g]? = some (.cells #[a0, a1, a2, a3, .map (some m)] 46 (0, 0))) (hm : FM w m n f) (hn : n < maxLen) (nm : ByteArray) (hs : nm.size ≤ 32) (nh : Nat) :
    Calls Try.prog 36 #[.pointer (some ⟨g, 0, none⟩), .string nm, .pointer (some ⟨nh, 0, none⟩)] w fun e w' => (∃ v, e = .returned v) ∧ ∃ w1, Below w.heap.size w w1 ∧ FM w' m (n + 1) (upd f nm (some nh)) ∧ w1.grownBy w' (some m) := by
  have hcl := fun W : World => strClone nm (by omega) W
  have hcell : ∀ W, Below w.heap.size w W → W.cell? ⟨g, 4, none⟩ = some (.map (some m)) := fun W hW => (cells5 ((hW.block g (Array.getElem?_eq_some_iff.1 hbox).1).trans hbox)).1.2.2.2.2
  have hgm : g ≠ m := fun e => by
    subst e
    obtain ⟨es, cl, h9⟩ := hm.is_map
    rw [hbox] at h9
    cases h9
  have hput : ∀ W, Below w.heap.size w W → ∃ w', (Instr.mapUpdate 44 (.map (some m)) (.string nm) (.pointer (some ⟨nh, 0, none⟩))).run Try.prog W = .ok () w' ∧ w'.cell? ⟨g, 4, none⟩ = some (.map (some m)) ∧ FM w' m (n + 1) (upd f nm (some nh)) ∧ W.grownBy w' (some m) := fun W hW => by
    obtain ⟨w', h1, h2, h3⟩ := (hm.below hW).put hn (nm := nm) (by unfold maxLen; omega) nh
    have hlt := (Array.getElem?_eq_some_iff.1 hbox).1
    exact ⟨w', h1, (cells5 ((h3.block g (Nat.lt_of_lt_of_le hlt hW.size) (by intro e; injection e with e; exact hgm e)).trans ((hW.block g hlt).trans hbox))).1.2.2.2.2, h2, h3⟩
  have HC := hide hcell
  have HP := hide hput
  have c0 := hcell w (Below.refl _ _)
  clear hbox hm hcell hput hgm
  go_enter Try.func36, Try.ntmps36
  go_wp2
  go_region_held3 (fun W => W.cell? ⟨g, 4, none⟩ = some (.map (some m)))
    (first | with_reducible exact unhide K1 | with_reducible exact unhide K2 | exact unhide HC _ (unhide B1) | exact unhide HC _ (Below.refl _ _).drew | exact unhide HC _ (Below.refl _ _))
    ((go_at_call 54; refine (hcl _).mono ?_; rintro e w1 ⟨rfl, b1⟩; have b1' := below_undrew b1; obtain ⟨v1, r1, k1, f1, g1⟩ := unhide HP w1 b1'; obtain ⟨v2, r2, k2, f2, g2⟩ := unhide HP w1.drew b1'.drew; have B1 := hide b1'; have K1 := hide k1; have K2 := hide k2; clear k1 k2; have F1 := hide f1; have F2 := hide f2; have G1 := hide g1; have G2 := hide g2; clear b1 b1' f1 f2 g1 g2))
  all_goals
    go_wp2
    go_end0
    first | exact ⟨⟨_, rfl⟩, w1, unhide B1, unhide F1, unhide G1⟩ | exact ⟨⟨_, rfl⟩, w1.drew, (unhide B1).drew, unhide F2, unhide G2⟩
end Go.Proofs.Ytonhagoeajhacaa.Old
namespace Go.Proofs.Ytonhagoeajhacaa.Old
open Go.RowKit Go.Sort Go.Shelf

theorem own_block (q : Option Addr) (n c : Nat) : (Value.slice q n c).ownBlock = q.map (·.block) := by cases q <;> rfl
theorem wpList_appW {ops : Array Oper} {rest : List Oper} {o : Oper} {a : Act} {w : World} {Q : Exit → Act → World → Prop} (hgd : o.guard = none) (s x : Operand)
    (ho : o.op = .call { callee := .builtin .append, args := #[s, x], argTypes := #[30, 30] }) (B : Nat) (q : Option Addr) (cap : Nat) (l : List UInt8) (p : Option Addr) (c : Nat) (m : List UInt8) (n n' N : Nat) (hn : l.length = n) (hn' : m.length = n') (hN : n + n' = N)
    (es : a.eval s = .slice q n cap) (ex : a.eval x = .slice p n' c) (hown : OwnK encB 5 1 B w q cap l) (hs : SrcK encB 1 w p c m) (hm : N ≤ maxLen) (hb : N ≤ 140737488355328) (hB : B ≤ w.heap.size)
    (h : ∀ q' cap' w', OwnK encB 5 1 B w' q' cap' (l ++ m) → w.grownBy w' (q.map (·.block)) → (q'.map (·.block) = q.map (·.block) ∨ ∀ g, q'.map (·.block) = some g → w.heap.size ≤ g) → wpList Try.prog ops Q rest (a.put o.dst (.slice q' N cap')) w') : wpList Try.prog ops Q (o :: rest) a w := by
  subst hn hn' hN
  obtain ⟨i0, hi, hz0, hz1, hz2⟩ := info_parts Try.info5
  refine wpList_plain hgd fun K hK => ?_
  cases p with
  | none =>
    obtain ⟨h0, rfl⟩ := hs.1 rfl
    obtain rfl : m = [] := List.length_eq_zero_iff.1 h0
    have hr := run_append_owned_none (P := Try.prog) (w := w) B 30 o.type 5 i0 1 Try.underlying30 hi _ _ _ hown
    unfold Oper.wp execOp
    simp only [ho, resolve, invoke, builtin, Sem.run_bind, Sem.run_pure, Result.andThen_ok, List.map_toArray, List.map_cons, List.map_nil, List.length_nil, es, ex, hr]
    exact hK _ _ (h q cap w (by simpa using hown) (grown_refl _ _) (Or.inl rfl))
  | some ad =>
    obtain ⟨v', w', hr, ho2, hg, _, hat⟩ := run_append_own_at (P := Try.prog) w B 30 o.type 5 i0 (.int .u8 0) 1 1 Try.underlying30 hi hz0 hz1 hz2 rfl (by decide) _ _ _ hown ad m.length c (flatK encB 1 m.toArray).toList (by simp) (hs.2 ad rfl) (rowB.one m) hm (by omega) hB
    obtain ⟨q', cap', rfl, _⟩ := OwnK.shape ho2
    rw [own_block] at hg
    rw [own_block, own_block] at hat
    unfold Oper.wp execOp
    simp only [ho, resolve, invoke, builtin, Sem.run_bind, Sem.run_pure, Result.andThen_ok, List.map_toArray, List.map_cons, List.map_nil, es, ex, hr]
    refine hK _ _ (h q' cap' w' ?_ hg ?_)
    · unfold OwnK
      rw [flat_app encB 1 (by decide), List.length_append]
      exact ho2
    · rcases hat with h1 | h1
      · exact Or.inl h1
      · exact Or.inr fun g hg => by rw [h1] at hg; injection hg with hg; omega
theorem own_from {B : Nat} {w : World} {q : Option Addr} {cap : Nat} {l : List UInt8} (h : OwnK encB 5 1 B w q cap l) {p : Addr} (hp : q = some p) : B ≤ p.block := by
  subst hp
  rcases h.2 with ⟨h0, _⟩ | ⟨g, cp, cur, hv, hB, hblk, hr⟩
  · injection h0 with h0; cases h0
  · injection hv with h1
    injection h1 with h1
    subst h1
    exact hB
/-- The file's row has grown; its box is written. -/
theorem refile_app {B : Nat} {w w1 : World} {g m : Nat} {s : Dk} {h : ByteArray → Nat} {q : ByteArray → Option Addr} {c : ByteArray → Nat} (hd : DkIn B w g s m h q c) {nm : ByteArray} {fl : Fl} (hf : s.get nm = some fl) {q' : Option Addr} {cap' : Nat} {data : List UInt8}
    (ho : OwnK encB 5 1 B w1 q' cap' (fl.bytes ++ data)) (hg : w.grownBy w1 ((q nm).map (·.block))) (hat : q'.map (·.block) = (q nm).map (·.block) ∨ ∀ k, q'.map (·.block) = some k → w.heap.size ≤ k) (hB : B ≤ w.heap.size) :
    w1.heap[h nm]? = some (.cells #[.slice (q nm) fl.bytes.length (c nm), .int .i64 (fl.lasts : Int)] 67 (0, 0)) ∧ ∀ N, (fl.bytes ++ data).length = N →
      DkIn B (w1.setCell ⟨h nm, 0, none⟩ (.slice q' N cap')) g { s with get := upd s.get nm (some ⟨fl.bytes ++ data, fl.lasts⟩) } m h (upF q nm q') (upF c nm cap') ∧ Below B w (w1.setCell ⟨h nm, 0, none⟩ (.slice q' N cap')) := by
  have f0 := hd.file nm fl hf
  have hne : ∀ p, q nm = some p → p.block ≠ h nm := fun p hp e => by
    obtain ⟨cur, h1⟩ := own_cells f0.2.2.1 hp
    rw [e, f0.2.1] at h1
    injection h1 with h1; injection h1 with _ h1; cases h1
  have hb1 : w1.heap[h nm]? = w.heap[h nm]? := hg.block _ f0.lt (by
    intro e
    cases hq : q nm with
    | none => rw [hq] at e; cases e
    | some p => rw [hq] at e; injection e with e; exact hne p hq e.symm)
  have hbx := hb1.trans f0.2.1
  refine ⟨hbx, fun N hN => ?_⟩
  subst hN
  have hg2 := grown_set w1 (h nm) 0 (.slice q' (fl.bytes ++ data).length cap')
  have hb2 := heap_setCell_same w1 (h nm) 0 _ 67 (.slice q' (fl.bytes ++ data).length cap') hbx
  have hne' : ∀ p, q' = some p → p.block ≠ h nm := fun p hp e => by
    obtain ⟨cur, h1⟩ := own_cells ho hp
    rw [e, hbx] at h1
    injection h1 with h1; injection h1 with _ h1; cases h1
  refine ⟨hd.refile hf ?_ ⟨f0.1, hb2, own_other ho hg2 hne', by have := f0.2.2.2; simp; omega⟩ ?_, ?_⟩
  · intro i hi h1 h2
    refine (hg2.block i (Nat.lt_of_lt_of_le hi hg.size) (by intro e; injection e with e; exact h1 e)).trans (hg.block i hi ?_)
    intro e
    cases hq : q nm with
    | none => rw [hq] at e; cases e
    | some p => rw [hq] at e; injection e with e; exact h2 p hq e
  · intro p' hp'
    rw [hp'] at hat
    rcases hat with h1 | h1
    · cases hq : q nm with
      | none => rw [hq] at h1; cases h1
      | some p => rw [hq] at h1; injection h1 with h1; exact Or.inl ⟨p, rfl, h1.symm⟩
    · exact Or.inr (h1 _ rfl)
  · refine ⟨hg2.os.trans hg.os, hg2.tape.trans hg.tape, hg2.output.trans hg.output, Nat.le_trans hg.size hg2.size, fun i hi => ?_⟩
    refine (hg2.block i (by have := hg.size; omega) (by intro e; injection e with e; have := f0.1; omega)).trans (hg.block i (by omega) ?_)
    intro e
    cases hq : q nm with
    | none => rw [hq] at e; cases e
    | some p => rw [hq] at e; injection e with e; have := own_from f0.2.2.1 hq; simp only at e; omega
set_option maxHeartbeats 1000000 in
set_option maxRecDepth 100000 in
theorem grow_old {B : Nat} {w : World} {g m : Nat} {s : Dk} {h : ByteArray → Nat} {q : ByteArray → Option Addr} {c : ByteArray → Nat} (hd : DkIn B w g s m h q c) (hB : B ≤ w.heap.size) {nm : ByteArray} (hs : nm.size ≤ 32) {fl : Fl} (hf : s.get nm = some fl) (p : Option Addr) (k : Nat) (data : List UInt8) (hdt : SlOf encB 1 w p k data) (hl : fl.bytes.length + data.length ≤ 140737488355328) :
    Calls Try.prog 30 #[.pointer (some ⟨g, 0, none⟩), .string nm, .slice p data.length k] w fun e w' => (∃ v, e = .returned v) ∧ DkAt B w' g { s with get := upd s.get nm (some ⟨fl.bytes ++ data, fl.lasts⟩) } ∧ Below B w w' := by
  have hlk := hd.map.look (nm := nm) (by unfold maxLen; omega)
  rw [hf] at hlk
  simp only [Option.map_some, ptr] at hlk
  obtain ⟨⟨c0, c1, c2, c3, c4⟩, _⟩ := cells5 hd.box
  have f0 := hd.file nm fl hf
  obtain ⟨⟨d0, d1⟩, _⟩ := cells2 f0.2.1
  have HO := hide f0.2.2.1
  have HS := hide hdt
  have hre := fun (q' : Option Addr) (cap' : Nat) (w1 : World) (ho : OwnK encB 5 1 B w1 q' cap' (fl.bytes ++ data)) (hg : w.grownBy w1 ((q nm).map (·.block))) (hat : q'.map (·.block) = (q nm).map (·.block) ∨ ∀ k, q'.map (·.block) = some k → w.heap.size ≤ k) => refile_app hd hf ho hg hat hB
  obtain ⟨N, hN⟩ : ∃ N, fl.bytes.length + data.length = N := ⟨_, rfl⟩
  have hN2 : (fl.bytes ++ data).length = N := by rw [List.length_append, hN]
  have HN := hide hN
  have HN2 := hide hN2
  rw [hN] at hl
  have HR := hide hre
  clear hd f0 hdt hre hN hN2
  go_enter Try.func30, Try.ntmps30
  go_wp2_with (at_builtin; refine wpList_appW rfl _ _ rfl B (q nm) (c nm) fl.bytes p k data fl.bytes.length data.length N rfl rfl (unhide HN) rfl rfl (unhide HO) (unhide HS).src (by unfold maxLen; omega) (by omega) hB ?_; intro q2 c2' w2 o2 g2 hat; obtain ⟨hbx, hend⟩ := unhide HR q2 c2' w2 o2 g2 hat; obtain ⟨⟨x0, x1⟩, z0, z1⟩ := cells2 hbx; have HE := hide (hend N (unhide HN2)); clear o2 g2 hat hbx hend)
  go_end0
  exact ⟨⟨_, rfl⟩, ⟨_, _, _, _, (unhide HE).1⟩, (unhide HE).2⟩
theorem upd_upd {α : Type} (f : ByteArray → Option α) (nm : ByteArray) (x y : Option α) : upd (upd f nm x) nm y = upd f nm y := by
  funext k
  by_cases e : k = nm
  · subst e; rw [upd_same, upd_same]
  · rw [upd_ne _ _ e, upd_ne _ _ e, upd_ne _ _ e]
/-- A slice stays while a map turns. -/
theorem sl_map {α : Type} [Inhabited α] {enc : α → List Value} {ek : Nat} (hek : 0 < ek) {w w' : World} {m : Nat} {es : Array MapEntry} {cl : Nat} {q : Option Addr} {c : Nat} {l : List α} (h : SlOf enc ek w q c l) (hm : w.heap[m]? = some (.map es cl)) (hg : w.grownBy w' (some m)) : SlOf enc ek w' q c l := by
  refine ⟨h.1, h.2.1, h.2.2.1, fun h0 => ?_⟩
  obtain ⟨b, off, hq, hb, hA⟩ := h.2.2.2 h0
  have hne : b ≠ m := fun e => by
    subst e
    obtain ⟨x, hx, _⟩ := get_at h0
    have h1 := hA _ _ (flat_at (enc := enc) (k := ek) hx 0 hek)
    unfold World.cell? at h1
    rw [hm] at h1
    cases h1
  have he := hg.block b hb (by intro e; injection e with e; exact hne e)
  exact ⟨b, off, hq, Nat.lt_of_lt_of_le hb hg.size, fun j u hj => (World.cell?_of_block (w := w) (a := ⟨b, off + j, none⟩) he).trans (hA j u hj)⟩
set_option maxHeartbeats 1000000 in
set_option maxRecDepth 100000 in
theorem grow_new {B : Nat} {w : World} {g m : Nat} {s : Dk} {h : ByteArray → Nat} {q : ByteArray → Option Addr} {c : ByteArray → Nat} (hd : DkIn B w g s m h q c) (hB : B ≤ w.heap.size) {nm : ByteArray} (hs : nm.size ≤ 32) (hf : s.get nm = none) (hn : s.n < maxLen) (p : Option Addr) (k : Nat) (data : List UInt8) (hdt : SlOf encB 1 w p k data) (hl : data.length ≤ 140737488355328) :
    Calls Try.prog 30 #[.pointer (some ⟨g, 0, none⟩), .string nm, .slice p data.length k] w fun e w' => (∃ v, e = .returned v) ∧ DkAt B w' g { s with get := upd s.get nm (some ⟨data, 0⟩), n := s.n + 1 } ∧ Below B w w' := by
  have hlk := hd.map.look (nm := nm) (by unfold maxLen; omega)
  rw [hf] at hlk
  simp only [Option.map_none, ptr] at hlk
  obtain ⟨⟨c0, c1, c2, c3, c4⟩, _⟩ := cells5 hd.box
  obtain ⟨Z, hZ⟩ : ∃ Z, w.alloc (.cells #[.slice none 0 0, .int .i64 0] 67) = Z := ⟨_, rfl⟩
  have bZ : Below w.heap.size w Z := by rw [← hZ]; exact (Below.refl _ _).alloc (Nat.le_refl _) _
  have kZ : Z.heap[w.heap.size]? = some (.cells #[.slice none 0 0, .int .i64 0] 67 (0, 0)) := by rw [← hZ]; exact heap_alloc_new _ _
  have hdZ := hd.below bZ
  have hpu := put_any hdZ.box hdZ.map hn nm hs w.heap.size
  have hend : ∀ w1 w2, Below Z.heap.size Z w1 → FM w2 m (s.n + 1) (upd (fun k => (s.get k).map fun _ => h k) nm (some w.heap.size)) → w1.grownBy w2 (some m) → DkIn B w2 g { s with get := upd s.get nm (some ⟨[], 0⟩), n := s.n + 1 } m (upF h nm w.heap.size) (upF q nm none) (upF c nm 0) ∧ Below B w w2 := fun w1 w2 h1 h2 h3 => by
    have hlt : w.heap.size < Z.heap.size := (Array.getElem?_eq_some_iff.1 kZ).1
    have hk1 := (h1.block _ hlt).trans kZ
    refine ⟨(hdZ.below h1).put h3 h2 (fl0 := ⟨[], 0⟩) (q0 := none) (c0 := 0) ⟨hB, hk1, OwnK.nil _ _, Nat.le_refl _⟩ ?_, ?_⟩
    · intro k fl _ hk
      have := (hd.file k fl hk).lt
      exact ⟨by omega, fun p p' _ h => by cases h⟩
    · have h5 := below_sub bZ h1
      exact (h5.mono hB).trans (grown_le h3 hd.bm (by have := h5.size; omega))
  have HE := hide hend
  have HMZ := hide hdZ.map.is_map
  have HMlt := hide hdZ.map.lt
  have HS := hide (hdt.below bZ)
  clear hd hdZ hdt hend kZ bZ
  go_enter Try.func30, Try.ntmps30
  go_wp2_with (first
    | (go_at_call 36; refine hpu.mono ?_; rintro e w2 ⟨⟨v, rfl⟩, w1, b1, f2, g2⟩; have E := unhide HE w1 w2 b1 f2 g2; have f0 := E.1.file nm ⟨[], 0⟩ (upd_same _ _ _); rw [upF_same, upF_same, upF_same] at f0; obtain ⟨⟨x0, x1⟩, z0, z1⟩ := cells2 f0.2.1; have HO := hide f0.2.2.1; have HD := hide E.1; have HBw := hide E.2; obtain ⟨es, cl, hmm⟩ := unhide HMZ; have HS2 : Hid (SlOf encB 1 w2 p k data) := hide (sl_map (by decide) ((unhide HS).below b1) ((b1.block m (unhide HMlt)).trans hmm) g2); clear E f0 b1 f2 g2 hmm)
    | (at_builtin; refine wpList_appW rfl _ _ rfl B none 0 [] p k data 0 data.length data.length rfl rfl (by omega) rfl rfl (unhide HO) (unhide HS2).src (by unfold maxLen; omega) (by omega) (by have := (unhide HBw).size; omega) ?_; intro q3 c3' w3 o3 g3 hat; have R := refile_app (unhide HD) (upd_same _ _ _) (q' := q3) (cap' := c3') (data := data) (w1 := w3) o3 (by rw [upF_same]; exact g3) (by rw [upF_same]; exact hat) (by have := (unhide HBw).size; omega); obtain ⟨hbx, hend2⟩ := R; have hend3 := hend2 data.length rfl; rw [upF_same, upF_same, upF_same] at hbx; rw [upF_same] at hend3; obtain ⟨⟨y0, y1⟩, u0, u1⟩ := cells2 hbx; have HE3 := hide hend3; clear o3 g3 hat hbx hend2 hend3))
  go_end0
  have h9 := unhide HE3
  simp only [upd_upd, List.nil_append] at h9
  exact ⟨⟨_, rfl⟩, ⟨_, _, _, _, h9.1⟩, (unhide HBw).trans h9.2⟩
end Go.Proofs.Ytonhagoeajhacaa.Old

/- A file is laid under a name, taken away, written anew. -/
import Derived.Test.YtonhagoeajhacaaFile
import Derived.Test.YtonhagoeajhacaaSh
namespace Go.Proofs.Ytonhagoeajhacaa
open Go.RowKit Go.Sort Go.Shelf

theorem strClone (s : ByteArray) (hs : s.size ≤ 281474976710656) (w : World) : Calls Try.prog 54 #[.string s] w fun e w' => e = .returned (.string s) ∧ Below w.heap.size w w' := by
  have hcon := Any.stringslite_Clone Try.cloneStr s w hs
  change Calls Try.prog 62 _ _ _ at hcon
  go_enter Try.func54, Try.ntmps54
  go_wp2_with (go_at_call 62; refine hcon.mono ?_; rintro e w1 ⟨rfl, b1⟩; have B1 := hide b1; clear b1)
  go_ret
  exact ⟨rfl, unhide B1⟩
def upF {α : Type} (f : ByteArray → α) (nm : ByteArray) (x : α) : ByteArray → α := fun k => if k = nm then x else f k
theorem upF_same {α : Type} (f : ByteArray → α) (nm : ByteArray) (x : α) : upF f nm x nm = x := if_pos rfl
theorem upF_ne {α : Type} (f : ByteArray → α) {nm k : ByteArray} (x : α) (h : k ≠ nm) : upF f nm x k = f k := if_neg h
theorem FM.ext {w : World} {m n : Nat} {f f' : ByteArray → Option Nat} (h : FM w m n f) (he : ∀ k, f k = f' k) : FM w m n f' := by
  obtain rfl : f = f' := funext he
  exact h
theorem FM.same {w w' : World} {m n : Nat} {f : ByteArray → Option Nat} (h : FM w m n f) (he : w'.heap[m]? = w.heap[m]?) : FM w' m n f := by
  obtain ⟨D, ⟨es, cl, hb, hr⟩, h2⟩ := h
  exact ⟨D, ⟨es, cl, he.trans hb, hr⟩, h2⟩
theorem own_same {B : Nat} {w w' : World} {q : Option Addr} {cap : Nat} {l : List UInt8} (h : OwnK encB 5 1 B w q cap l) (he : ∀ p, q = some p → w'.heap[p.block]? = w.heap[p.block]?) : OwnK encB 5 1 B w' q cap l := by
  refine ⟨h.1, ?_⟩
  rcases h.2 with h0 | ⟨g, cp, cur, hv, hB, hblk, hr⟩
  · exact Or.inl h0
  · refine Or.inr ⟨g, cp, cur, hv, hB, ?_, hr⟩
    injection hv with h1
    exact (he _ h1).trans hblk
theorem FlAt.same {B : Nat → Prop} {w w' : World} {h c : Nat} {q : Option Addr} {fl : Fl} (hf : FlAt B w h q c fl) (h1 : w'.heap[h]? = w.heap[h]?) (h2 : ∀ p, q = some p → w'.heap[p.block]? = w.heap[p.block]?) : FlAt B w' h q c fl :=
  ⟨hf.1, h1.trans hf.2.1, own_same hf.2.2.1 h2, hf.2.2.2⟩
theorem FlAt.lt {B : Nat → Prop} {w : World} {h c : Nat} {q : Option Addr} {fl : Fl} (hf : FlAt B w h q c fl) : h < w.heap.size := (Array.getElem?_eq_some_iff.1 hf.2.1).1
theorem FlAt.row_lt {B : Nat → Prop} {w : World} {h c : Nat} {q : Option Addr} {fl : Fl} (hf : FlAt B w h q c fl) {p : Addr} (hp : q = some p) : p.block < w.heap.size := by
  obtain ⟨cur, hc⟩ := own_cells hf.2.2.1 hp
  exact (Array.getElem?_eq_some_iff.1 hc).1
/-- A file lies under a name: it was there, or it is new; it is apart from all the others. -/
theorem DkIn.put {B : Nat → Prop} {w w' : World} {g m : Nat} {s : Dk} {h : ByteArray → Nat} {q : ByteArray → Option Addr} {c : ByteArray → Nat} (hd : DkIn B w g s m h q c) {nm : ByteArray} {nh c0 : Nat} {q0 : Option Addr} {fl0 : Fl}
    (hg : w.grownBy w' (some m)) (hm : FM w' m (s.n + 1) (upd (fun k => (s.get k).map fun _ => h k) nm (some nh))) (hf : FlAt B w nh q0 c0 fl0)
    (hap : ∀ k fl, k ≠ nm → s.get k = some fl → h k ≠ nh ∧ ∀ p p', q k = some p → q0 = some p' → p.block ≠ p'.block) :
    DkIn B w' g { s with get := upd s.get nm (some fl0), n := s.n + 1 } m (upF h nm nh) (upF q nm q0) (upF c nm c0) := by
  have hmap : ∀ (k : Nat) (cur : Array Value) (t : TypeId), w.heap[k]? = some (.cells cur t (0, 0)) → k ≠ m := fun k cur t hk e => by
    subst e
    obtain ⟨es, cl, h9⟩ := hd.map.is_map
    rw [hk] at h9
    cases h9
  have hst : ∀ (k : Nat) (cur : Array Value) (t : TypeId), w.heap[k]? = some (.cells cur t (0, 0)) → w'.heap[k]? = w.heap[k]? := fun k cur t hk => hg.block k (Array.getElem?_eq_some_iff.1 hk).1 (by intro e; injection e with e; exact hmap k cur t hk e)
  have hfs : ∀ {h c : Nat} {q : Option Addr} {fl : Fl}, FlAt B w h q c fl → FlAt B w' h q c fl := fun hf => hf.same (hst _ _ _ hf.2.1) (fun p hp => by obtain ⟨cur, hc⟩ := own_cells hf.2.2.1 hp; exact hst _ _ _ hc)
  refine ⟨hd.bg, hd.bm, hd.small, (hst _ _ _ hd.box).trans hd.box, ?_, ?_, ?_⟩
  · refine hm.ext fun k => ?_
    by_cases e : k = nm
    · subst e; simp only [upd_same, upF_same]; rfl
    · simp only [upd_ne _ _ e, upF_ne _ _ e]
  · intro k fl hk
    simp only at hk
    by_cases e : k = nm
    · subst e
      rw [upd_same] at hk
      cases hk
      simp only [upF_same]
      exact hfs hf
    · rw [upd_ne _ _ e] at hk
      simp only [upF_ne _ _ e]
      exact hfs (hd.file k fl hk)
  · intro k k' fl fl' hk hk' hne
    simp only at hk hk'
    by_cases e : k = nm
    · by_cases e' : k' = nm
      · exact absurd (e.trans e'.symm) hne
      · rw [upd_ne _ _ e'] at hk'
        obtain ⟨a1, a2⟩ := hap k' fl' e' hk'
        subst e
        simp only [upF_same, upF_ne _ _ e']
        exact ⟨fun h => a1 h.symm, fun p p' h1 h2 h3 => a2 p' p h2 h1 h3.symm⟩
    · rw [upd_ne _ _ e] at hk
      by_cases e' : k' = nm
      · subst e'
        simp only [upF_same, upF_ne _ _ e]
        exact hap k fl e hk
      · rw [upd_ne _ _ e'] at hk'
        simp only [upF_ne _ _ e, upF_ne _ _ e']
        exact hd.apart k k' fl fl' hk hk' hne
/-- A file goes. -/
theorem DkIn.del {B : Nat → Prop} {w w' : World} {g m : Nat} {s : Dk} {h : ByteArray → Nat} {q : ByteArray → Option Addr} {c : ByteArray → Nat} (hd : DkIn B w g s m h q c) {nm : ByteArray}
    (hg : w.grownBy w' (some m)) (hm : FM w' m s.n (upd (fun k => (s.get k).map fun _ => h k) nm none)) : DkIn B w' g { s with get := upd s.get nm none } m h q c := by
  have hst : ∀ (k : Nat) (cur : Array Value) (t : TypeId), w.heap[k]? = some (.cells cur t (0, 0)) → w'.heap[k]? = w.heap[k]? := fun k cur t hk => hg.block k (Array.getElem?_eq_some_iff.1 hk).1 (by
    intro e; injection e with e
    subst e
    obtain ⟨es, cl, h9⟩ := hd.map.is_map
    rw [hk] at h9
    cases h9)
  have hfs : ∀ {h c : Nat} {q : Option Addr} {fl : Fl}, FlAt B w h q c fl → FlAt B w' h q c fl := fun hf => hf.same (hst _ _ _ hf.2.1) (fun p hp => by obtain ⟨cur, hc⟩ := own_cells hf.2.2.1 hp; exact hst _ _ _ hc)
  have hget : ∀ k fl, upd s.get nm none k = some fl → s.get k = some fl := fun k fl hk => by
    by_cases e : k = nm
    · subst e; rw [upd_same] at hk; cases hk
    · rwa [upd_ne _ _ e] at hk
  refine ⟨hd.bg, hd.bm, hd.small, (hst _ _ _ hd.box).trans hd.box, ?_, fun k fl hk => hfs (hd.file k fl (hget k fl hk)), fun k k' fl fl' hk hk' => hd.apart k k' fl fl' (hget _ _ hk) (hget _ _ hk')⟩
  refine hm.ext fun k => ?_
  by_cases e : k = nm
  · subst e; simp only [upd_same]; rfl
  · simp only [upd_ne _ _ e]
/-- A file is written anew: its box, its row. -/
theorem DkIn.refile {B : Nat → Prop} {w w' : World} {g m : Nat} {s : Dk} {h : ByteArray → Nat} {q : ByteArray → Option Addr} {c : ByteArray → Nat} (hd : DkIn B w g s m h q c) {nm : ByteArray} {fl fl' : Fl} (hf : s.get nm = some fl) {q' : Option Addr} {c' : Nat}
    (hk : ∀ i, i < w.heap.size → i ≠ h nm → (∀ p, q nm = some p → i ≠ p.block) → w'.heap[i]? = w.heap[i]?) (hn : FlAt B w' (h nm) q' c' fl')
    (hrow : ∀ p', q' = some p' → (∃ p, q nm = some p ∧ p.block = p'.block) ∨ w.heap.size ≤ p'.block) :
    DkIn B w' g { s with get := upd s.get nm (some fl') } m h (upF q nm q') (upF c nm c') := by
  have f0 := hd.file nm fl hf
  have hbox : w'.heap[g]? = w.heap[g]? := by
    refine hk g (Array.getElem?_eq_some_iff.1 hd.box).1 ?_ ?_
    · intro e
      have h1 := f0.2.1
      rw [← e, hd.box] at h1
      injection h1 with h1; injection h1 with _ h1; cases h1
    · intro p hp e
      obtain ⟨cur, h1⟩ := own_cells f0.2.2.1 hp
      rw [← e, hd.box] at h1
      injection h1 with h1; injection h1 with _ h1; cases h1
  have hmp : w'.heap[m]? = w.heap[m]? := by
    obtain ⟨es, cl, h9⟩ := hd.map.is_map
    refine hk m hd.map.lt ?_ ?_
    · intro e
      have h1 := f0.2.1
      rw [← e, h9] at h1
      cases h1
    · intro p hp e
      obtain ⟨cur, h1⟩ := own_cells f0.2.2.1 hp
      rw [← e, h9] at h1
      cases h1
  have hoth : ∀ k fl2, k ≠ nm → s.get k = some fl2 → FlAt B w' (h k) (q k) (c k) fl2 := fun k fl2 hne hk2 => by
    have f2 := hd.file k fl2 hk2
    obtain ⟨a1, a2⟩ := hd.apart k nm fl2 fl hk2 hf hne
    refine f2.same (hk _ f2.lt a1 ?_) (fun p hp => hk _ (f2.row_lt hp) ?_ ?_)
    · intro p hp e
      obtain ⟨cur, h1⟩ := own_cells f0.2.2.1 hp
      have h2 := f2.2.1
      rw [e, h1] at h2
      injection h2 with h2; injection h2 with _ h2; cases h2
    · intro e
      obtain ⟨cur, h1⟩ := own_cells f2.2.2.1 hp
      rw [e, f0.2.1] at h1
      injection h1 with h1; injection h1 with _ h1; cases h1
    · intro p' hp'
      exact a2 p p' hp hp'
  refine ⟨hd.bg, hd.bm, hd.small, hbox.trans hd.box, ?_, ?_, ?_⟩
  · refine (hd.map.same hmp).ext fun k => ?_
    by_cases e : k = nm
    · subst e; simp only [upd_same, hf]; rfl
    · simp only [upd_ne _ _ e]
  · intro k fl2 hk2
    simp only at hk2
    by_cases e : k = nm
    · subst e
      rw [upd_same] at hk2
      cases hk2
      simp only [upF_same]
      exact hn
    · rw [upd_ne _ _ e] at hk2
      simp only [upF_ne _ _ e]
      exact hoth k fl2 e hk2
  · intro k k' fl2 fl3 hk2 hk3 hne
    simp only at hk2 hk3
    have key : ∀ k fl2, k ≠ nm → s.get k = some fl2 → ∀ p p', q k = some p → q' = some p' → p.block ≠ p'.block := fun k fl2 e hk2 p p' hp hp' => by
      rcases hrow p' hp' with ⟨p0, h0, h1⟩ | h1
      · rw [← h1]; exact (hd.apart k nm fl2 fl hk2 hf e).2 p p0 hp h0
      · have := (hd.file k fl2 hk2).row_lt hp; omega
    by_cases e : k = nm
    · by_cases e' : k' = nm
      · exact absurd (e.trans e'.symm) hne
      · rw [upd_ne _ _ e'] at hk3
        subst e
        simp only [upF_same, upF_ne _ _ e']
        exact ⟨fun h => (hd.apart k' k fl3 fl hk3 hf e').1 h.symm, fun p p' h1 h2 h3 => key k' fl3 e' hk3 p' p h2 h1 h3.symm⟩
    · rw [upd_ne _ _ e] at hk2
      by_cases e' : k' = nm
      · subst e'
        simp only [upF_same, upF_ne _ _ e]
        exact ⟨(hd.apart k k' fl2 fl hk2 hf e).1, key k fl2 e hk2⟩
      · rw [upd_ne _ _ e'] at hk3
        simp only [upF_ne _ _ e, upF_ne _ _ e']
        exact hd.apart k k' fl2 fl3 hk2 hk3 hne
end Go.Proofs.Ytonhagoeajhacaa

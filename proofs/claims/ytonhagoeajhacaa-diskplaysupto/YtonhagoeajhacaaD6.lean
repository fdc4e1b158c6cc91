/- A crash of both disks. -/
import Derived.Test.YtonhagoeajhacaaD5
import Derived.Test.YtonhagoeajhacaaR11
namespace Go.Proofs.Ytonhagoeajhacaa
open Go.RowKit Go.Sort Go.Shelf

section
variable {B1 P1 B2 : Nat → Prop} {V M : World} {d g : Nat} {B P : Nat → Prop} {W W' : World} {s s0 s' : Dk} {r r0 r' : Rk} {Z : Nat}
theorem Pk.rebase (h : Pk B2 P1 M d g B P W s r) (hfr : Fr B1 g V M) (hbb : ∀ i, B1 i → B2 i) : Pk B1 P1 V d g B P W s r := ⟨h.j, hfr.trans h.fr hbb, fun i hi => h.bb i (hbb i hi), fun i hi hl => h.pp i hi (Nat.lt_of_lt_of_le hl hfr.size)⟩
def offS (s : Dk) : Dk := { s with off := true }
def offR (r : Rk) : Rk := { r with off := true }
theorem rel_off (h : Rel s r Z) : Rel (offS s) (offR r) Z := ⟨h.f, h.acts, rfl, fun e => by cases e⟩
theorem cnt_off (s : Dk) : Cnt s (offS s) := ⟨Nat.le_succ _, Nat.le_succ _⟩
theorem pk11 (h : Pk B1 P1 V d g B P W s r0) (hr : Rel s r Z) (hZ : Z ≤ 500000000) (hn : s.n ≤ 500) (p : Option Addr) (k : Nat) (cs : List Int) (hc : SlOf encI 1 W p k cs) (hcl : cs.length ≤ 100000000) (hp : ∀ b off, p = some ⟨b, off, none⟩ → B b) :
    Calls Try.prog 11 #[.pointer (some ⟨d, 0, none⟩), .slice p cs.length k] W fun e w' => ∃ gf l get', e = .returned (.pointer (some ⟨gf, 0, none⟩)) ∧ NamesOf s.get l ∧ FoundG s.get get' cs l l.length ∧ DkAt (· < W.heap.size) w' gf ⟨get', l.length, 0, false, 0, 0⟩ ∧ l.length ≤ s.n ∧ Pk B1 P1 V d g B P w' (offS s) r0 ∧ Kpt B W w' := by
  have hbd : ¬ B d := by obtain ⟨m, hh, q, c, hi⟩ := h.j.dk; exact hi.bg
  refine (crash_any h.j.dk h.j.sub (by omega) (fun nm fl hf => ?_) p k cs hc (by omega) (fun _ b off hb e => hbd (e ▸ hp b off hb))).mono ?_
  · obtain ⟨o1, _, o3⟩ := hr.f.fit hf
    exact ⟨name_size o1, by omega⟩
  · rintro e w' ⟨⟨gf, l, get', h1, h2, h3, h4, h5⟩, h6, h7⟩
    exact ⟨gf, l, get', h1, h2, h3, h4, h5, h.disk ⟨h6, h7⟩, h7⟩
theorem pk24 (h : Pk B1 P1 V d g B P W s0 r) (hr : Rel s r Z) (hZ : Z ≤ 500000000) (hl : r.fs.length ≤ 500) (p : Option Addr) (k : Nat) (cs : List Int) (hc : SlOf encI 1 W p k cs) (hpg : 0 < cs.length → ∀ a, p = some a → a.block ≠ g) (hcl : cs.length ≤ 100000000) :
    Calls Try.prog 24 #[.pointer (some ⟨g, 0, none⟩), .slice p cs.length k] W fun e w' => e = .returned (.pointer (some ⟨W.heap.size, 0, none⟩)) ∧ (∃ L, CrF r.fs cs L r.fs.length ∧ RAt (fun i => W.heap.size < i) w' W.heap.size ⟨L, 0, false, 0, 0⟩) ∧ Pk B1 P1 V d g (more B W w') (more P W w') w' s0 (offR r) ∧ W.grownBy w' (some g) := by
  obtain ⟨q, c, hi⟩ := h.j.ref
  refine (rcrash_any hi p k cs hc hpg (by omega) (fun x hx => ?_) (by omega)).mono ?_
  · obtain ⟨_, o2, o3⟩ := hr.f.ok x hx
    exact ⟨o2, by omega⟩
  · rintro e w' ⟨h1, h2, h3, h4⟩
    refine ⟨h1, h2, h.refs ⟨?_, h4⟩, h4⟩
    obtain ⟨q', c', h5⟩ := h3
    exact ⟨q', c', h5.mono (fun i hi' _ => Or.inl hi') (fun hh => by
      rcases hh with hh | hh
      · exact h5.pg hh
      · have := hi.glt; omega)⟩
theorem RAt.glt {g : Nat} (h : RAt P W g r) : g < W.heap.size := by obtain ⟨q, c, h⟩ := h; exact h.glt
/-- What is found: the disk first. -/
theorem new1 {W0 W1 W2 : World} {gf : Nat} {sn : Dk} {rn : Rk} (hd : DkAt (· < W0.heap.size) W1 gf sn) (h01 : W0.heap.size ≤ W1.heap.size) (hr : RAt (fun i => W1.heap.size < i) W2 W1.heap.size rn) (hg : W1.grownBy W2 (some g)) (hgl : g < W0.heap.size) :
    J (more (· < W0.heap.size) W1 W2) (fun i => W1.heap.size < i ∧ i < W2.heap.size) W2 gf W1.heap.size sn rn := by
  have hl := RAt.glt hr
  obtain ⟨q, c, hi⟩ := hr
  exact ⟨more_sub (fun i hi => Nat.lt_of_lt_of_le hi h01) hg.size, more_dk hd hgl hg, Or.inr ⟨Nat.le_refl _, hl⟩, fun i hi => Or.inr ⟨by omega, hi.2⟩, q, c, hi.mono (fun i h1 h2 => ⟨h1, h2⟩) (fun h => by omega)⟩
/-- What is found: the document's first. -/
theorem new2 {W0 W1 W2 : World} {gf : Nat} {sn : Dk} {rn : Rk} (hr : RAt (fun i => W0.heap.size < i) W1 W0.heap.size rn) (hd : DkAt (· < W1.heap.size) W2 gf sn) (hk : Kpt (more B W0 W1) W1 W2) :
    J (· < W1.heap.size) (fun i => W0.heap.size < i ∧ i < W1.heap.size) W2 gf W0.heap.size sn rn := by
  have hl := RAt.glt hr
  obtain ⟨q, c, hi⟩ := hr
  have h1 : RIn (fun i => W0.heap.size < i ∧ i < W1.heap.size) W1 W0.heap.size rn q c := hi.mono (fun i h1 h2 => ⟨h1, h2⟩) (fun h => by omega)
  refine ⟨fun i hi => Nat.lt_of_lt_of_le hi hk.size, hd, hl, fun i hi => hi.2, q, c, h1.kept hk.size fun i h2 h3 => hk.block i (Or.inr ⟨?_, h3⟩) h3⟩
  rcases h2 with h2 | h2
  · omega
  · omega
theorem rel_new {get' : ByteArray → Option Fl} {l : List ByteArray} {L : List Rf} {cs : List Int} (hr : Rel s r Z) (hn : NamesOf s.get l) (hf : FoundG s.get get' cs l l.length) (hc : CrF r.fs cs L r.fs.length) : Rel ⟨get', l.length, 0, false, 0, 0⟩ ⟨L, 0, false, 0, 0⟩ Z := ⟨hr.f.crash hn hf hc, rfl, rfl, fun _ => ⟨rfl, rfl⟩⟩
/-- Both, behind a crash. -/
structure CrE (B2 P1 : Nat → Prop) (M : World) (d g : Nat) (s : Dk) (r : Rk) (Z : Nat) (d' g' : Nat) (W : World) : Prop where
  new : ∃ (Bn Pn : Nat → Prop) (sn : Dk) (rn : Rk), J Bn Pn W d' g' sn rn ∧ Rel sn rn Z ∧ sn.n ≤ s.n ∧ sn.acts = 0 ∧ rn.fs.length ≤ r.fs.length ∧ (∀ i, i < M.heap.size → Bn i) ∧ M.heap.size ≤ g'
  old : ∃ (Bo Po : Nat → Prop), Pk B2 P1 M d g Bo Po W (offS s) (offR r)
theorem CrE.below {d' g' : Nat} (h : CrE B2 P1 M d g s r Z d' g' W) (hb : Below W.heap.size W W') : CrE B2 P1 M d g s r Z d' g' W' := by
  obtain ⟨⟨Bn, Pn, sn, rn, h1, h2⟩, Bo, Po, h3⟩ := h
  exact ⟨⟨Bn, Pn, sn, rn, h1.below hb, h2⟩, Bo, Po, h3.below hb⟩
end
end Go.Proofs.Ytonhagoeajhacaa

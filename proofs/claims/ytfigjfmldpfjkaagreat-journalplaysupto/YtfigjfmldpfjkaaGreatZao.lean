/- One call on both journals: what it leaves. -/
import Derived.Test.YtfigjfmldpfjkaaGreatK5
namespace Go.Proofs.YtfigjfmldpfjkaaGreat
open Go.RowKit Go.Sort Go.Shelf

theorem split2 {V V2 : World} {g gs : Nat} (h : Kpt (fun i => i ≠ g ∧ i ≠ gs) V V2) (hg : g < V.heap.size) : ∃ Vm, V.grownBy Vm (some gs) ∧ Vm.grownBy V2 (some g) := by
  have hg2 := Nat.lt_of_lt_of_le hg h.size
  refine ⟨{ V2 with heap := V2.heap.set g (V.heap[g]'hg) hg2 }, ⟨h.os, h.tape, h.output, by simp only [Array.size_set]; exact h.size, fun i hi hne => ?_⟩, ⟨rfl, rfl, rfl, by simp only [Array.size_set]; exact Nat.le_refl _, fun i hi hne => ?_⟩⟩
  · by_cases e : g = i
    · subst e
      show (V2.heap.set g _ hg2)[g]? = _
      rw [Array.getElem?_set_self]
      exact (Array.getElem?_eq_getElem hg).symm
    · show (V2.heap.set g _ hg2)[i]? = _
      rw [Array.getElem?_set_ne hg2 e]
      exact h.block i ⟨fun e' => e e'.symm, fun e' => hne (by rw [e'])⟩ hi
  · have e : g ≠ i := fun e => hne (by rw [e])
    show _ = (V2.heap.set g _ hg2)[i]?
    rw [Array.getElem?_set_ne hg2 e]
section
variable {B P : Nat → Prop} {w w' : World} {gw d g gj gs : Nat} {r r' : Rk} {s s' : JS} {M A M' A' Z : Nat} {x x' : JX} {L L' : List Ch}
/-- Behind a call on both journals. -/
theorem jpair_end {V V2 : World} (h : KM B P w gw d g (some gj) (some gs) r) (hj : KJ B P w gw d g gj gs x L s M) (h1 : JrAt B V gj d s' x') (hk : Kpt B w V) (hq : RqEnd P V gs g s' L' x' Z V2) (hs : Sz s' M' A') (l1 : L'.length ≤ M') (l2 : x'.bytes ≤ M') (l3 : x'.pend ≤ M') : KE B P w gw g d g s' M' A' V2 := by
  have hV := h.prog hk
  have hgl := hV.gl
  have hwl := hV.lt
  have hsl : gs < V.heap.size := hV.sub gs hj.bs
  obtain ⟨⟨r2, rel2, rat2⟩, rj2, fr⟩ := hq
  obtain ⟨Vm, g1, g2⟩ := split2 fr hgl
  have hss : V.heap.size ≤ V2.heap.size := Nat.le_trans g1.size g2.size
  have nps : ¬ P gs := by obtain ⟨_, _, h9⟩ := hj.rj; exact h9.pg
  have nes : gs ≠ g := by obtain ⟨_, _, h9⟩ := hj.rj; exact h9.ne
  have box2 := (fr.block gw ⟨h.wg, fun e => hj.ne e.symm⟩ hwl).trans hV.box
  have jr2 : JrAt (moreB B V V2) V2 gj d s' x' := (((h1.more (B' := moreB B V V2) fun i hi => by
    rcases hi with hi | hi
    · exact Or.inl hi
    · exact Or.inr (Or.inl hi.1)).other g1 (Or.inl hj.bs)).other g2 (Or.inl h.bg))
  have hmono : ∀ i, (P i ∨ V.heap.size ≤ i) → i < V2.heap.size → moreB P V V2 i := fun i hi hl => by
    rcases hi with hi | hi
    · exact Or.inl hi
    · exact Or.inr ⟨hi, hl⟩
  have ng : ¬ moreB P V V2 g := fun hp => by
    rcases hp with hp | hp
    · exact h.pg hp
    · omega
  have ngs : ¬ moreB P V V2 gs := fun hp => by
    rcases hp with hp | hp
    · exact nps hp
    · omega
  refine ⟨moreB B V V2, moreB P V V2, ⟨r2, rel_sz rel2 hs, hs, Or.inr ⟨gj, gs, x', L', ⟨moreB_sub hV.sub hss, box2, Or.inl h.bw, Or.inl h.bg, fun i hi => ?_, fun hp => ?_, h.wg, ?_⟩, ⟨jr2, ?_, Or.inl hj.bs, hj.ne, l1, l2, l3⟩⟩⟩, fun i hi => Or.inl hi, ?_, fun i hi => ?_, fun gs' h9 => ?_⟩
  · rcases hi with hi | hi
    · exact Or.inl (h.pb i hi)
    · exact Or.inr hi
  · rcases hp with hp | hp
    · exact h.pw hp
    · omega
  · obtain ⟨q, c, hi⟩ := rat2
    exact ⟨q, c, hi.mono hmono ng⟩
  · obtain ⟨q, c, hi⟩ := rj2
    exact ⟨q, c, hi.mono hmono ngs⟩
  · refine hk.mono (fun i hi => hi.1) |>.trans ⟨fr.os, fr.tape, fr.output, hss, fun i hi hl => fr.block i ⟨hi.2.1, fun e => ?_⟩ hl⟩
    refine hi.2.2.2 ?_
    rw [(cellsW h.box).1.2.2.2, e]
    rfl
  · rcases hi with hi | hi
    · exact Or.inl hi
    · exact Or.inr (Nat.le_trans hk.size hi.1)
  · refine Or.inr ?_
    rw [(cellsW box2).1.2.2.2] at h9
    rw [(cellsW h.box).1.2.2.2]
    exact h9
end
end Go.Proofs.YtfigjfmldpfjkaaGreat
namespace Go.Proofs.YtfigjfmldpfjkaaGreat
open Go.RowKit Go.Sort Go.Shelf

section
variable {B P : Nat → Prop} {w w' : World} {gw d g gj gs : Nat} {r r' : Rk} {s s' : JS} {M A M' A' Z : Nat} {x x' : JX} {L L' : List Ch}
theorem jApp_sz (hs : Sz s M A) (h1 : L.length ≤ M) (h2 : x.bytes ≤ M) (h3 : x.pend ≤ M) (cs : List Ch) : Sz (jApp s x cs).2.1 (M + cs.length * 4130) (A + 1) ∧ (appL s x L cs).length ≤ M + cs.length * 4130 ∧ (jApp s x cs).2.2.bytes ≤ M + cs.length * 4130 ∧ (jApp s x cs).2.2.pend ≤ M + cs.length * 4130 := by
  have hl : (appL s x L cs).length ≤ M + cs.length * 4130 := by
    unfold appL
    split
    · rw [List.length_append]; omega
    · omega
  have hm : Sz s (M + cs.length * 4130) (A + 1) := hs.mono (by omega) (by omega)
  refine ⟨?_, hl, ?_⟩
  · unfold jApp
    split
    · exact hm
    · split
      · exact hm
      · rename_i hmay
        have hmay : ∀ c ∈ cs, MayB c := Classical.byContradiction hmay
        have he := encs_len cs hmay
        split
        · exact hm
        · split
          · exact (sz_appJ hs _).mono (by omega) (by omega)
          · exact (sz_appJ hs _).mono (by omega) (by omega)
  · unfold jApp
    split
    · exact ⟨by show x.bytes ≤ _; omega, by show x.pend ≤ _; omega⟩
    · split
      · exact ⟨by show x.bytes ≤ _; omega, by show x.pend ≤ _; omega⟩
      · rename_i hmay
        have hmay : ∀ c ∈ cs, MayB c := Classical.byContradiction hmay
        have he := encs_len cs hmay
        split
        · exact ⟨by show x.bytes ≤ _; omega, by show x.pend ≤ _; omega⟩
        · split
          · exact ⟨by show x.bytes ≤ _; omega, by show x.pend ≤ _; omega⟩
          · exact ⟨by show x.bytes + _ ≤ _; omega, by show x.pend + _ ≤ _; omega⟩
theorem jSyn_sz (hs : Sz s M A) (h2 : x.bytes ≤ M) (h3 : x.pend ≤ M) : Sz (jSyn s x).2.1 M (A + 1) ∧ (jSyn s x).2.2.bytes ≤ M ∧ (jSyn s x).2.2.pend ≤ M := by
  have hm : Sz s M (A + 1) := hs.mono (by omega) (by omega)
  unfold jSyn
  split
  · exact ⟨hm, h2, h3⟩
  · split
    · exact ⟨hm, h2, h3⟩
    · split
      · exact ⟨sz_synJ hs, h2, h3⟩
      · exact ⟨sz_synJ hs, h2, Nat.zero_le _⟩
theorem jRew_sz (hs : Sz s M A) (h1 : L.length ≤ M) (h2 : x.bytes ≤ M) (h3 : x.pend ≤ M) (n : Int) (cs : List Ch) : Sz (jRew s x n cs).2.1 (M + (20 + cs.length * 4130)) (A + 3) ∧ (rewL s x n L cs).length ≤ M + (20 + cs.length * 4130) ∧ (jRew s x n cs).2.2.bytes ≤ M + (20 + cs.length * 4130) ∧ (jRew s x n cs).2.2.pend ≤ M + (20 + cs.length * 4130) := by
  have hl : (rewL s x n L cs).length ≤ M + (20 + cs.length * 4130) := by
    unfold rewL
    split <;> omega
  have hm : Sz s (M + (20 + cs.length * 4130)) (A + 3) := hs.mono (by omega) (by omega)
  have hw := wh_len n cs
  have hz : Sz (writeM s (whB n cs)).2 (M + (20 + cs.length * 4130)) (A + 3) := sz_write ((sz_appR hs _).mono (by omega) (by omega))
  refine ⟨?_, hl, ?_⟩
  · unfold jRew
    split
    · exact hm
    · split
      · exact hm
      · split
        · exact hz
        · exact hz
  · unfold jRew
    split
    · exact ⟨by show x.bytes ≤ _; omega, by show x.pend ≤ _; omega⟩
    · split
      · exact ⟨by show x.bytes ≤ _; omega, by show x.pend ≤ _; omega⟩
      · split
        · exact ⟨by show x.bytes ≤ _; omega, by show x.pend ≤ _; omega⟩
        · exact ⟨by show (whB n cs).length ≤ _; omega, Nat.zero_le _⟩
/-- The program's journal has been called. -/
def P1 (B : Nat → Prop) (w : World) (gj d : Nat) (s' : JS) (x' : JX) (V : World) : Prop := JrAt B V gj d s' x' ∧ Kpt B w V
theorem P1.below {V V' : World} (h : P1 B w gj d s' x' V) (hb : Below V.heap.size V V') : P1 B w gj d s' x' V' := ⟨h.1.below hb, h.2.trans (Kpt.of hb)⟩
theorem P1.box {V : World} (h : P1 B w gj d s' x' V) {j0 s0 : Option Nat} (hk : KM B P w gw d g j0 s0 r) : (V.cell? ⟨gw, 0, none⟩ = some (.pointer (some ⟨d, 0, none⟩)) ∧ V.cell? ⟨gw, 1, none⟩ = some (ptrO j0) ∧ V.cell? ⟨gw, 2, none⟩ = some (.pointer (some ⟨g, 0, none⟩)) ∧ V.cell? ⟨gw, 3, none⟩ = some (ptrO s0)) ∧ ∀ o, V.frozen? ⟨gw, o, none⟩ = false := cellsW (hk.prog h.2).box
theorem KJ.fits (hj : KJ B P w gw d g gj gs x L s M) (hM : M ≤ 25000000000) : Fits x := by
  obtain ⟨q, c, hi⟩ := hj.rj
  have h1 := hj.l1
  have h2 := hj.l2
  have h3 := hj.l3
  have h4 := hi.cnt
  exact ⟨by omega, by omega, by omega⟩
theorem KJ.rin {V : World} (h : KM B P w gw d g (some gj) (some gs) r) (hj : KJ B P w gw d g gj gs x L s M) (hk : Kpt B w V) : ∃ q c qj cj, RIn P V g r q c ∧ RjIn P V gs g L x qj cj := by
  obtain ⟨q, c, hi⟩ := (h.prog hk).ref
  obtain ⟨qj, cj, hi2⟩ := hj.rj
  refine ⟨q, c, qj, cj, hi, hi2.kept hk.size fun i hi hl => hk.block i ?_ hl⟩
  rcases hi with hi | rfl
  · exact h.pb i hi
  · exact hj.bs
theorem kapp1 (h : KM B P w gw d g (some gj) (some gs) r) (hj : KJ B P w gw d g gj gs x L s M) (hs : Sz s M A) (hA : A ≤ 5000) {cs : List Ch} (hM : M + cs.length * 4130 ≤ 25000000000) {q : Option Addr} {c : Nat} (hc : SlOf encC 3 w q c cs) {W : World} (hb : Below w.heap.size w W) :
    Calls Tryz.prog 11 #[.pointer (some ⟨gj, 0, none⟩), .slice q cs.length c] W fun e V => e = .returned (.int .i64 (jApp s x cs).1) ∧ P1 B w gj d (jApp s x cs).2.1 (jApp s x cs).2.2 V := by
  have h1 := hs.1
  have h3 := hs.2.2
  refine (japp_any (hj.jr.below hb) q c cs (h.sub.trans hb.size) (by omega) (hc.below hb) (by omega) (hj.fits (by omega)) (by omega)).mono ?_
  rintro e V ⟨h4, h5, h6⟩
  exact ⟨h4, h5, (Kpt.of hb).trans h6⟩
theorem kapp2 (h : KM B P w gw d g (some gj) (some gs) r) (hj : KJ B P w gw d g gj gs x L s M) (hr : RelJ s r M) (hs : Sz s M A) (hA : A ≤ 5000) {cs : List Ch} (hM : M + cs.length * 4130 ≤ 25000000000) {q : Option Addr} {c : Nat} (hc : SlIn encC 3 (fun i => B i ∧ i ≠ g ∧ i ≠ gs) w q c cs) {V : World} (h1 : P1 B w gj d (jApp s x cs).2.1 (jApp s x cs).2.2 V) :
    Calls Tryz.prog 31 #[.pointer (some ⟨gs, 0, none⟩), .slice q cs.length c] V fun e V2 => e = .returned (.int .i64 (jApp s x cs).1) ∧ KE B P w gw g d g (jApp s x cs).2.1 (M + cs.length * 4130) (A + 1) V2 := by
  have h3 := hs.2.2
  have hl1 := hj.l1
  obtain ⟨q1, c1, qj, cj, i1, i2⟩ := hj.rin h h1.2
  have hcw := hc.kept h1.2.size fun i hi hl => h1.2.block i hi.1 hl
  obtain ⟨z1, z2, z3, z4⟩ := jApp_sz hs hj.l1 hj.l2 hj.l3 cs
  refine (rjapp i1 i2 hr (by omega) (by omega) (hj.fits (by omega)) (by omega) q c cs hcw.1 (fun h0 a ha => (hc.2 h0 a ha).2) (by omega)).mono ?_
  rintro e V2 ⟨h4, h5⟩
  exact ⟨h4, jpair_end h hj h1.1 h1.2 h5 z1 z2 z3 z4⟩
theorem ksyn1 (h : KM B P w gw d g (some gj) (some gs) r) (hj : KJ B P w gw d g gj gs x L s M) (hs : Sz s M A) (hA : A ≤ 5000) {W : World} (hb : Below w.heap.size w W) :
    Calls Tryz.prog 12 #[.pointer (some ⟨gj, 0, none⟩)] W fun e V => e = .returned (.int .i64 (jSyn s x).1) ∧ P1 B w gj d (jSyn s x).2.1 (jSyn s x).2.2 V := by
  have h3 := hs.2.2
  refine (jsyn_any (hj.jr.below hb) (h.sub.trans hb.size) (by omega)).mono ?_
  rintro e V ⟨h4, h5, h6⟩
  exact ⟨h4, h5, (Kpt.of hb).trans h6⟩
theorem ksyn2 (h : KM B P w gw d g (some gj) (some gs) r) (hj : KJ B P w gw d g gj gs x L s M) (hr : RelJ s r M) (hs : Sz s M A) (hA : A ≤ 5000) {V : World} (h1 : P1 B w gj d (jSyn s x).2.1 (jSyn s x).2.2 V) :
    Calls Tryz.prog 32 #[.pointer (some ⟨gs, 0, none⟩)] V fun e V2 => e = .returned (.int .i64 (jSyn s x).1) ∧ KE B P w gw g d g (jSyn s x).2.1 M (A + 1) V2 := by
  have h3 := hs.2.2
  obtain ⟨q1, c1, qj, cj, i1, i2⟩ := hj.rin h h1.2
  obtain ⟨z1, z3, z4⟩ := jSyn_sz hs hj.l2 hj.l3
  refine (rjsyn i1 i2 hr (by omega)).mono ?_
  rintro e V2 ⟨h4, h5⟩
  exact ⟨h4, jpair_end h hj h1.1 h1.2 h5 z1 hj.l1 z3 z4⟩
theorem krew1 (h : KM B P w gw d g (some gj) (some gs) r) (hj : KJ B P w gw d g gj gs x L s M) (hs : Sz s M A) (hA : A ≤ 5000) (n : Int) {cs : List Ch} (hM : M + (20 + cs.length * 4130) ≤ 25000000000) {q : Option Addr} {c : Nat} (hc : SlOf encC 3 w q c cs) {W : World} (hb : Below w.heap.size w W) :
    Calls Tryz.prog 13 #[.pointer (some ⟨gj, 0, none⟩), .int .i64 n, .slice q cs.length c] W fun e V => e = .returned (.int .i64 (jRew s x n cs).1) ∧ P1 B w gj d (jRew s x n cs).2.1 (jRew s x n cs).2.2 V := by
  have h2 := hs.2.1
  have h3 := hs.2.2
  refine (jrew_any (hj.jr.below hb) n q c cs (h.sub.trans hb.size) (by omega) (hc.below hb) (by omega) (by omega)).mono ?_
  rintro e V ⟨h4, h5, h6⟩
  exact ⟨h4, h5, (Kpt.of hb).trans h6⟩
theorem krew2 (h : KM B P w gw d g (some gj) (some gs) r) (hj : KJ B P w gw d g gj gs x L s M) (hr : RelJ s r M) (hs : Sz s M A) (hA : A ≤ 5000) (n : Int) {cs : List Ch} (hM : M + (20 + cs.length * 4130) ≤ 25000000000) {q : Option Addr} {c : Nat} (hc : SlIn encC 3 (fun i => B i ∧ i ≠ g ∧ i ≠ gs) w q c cs) {V : World} (h1 : P1 B w gj d (jRew s x n cs).2.1 (jRew s x n cs).2.2 V) :
    Calls Tryz.prog 33 #[.pointer (some ⟨gs, 0, none⟩), .int .i64 n, .slice q cs.length c] V fun e V2 => e = .returned (.int .i64 (jRew s x n cs).1) ∧ KE B P w gw g d g (jRew s x n cs).2.1 (M + (20 + cs.length * 4130)) (A + 3) V2 := by
  have h3 := hs.2.2
  obtain ⟨q1, c1, qj, cj, i1, i2⟩ := hj.rin h h1.2
  have hcw := hc.kept h1.2.size fun i hi hl => h1.2.block i hi.1 hl
  obtain ⟨z1, z2, z3, z4⟩ := jRew_sz hs hj.l1 hj.l2 hj.l3 n cs
  refine (rjrew i1 i2 hr (by omega) (by omega) n q c cs hcw.1 (fun h0 a ha => (hc.2 h0 a ha).2) (by omega)).mono ?_
  rintro e V2 ⟨h4, h5⟩
  exact ⟨h4, jpair_end h hj h1.1 h1.2 h5 z1 z2 z3 z4⟩
end
end Go.Proofs.YtfigjfmldpfjkaaGreat
namespace Go.Proofs.YtfigjfmldpfjkaaGreat
open Go.RowKit Go.Sort Go.Shelf

section
variable {B P : Nat → Prop} {w w' : World} {gw d g gj gs : Nat} {j0 s0 : Option Nat} {r r' : Rk} {s s' : JS} {M A M' A' Z : Nat} {x x' : JX} {L L' : List Ch}
/-- The program's disk has been called. -/
def D1 (B : Nat → Prop) (w : World) (d : Nat) (s' : JS) (V : World) : Prop := JAt B V d s' ∧ Kpt B w V
theorem D1.below {V V' : World} (h : D1 B w d s' V) (hb : Below V.heap.size V V') : D1 B w d s' V' := ⟨h.1.below hb, h.2.trans (Kpt.of hb)⟩
theorem D1.box {V : World} (h : D1 B w d s' V) (hk : KM B P w gw d g j0 s0 r) : (V.cell? ⟨gw, 0, none⟩ = some (.pointer (some ⟨d, 0, none⟩)) ∧ V.cell? ⟨gw, 1, none⟩ = some (ptrO j0) ∧ V.cell? ⟨gw, 2, none⟩ = some (.pointer (some ⟨g, 0, none⟩)) ∧ V.cell? ⟨gw, 3, none⟩ = some (ptrO s0)) ∧ ∀ o, V.frozen? ⟨gw, o, none⟩ = false := cellsW (hk.prog h.2).box
/-- Both disks have been called. -/
structure D2 (B P : Nat → Prop) (w : World) (gw d g : Nat) (j0 s0 : Option Nat) (s' : JS) (M' A' : Nat) (V2 : World) : Prop where
  all : ∃ B' P' r', KM B' P' V2 gw d g j0 s0 r' ∧ JAt B' V2 d s' ∧ RelJ s' r' M' ∧ (∀ i, B i → B' i) ∧ (∀ i, P' i → P i ∨ w.heap.size ≤ i)
  sz : Sz s' M' A'
  fr : Kpt (fun i => B i ∧ i ≠ g) w V2
theorem D2.box {V : World} (h : D2 B P w gw d g j0 s0 s' M' A' V) : (V.cell? ⟨gw, 0, none⟩ = some (.pointer (some ⟨d, 0, none⟩)) ∧ V.cell? ⟨gw, 1, none⟩ = some (ptrO j0) ∧ V.cell? ⟨gw, 2, none⟩ = some (.pointer (some ⟨g, 0, none⟩)) ∧ V.cell? ⟨gw, 3, none⟩ = some (ptrO s0)) ∧ ∀ o, V.frozen? ⟨gw, o, none⟩ = false := by
  obtain ⟨B', P', r', h1, _⟩ := h.all
  exact cellsW h1.box
theorem D2.below {V V' : World} (h : D2 B P w gw d g j0 s0 s' M' A' V) (hb : Below V.heap.size V V') : D2 B P w gw d g j0 s0 s' M' A' V' := by
  obtain ⟨⟨B', P', r', h1, h2, h3⟩, h4, h5⟩ := h
  exact ⟨⟨B', P', r', h1.below hb, h2.below hb, h3⟩, h4, h5.trans (Kpt.of hb)⟩
theorem dpair {V V2 : World} (h : KM B P w gw d g j0 s0 r) (h1 : D1 B w d s' V) (f : RfJ P V g s' Z V2) (hs : Sz s' M' A') : D2 B P w gw d g j0 s0 s' M' A' V2 := by
  obtain ⟨r2, rel2, rat2, g2⟩ := f
  have hV := h.prog h1.2
  refine ⟨⟨_, _, r2, hV.disk rat2 g2, h1.1.wide g2 hV.bg, rel_sz rel2 hs, fun i hi => Or.inl hi, fun i hi => ?_⟩, hs, ?_⟩
  · rcases hi with hi | hi
    · exact Or.inl hi
    · exact Or.inr (Nat.le_trans h1.2.size hi.1)
  · exact (h1.2.mono fun i hi => hi.1).trans (kpt_grown g2 (fun h => h.2 rfl))
theorem D2.none {V : World} (h : D2 B P w gw d g none none s' M' A' V) : KE B P w gw g d g s' M' A' V := by
  have hb := h.box
  obtain ⟨⟨B', P', r', h1, h2, h3, h4, h5⟩, h6, h7⟩ := h
  refine ⟨B', P', ⟨r', h3, h6, Or.inl ⟨h1, h2⟩⟩, h4, h7.mono fun i hi => ⟨hi.1, hi.2.1⟩, h5, fun gs h9 => ?_⟩
  rw [hb.1.2.2.2] at h9
  cases h9
theorem dpair_some {V V2 : World} (h : KM B P w gw d g (some gj) (some gs) r) (hj : KJ B P w gw d g gj gs x L s M) (h1 : P1 B w gj d s' x V) (f : RfJ P V g s' Z V2) (hs : Sz s' M' A') (hm : M ≤ M') : KE B P w gw g d g s' M' A' V2 := by
  have hd := dpair h ⟨h1.1.jat, h1.2⟩ f hs
  obtain ⟨r2, rel2, rat2, g2⟩ := f
  have hV := h.prog h1.2
  have hgl := hV.gl
  have hsl : gs < V.heap.size := hV.sub gs hj.bs
  obtain ⟨_, _, qj, cj, _, i2⟩ := hj.rin h h1.2
  have rj2 : RjAt (moreB P V V2) V2 gs g L x := by
    obtain ⟨qq, cc, i3⟩ := RjAt.turn ⟨qj, cj, i2⟩ g2 (fun e => i2.ne e.symm) h.pg
    exact ⟨qq, cc, i3.mono (fun i hi _ => Or.inl hi) (fun hp => by
      rcases hp with hp | hp
      · exact i2.pg hp
      · omega)⟩
  refine ⟨_, _, ⟨r2, rel_sz rel2 hs, hs, Or.inr ⟨gj, gs, x, L, hV.disk rat2 g2, h1.1.wide g2 hV.bg, rj2, Or.inl hj.bs, hj.ne, Nat.le_trans hj.l1 hm, Nat.le_trans hj.l2 hm, Nat.le_trans hj.l3 hm⟩⟩, fun i hi => Or.inl hi, hd.fr.mono fun i hi => ⟨hi.1, hi.2.1⟩, fun i hi => ?_, fun gs' h9 => ?_⟩
  · rcases hi with hi | hi
    · exact Or.inl hi
    · exact Or.inr (Nat.le_trans h1.2.size hi.1)
  · refine Or.inr ?_
    rw [hd.box.1.2.2.2] at h9
    rw [(cellsW h.box).1.2.2.2]
    exact h9
theorem karm1_none (h : KM B P w gw d g j0 s0 r) (hd : JAt B w d s) (n p : Int) (hn : n ≤ 9223372036854775807) {W : World} (hb : Below w.heap.size w W) :
    Calls Tryz.prog 10 #[.pointer (some ⟨d, 0, none⟩), .int .i64 n, .int .i64 p] W fun e V => e = .returned (.int .i64 (if s.off then 40 else 0)) ∧ D1 B w d (armJ s n p) V := by
  refine (armJ_d (hd.below hb) (h.sub.trans hb.size) n p hn).mono ?_
  rintro e V ⟨h1, h2, h3⟩
  exact ⟨h1, h2, (Kpt.of hb).trans h3⟩
theorem karm2_none (h : KM B P w gw d g none none r) (hr : RelJ s r M) (hs : Sz s M A) (n p : Int) (hn : n ≤ 9223372036854775807) {V : World} (h1 : D1 B w d (armJ s n p) V) :
    Calls Tryz.prog 27 #[.pointer (some ⟨g, 0, none⟩), .int .i64 n, .int .i64 p] V fun e V2 => e = .returned (.int .i64 (if s.off then 40 else 0)) ∧ KE B P w gw g d g (armJ s n p) M A V2 := by
  obtain ⟨q, c, hi⟩ := (h.prog h1.2).ref
  refine (rarmJ hi hr n p hn).mono ?_
  rintro e V2 ⟨h2, h3⟩
  exact ⟨h2, (dpair h h1 h3 (sz_arm hs n p)).none⟩
theorem karm1_some (h : KM B P w gw d g (some gj) (some gs) r) (hj : KJ B P w gw d g gj gs x L s M) (n p : Int) (hn : n ≤ 9223372036854775807) {W : World} (hb : Below w.heap.size w W) :
    Calls Tryz.prog 10 #[.pointer (some ⟨d, 0, none⟩), .int .i64 n, .int .i64 p] W fun e V => e = .returned (.int .i64 (if s.off then 40 else 0)) ∧ P1 B w gj d (armJ s n p) x V := by
  have hj1 := hj.jr.below hb
  refine (armJ_d hj1.disk ((h.sub.trans hb.size).plus hj1.lt) n p hn).mono ?_
  rintro e V ⟨h1, h2, h3⟩
  exact ⟨h1, ⟨BoxJ.kept hj1.box h3, hj1.nb, h2⟩, (Kpt.of hb).trans (PlusB.less h3)⟩
theorem karm2_some (h : KM B P w gw d g (some gj) (some gs) r) (hj : KJ B P w gw d g gj gs x L s M) (hr : RelJ s r M) (hs : Sz s M A) (n p : Int) (hn : n ≤ 9223372036854775807) {V : World} (h1 : P1 B w gj d (armJ s n p) x V) :
    Calls Tryz.prog 27 #[.pointer (some ⟨g, 0, none⟩), .int .i64 n, .int .i64 p] V fun e V2 => e = .returned (.int .i64 (if s.off then 40 else 0)) ∧ KE B P w gw g d g (armJ s n p) M A V2 := by
  obtain ⟨q, c, hi⟩ := (h.prog h1.2).ref
  refine (rarmJ hi hr n p hn).mono ?_
  rintro e V2 ⟨h2, h3⟩
  exact ⟨h2, dpair_some h hj h1 h3 (sz_arm hs n p) (Nat.le_refl _)⟩
/-- Bytes for one of the files. -/
def apn (s : JS) (b : Bool) (data : List UInt8) : Int × JS := if b then appR s data else appJ s data
def nmO (b : Bool) : ByteArray := if b then nR else nJ
theorem apn_sz (hs : Sz s M A) (b : Bool) (data : List UInt8) : Sz (apn s b data).2 (M + data.length) (A + 1) := by
  cases b
  · exact sz_appJ hs data
  · exact sz_appR hs data
theorem kdat1 (h : KM B P w gw d g j0 s0 r) (hd : JAt B w d s) (hs : Sz s M A) (hA : A ≤ 5000) (b : Bool) {data : List UInt8} (hM : M + data.length ≤ 25000000000) {q : Option Addr} {c : Nat} (hc : SlOf encB 1 w q c data) {W : World} (hb : Below w.heap.size w W) :
    Calls Tryz.prog 29 #[.pointer (some ⟨d, 0, none⟩), .string (nmO b), .slice q data.length c] W fun e V => e = .returned (.int .i64 (apn s b data).1) ∧ D1 B w d (apn s b data).2 V := by
  have h1 := hs.1
  have h2 := hs.2.1
  have h3 := hs.2.2
  cases b
  · refine (appJ_any (hd.below hb) (h.sub.trans hb.size) (by omega) q c data (hc.below hb) (by omega)).mono ?_
    rintro e V ⟨h4, h5, h6⟩
    exact ⟨h4, h5, (Kpt.of hb).trans h6⟩
  · refine (appR_any (hd.below hb) (h.sub.trans hb.size) (by omega) q c data (hc.below hb) (by omega)).mono ?_
    rintro e V ⟨h4, h5, h6⟩
    exact ⟨h4, h5, (Kpt.of hb).trans h6⟩
theorem kdat2 (h : KM B P w gw d g j0 s0 r) (hr : RelJ s r M) (hs : Sz s M A) (hA : A ≤ 5000) (b : Bool) {data : List UInt8} (hM : M + data.length ≤ 25000000000) {q : Option Addr} {c : Nat} (hc : SlIn encB 1 (fun i => B i ∧ i ≠ g) w q c data) {V : World} (h1 : D1 B w d (apn s b data).2 V) :
    Calls Tryz.prog 30 #[.pointer (some ⟨g, 0, none⟩), .string (nmO b), .slice q data.length c] V fun e V2 => e = .returned (.int .i64 (apn s b data).1) ∧ D2 B P w gw d g j0 s0 (apn s b data).2 (M + data.length) (A + 1) V2 := by
  have h3 := hs.2.2
  obtain ⟨q1, c1, hi⟩ := (h.prog h1.2).ref
  have hcw := hc.kept h1.2.size fun i hi hl => h1.2.block i hi.1 hl
  have hz := apn_sz hs b data
  cases b
  · refine (rappJ hi hr (by omega) (by omega) q c data hcw.1 (fun h0 a ha => (hc.2 h0 a ha).2) (by omega)).mono ?_
    rintro e V2 ⟨h4, h5⟩
    exact ⟨h4, dpair h h1 h5 hz⟩
  · refine (rappR hi hr (by omega) (by omega) q c data hcw.1 (fun h0 a ha => (hc.2 h0 a ha).2) (by omega)).mono ?_
    rintro e V2 ⟨h4, h5⟩
    exact ⟨h4, dpair h h1 h5 hz⟩
theorem kdat3 {V2 : World} (h2 : D2 B P w gw d g j0 s0 s' M' A' V2) (h20 : 20 ≤ M') (hM : M' ≤ 25000000000) (hA : A' ≤ 5000) {cs : List Int} (hcl : cs.length ≤ 25000000000) {q : Option Addr} {c : Nat} (hc : SlIn encI 1 (fun i => B i ∧ i ≠ g ∧ i ≠ gw) w q c cs) (hcell : w.cell? ⟨gw, 3, none⟩ = some (ptrO s0)) :
    Calls Tryz.prog 28 #[.pointer (some ⟨gw, 0, none⟩), .slice q cs.length c] V2 fun e w' => e = .returned (.bool true) ∧ KX B P w gw g (openM (crashM s' cs)).2 M' 4 w' := by
  have hb := h2.box
  obtain ⟨⟨B', P', r', h3, h4, h5, h6, h7⟩, h8, h9⟩ := h2
  have hcw : SlIn encI 1 (fun i => B' i ∧ i ≠ g ∧ i ≠ gw) V2 q c cs := (hc.kept h9.size fun i hi hl => h9.block i ⟨hi.1, hi.2.1⟩ hl).mono fun i hi _ => ⟨h6 i hi.1, hi.2⟩
  refine (wcrash_any h3 h4 h5 h8 h20 hM hA q c cs hcw hcl).mono ?_
  rintro e w' ⟨h10, d', g', h11, B2, P2, h12, h13, h14, h15, h16⟩
  refine ⟨h10, d', g', h11.imp id (Nat.le_trans h9.size), B2, P2, h12, fun i hi => h13 i (h6 i hi), (h9.mono fun i hi => ⟨hi.1, hi.2.1⟩).trans (h14.mono fun i hi => ⟨h6 i hi.1, hi.2.1, hi.2.2.1, ?_⟩), fun i hi => ?_, fun gs h17 => ?_⟩
  · rw [hb.1.2.2.2, ← hcell]; exact hi.2.2.2
  · rcases h15 i hi with h | h
    · exact h7 i h
    · exact Or.inr (Nat.le_trans h9.size h)
  · rcases h16 gs h17 with h | h
    · exact Or.inl (Nat.le_trans h9.size h)
    · rw [hb.1.2.2.2, ← hcell] at h; exact Or.inr h
end
end Go.Proofs.YtfigjfmldpfjkaaGreat

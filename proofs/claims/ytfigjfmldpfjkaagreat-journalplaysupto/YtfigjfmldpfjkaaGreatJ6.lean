/- A journal's calls: Append, Sync, Rewrite, Count, Bytes, Pending. -/
import Derived.Test.YtfigjfmldpfjkaaGreatJ5
namespace Go.Proofs.YtfigjfmldpfjkaaGreat
open Go.RowKit Go.Sort Go.Shelf

/-- A disk stays while a block is written that it keeps off. -/
theorem DkAt.other {B : Nat → Prop} {w w' : World} {g r : Nat} {s : Dk} (hd : DkAt B w g s) (hg : w.grownBy w' (some r)) (hr : B r) : DkAt B w' g s := by
  obtain ⟨m, h, q, c, hi⟩ := hd
  refine ⟨m, h, q, c, hi.bg, hi.bm, hi.small, (hg.block g (Array.getElem?_eq_some_iff.1 hi.box).1 ?_).trans hi.box, hi.map.kept hg ?_, fun nm fl hf => ?_, hi.apart⟩
  · intro e; injection e with e; exact hi.bg (e ▸ hr)
  · intro e; injection e with e; exact hi.bm (e ▸ hr)
  · have f0 := hi.file nm fl hf
    refine f0.same (hg.block _ f0.lt ?_) fun p hp => hg.block _ (f0.row_lt hp) ?_
    · intro e; injection e with e; exact f0.1.1 (e ▸ hr)
    · intro e; injection e with e; exact f0.1.2 p hp (e ▸ hr)
theorem JAt.other {B : Nat → Prop} {w w' : World} {g r : Nat} {s : JS} (hd : JAt B w g s) (hg : w.grownBy w' (some r)) (hr : B r) : JAt B w' g s := by
  obtain ⟨n, hn, hd⟩ := hd; exact ⟨n, hn, hd.other hg hr⟩
theorem told_any {w : World} {gj g : Nat} {x : JX} (hb : BoxJ w gj g x) (e : Int) :
    Calls Tryz.prog 36 #[.pointer (some ⟨gj, 0, none⟩), .int .i64 e] w fun r w' => r = .returned (.int .i64 e) ∧ BoxJ w' gj g { x with failed := e } ∧ w.grownBy w' (some gj) := by
  obtain ⟨⟨c0, c1, c2, c3, c4⟩, z0, z1, z2, z3⟩ := cells5 hb
  have b2 := heap_setCell_same w gj 1 _ 68 (.int .i64 e) hb
  have H2 := hide b2
  clear hb b2
  go_enter Tryz.func36, Tryz.ntmps36
  go_wp2
  go_ret
  exact ⟨rfl, unhide H2, grown_set _ _ _ _⟩
theorem count_any {w : World} {gj g : Nat} {x : JX} (hb : BoxJ w gj g x) : Calls Tryz.prog 22 #[.pointer (some ⟨gj, 0, none⟩)] w fun r w' => r = .returned (.int .i64 (x.cnt : Int)) ∧ w' = w := by
  obtain ⟨⟨c0, c1, c2, c3, c4⟩, _⟩ := cells5 hb
  clear hb
  go_enter Tryz.func22, Tryz.ntmps22
  go_wp2
  go_ret
  exact ⟨rfl, rfl⟩
theorem bytes_any {w : World} {gj g : Nat} {x : JX} (hb : BoxJ w gj g x) : Calls Tryz.prog 20 #[.pointer (some ⟨gj, 0, none⟩)] w fun r w' => r = .returned (.int .i64 (x.bytes : Int)) ∧ w' = w := by
  obtain ⟨⟨c0, c1, c2, c3, c4⟩, _⟩ := cells5 hb
  clear hb
  go_enter Tryz.func20, Tryz.ntmps20
  go_wp2
  go_ret
  exact ⟨rfl, rfl⟩
theorem pending_any {w : World} {gj g : Nat} {x : JX} (hb : BoxJ w gj g x) : Calls Tryz.prog 21 #[.pointer (some ⟨gj, 0, none⟩)] w fun r w' => r = .returned (.int .i64 (x.pend : Int)) ∧ w' = w := by
  obtain ⟨⟨c0, c1, c2, c3, c4⟩, _⟩ := cells5 hb
  clear hb
  go_enter Tryz.func21, Tryz.ntmps21
  go_wp2
  go_ret
  exact ⟨rfl, rfl⟩
/-- Small numbers: what a journal keeps in mind may grow. -/
def Fits (x : JX) : Prop := x.cnt ≤ 1000000000000000 ∧ x.bytes ≤ 1000000000000000 ∧ x.pend ≤ 1000000000000000
def PlusB (B : Nat → Prop) (gj : Nat) : Nat → Prop := fun i => B i ∨ i = gj
theorem Sub.plus {B : Nat → Prop} {w : World} {gj : Nat} (hB : Sub B w) (h : gj < w.heap.size) : Sub (PlusB B gj) w := fun i hi => by
  rcases hi with h1 | rfl
  · exact hB i h1
  · exact h
theorem BoxJ.kept {B : Nat → Prop} {w w' : World} {gj g : Nat} {x : JX} (h : BoxJ w gj g x) (hk : Kpt (PlusB B gj) w w') : BoxJ w' gj g x := (hk.block gj (Or.inr rfl) (Array.getElem?_eq_some_iff.1 h).1).trans h
theorem PlusB.less {B : Nat → Prop} {w w' : World} {gj : Nat} (h : Kpt (PlusB B gj) w w') : Kpt B w w' := h.mono fun _ hi => Or.inl hi
theorem kpt_grown {B : Nat → Prop} {w w' : World} {r : Nat} (hg : w.grownBy w' (some r)) (hr : ¬ B r) : Kpt B w w' :=
  ⟨hg.os, hg.tape, hg.output, hg.size, fun _ hk hs => hg.block _ hs (by intro e; injection e with e; exact hr (e ▸ hk))⟩
theorem JrAt.told {B : Nat → Prop} {w w' : World} {gj g : Nat} {s : JS} {x : JX} (hn : ¬ B gj) (hb : BoxJ w' gj g x) (hg : w.grownBy w' (some gj)) (hd : JAt (PlusB B gj) w g s) : JrAt B w' gj g s x := ⟨hb, hn, hd.other hg (Or.inr rfl)⟩
def jApp (s : JS) (x : JX) (cs : List Ch) : Int × JS × JX :=
  if x.failed ≠ 0 then (x.failed, s, x) else if ¬ ∀ c ∈ cs, MayB c then (1, s, x) else if cs = [] then (0, s, x) else
    if (appJ s (encs cs)).1 ≠ 0 then ((appJ s (encs cs)).1, (appJ s (encs cs)).2, { x with failed := (appJ s (encs cs)).1 }) else (0, (appJ s (encs cs)).2, ⟨0, x.cnt + cs.length, x.bytes + (encs cs).length, x.pend + cs.length⟩)
def jSyn (s : JS) (x : JX) : Int × JS × JX :=
  if x.failed ≠ 0 then (x.failed, s, x) else if x.pend = 0 then (0, s, x) else
    if (synJ s).1 ≠ 0 then ((synJ s).1, (synJ s).2, { x with failed := (synJ s).1 }) else (0, (synJ s).2, ⟨0, x.cnt, x.bytes, 0⟩)
def jRew (s : JS) (x : JX) (n : Int) (cs : List Ch) : Int × JS × JX :=
  if x.failed ≠ 0 then (x.failed, s, x) else if whE n cs ≠ 0 then (whE n cs, s, x) else
    if (writeM s (whB n cs)).1 ≠ 0 then ((writeM s (whB n cs)).1, (writeM s (whB n cs)).2, { x with failed := (writeM s (whB n cs)).1 }) else (0, (writeM s (whB n cs)).2, ⟨0, cs.length, (whB n cs).length, 0⟩)
theorem if_nn {α : Type} {p : Prop} [Decidable p] {a b : α} (h : p) : (if ¬ p then a else b) = b := if_neg (fun h9 => h9 h)
set_option maxRecDepth 100000 in
theorem japp_failed {B : Nat → Prop} {w : World} {gj g : Nat} {s : JS} {x : JX} (hr : JrAt B w gj g s x) (q : Option Addr) (c : Nat) (cs : List Ch) (hf : x.failed ≠ 0) :
    Calls Tryz.prog 11 #[.pointer (some ⟨gj, 0, none⟩), .slice q cs.length c] w fun e w' => e = .returned (.int .i64 (jApp s x cs).1) ∧ JrAt B w' gj g (jApp s x cs).2.1 (jApp s x cs).2.2 ∧ Kpt B w w' := by
  have e9 : jApp s x cs = (x.failed, s, x) := if_pos hf
  rw [e9]
  obtain ⟨⟨c0, c1, c2, c3, c4⟩, _⟩ := cells5 hr.box
  have HR := hide hr
  have hE : (x.failed == 0) = false := beq_eq_false_iff_ne.2 hf
  clear hr e9 hf
  go_enter Tryz.func11, Tryz.ntmps11
  go_wp2
  go_ret
  exact ⟨rfl, unhide HR, Kpt.refl _ _⟩
set_option maxHeartbeats 1000000 in
set_option maxRecDepth 100000 in
theorem japp_form {B : Nat → Prop} {w : World} {gj g : Nat} {s : JS} {x : JX} (hr : JrAt B w gj g s x) (q : Option Addr) (c : Nat) (cs : List Ch) (hs : SlOf encC 3 w q c cs) (hn : cs.length ≤ 10000000000) (h0 : x.failed = 0) (hm : ¬ ∀ c ∈ cs, MayB c) :
    Calls Tryz.prog 11 #[.pointer (some ⟨gj, 0, none⟩), .slice q cs.length c] w fun e w' => e = .returned (.int .i64 (jApp s x cs).1) ∧ JrAt B w' gj g (jApp s x cs).2.1 (jApp s x cs).2.2 ∧ Kpt B w w' := by
  have e9 : jApp s x cs = (1, s, x) := (if_neg (fun h9 => h9 h0)).trans (if_pos hm)
  rw [e9]
  obtain ⟨⟨c0, c1, c2, c3, c4⟩, _⟩ := cells5 hr.box
  rw [h0] at c1
  have hen : Calls Tryz.prog 35 #[.slice q cs.length c] w fun e w' => e = .returned (.tuple #[.slice none 0 0, .int .i64 1]) ∧ Below w.heap.size w w' := (encode_any q c cs w hs hn).mono (by
    rintro e w' ⟨h1, h2⟩
    rcases h1 with ⟨h3, _⟩ | ⟨_, h3⟩
    · exact absurd h3 hm
    · exact ⟨h3, h2⟩)
  have HR := hide hr
  clear hr e9 hm hs
  go_enter Tryz.func11, Tryz.ntmps11
  go_wp2_with (go_at_call 35; refine hen.mono ?_; rintro e w1 ⟨rfl, b1⟩; have B1 := hide b1; clear b1)
  go_ret
  exact ⟨rfl, (unhide HR).below (unhide B1), Kpt.of (unhide B1)⟩
set_option maxHeartbeats 1000000 in
set_option maxRecDepth 100000 in
theorem japp_nil {B : Nat → Prop} {w : World} {gj g : Nat} {s : JS} {x : JX} (hr : JrAt B w gj g s x) (q : Option Addr) (c : Nat) (hs : SlOf encC 3 w q c []) (h0 : x.failed = 0) :
    Calls Tryz.prog 11 #[.pointer (some ⟨gj, 0, none⟩), .slice q 0 c] w fun e w' => e = .returned (.int .i64 (jApp s x []).1) ∧ JrAt B w' gj g (jApp s x []).2.1 (jApp s x []).2.2 ∧ Kpt B w w' := by
  have e9 : jApp s x [] = (0, s, x) := (if_neg (fun h9 => h9 h0)).trans ((if_nn (fun c hc => by cases hc)).trans (if_pos rfl))
  rw [e9]
  obtain ⟨⟨c0, c1, c2, c3, c4⟩, _⟩ := cells5 hr.box
  rw [h0] at c1
  have hen : Calls Tryz.prog 35 #[.slice q 0 c] w fun e w' => (∃ q' c', e = .returned (.tuple #[.slice q' 0 c', .int .i64 0])) ∧ Below w.heap.size w w' := (encode_any q c [] w hs (by simp)).mono (by
    rintro e w' ⟨h1, h2⟩
    rcases h1 with ⟨_, q', c', h3, _⟩ | ⟨h3, _⟩
    · exact ⟨⟨q', c', h3⟩, h2⟩
    · exact absurd (fun c hc => by cases hc) h3)
  have HR := hide hr
  clear hr e9 hs
  go_enter Tryz.func11, Tryz.ntmps11
  go_wp2_with (go_at_call 35; refine hen.mono ?_; rintro e w1 ⟨⟨q1, c1', rfl⟩, b1⟩; have B1 := hide b1; clear b1)
  go_ret
  exact ⟨rfl, (unhide HR).below (unhide B1), Kpt.of (unhide B1)⟩
set_option maxHeartbeats 2000000 in
set_option maxRecDepth 100000 in
theorem japp_down {B : Nat → Prop} {w : World} {gj g : Nat} {s : JS} {x : JX} (hr : JrAt B w gj g s x) (q : Option Addr) (c : Nat) (cs : List Ch) (hB : Sub B w) (ha : s.acts ≤ 99999980) (hs : SlOf encC 3 w q c cs) (hn : cs.length ≤ 10000000000) (hsz : szO s.j + (encs cs).length ≤ 140737488355328) (h0 : x.failed = 0) (hm : ∀ c ∈ cs, MayB c) (hne : cs ≠ []) (he : (appJ s (encs cs)).1 ≠ 0) :
    Calls Tryz.prog 11 #[.pointer (some ⟨gj, 0, none⟩), .slice q cs.length c] w fun e w' => e = .returned (.int .i64 (jApp s x cs).1) ∧ JrAt B w' gj g (jApp s x cs).2.1 (jApp s x cs).2.2 ∧ Kpt B w w' := by
  have e9 : jApp s x cs = ((appJ s (encs cs)).1, (appJ s (encs cs)).2, { x with failed := (appJ s (encs cs)).1 }) := (if_neg (fun h9 => h9 h0)).trans ((if_nn hm).trans ((if_neg hne).trans (if_pos he)))
  rw [e9]
  obtain ⟨⟨c0, c1, c2, c3, c4⟩, _⟩ := cells5 hr.box
  rw [h0] at c1
  have hen : Calls Tryz.prog 35 #[.slice q cs.length c] w fun e w' => (∃ q' c', e = .returned (.tuple #[.slice q' (encs cs).length c', .int .i64 0]) ∧ OwnK encB 5 1 w.heap.size w' q' c' (encs cs)) ∧ Below w.heap.size w w' := (encode_any q c cs w hs hn).mono (by
    rintro e w' ⟨h1, h2⟩
    rcases h1 with ⟨_, q', c', h3, h4⟩ | ⟨h3, _⟩
    · exact ⟨⟨q', c', h3, h4⟩, h2⟩
    · exact absurd hm h3)
  have hap := fun (q : Option Addr) (c : Nat) (W : World) (hW : JAt (PlusB B gj) W g s) (hBW : Sub (PlusB B gj) W) (hS : SlOf encB 1 W q c (encs cs)) => appJ_any hW hBW (by omega) q c (encs cs) hS hsz
  have hcl : cs.length ≠ 0 := fun h => hne (List.length_eq_zero_iff.1 h)
  obtain ⟨C, hC⟩ : ∃ C, cs.length = C := ⟨_, rfl⟩
  obtain ⟨E, hE⟩ : ∃ E, (encs cs).length = E := ⟨_, rfl⟩
  have hel := encs_len cs hm
  rw [hC] at hcl hn hen hel ⊢
  simp only [hE] at hen hap
  rw [hE] at hel
  have hC0 : ((C : Int) == 0) = false := beq_eq_false_iff_ne.2 (by omega)
  obtain ⟨F, S9, hR9⟩ : ∃ F S9, appJ s (encs cs) = (F, S9) := ⟨_, _, rfl⟩
  rw [hR9] at he ⊢
  simp only [hR9] at hap
  have hF : (F == 0) = false := beq_eq_false_iff_ne.2 he
  have HR := hide hr
  have HB := hide hB
  clear hr e9 hs hm hne hB hC hE hel he hR9 hsz hcl
  go_enter Tryz.func11, Tryz.ntmps11
  go_wp2_with (first
    | (go_at_call 35; refine hen.mono ?_; rintro e w1 ⟨⟨q1, c1', rfl, o1⟩, b1⟩; obtain ⟨⟨y0, y1, y2, y3, y4⟩, _⟩ := cells5 ((b1.block _ (unhide HR).lt).trans (unhide HR).box); have O1 := hide o1; have R1 := hide ((unhide HR).below b1); have B1 := hide b1; clear o1 b1)
    | (go_at_call 29; refine (hap q1 c1' w1 (unhide R1).disk (((unhide HB).trans (unhide B1).size).plus (unhide R1).lt) (unhide O1).ls).mono ?_; rintro e w2 ⟨rfl, d2, k2⟩; have X2 := hide (BoxJ.kept (unhide R1).box k2); have hto := told_any (unhide X2) F; have D2 := hide d2; have K2 := hide ((Kpt.of (B := B) (unhide B1)).trans (PlusB.less k2)); clear d2 k2)
    | (go_at_call 36; refine hto.mono ?_; rintro e w3 ⟨rfl, x3, g3⟩; have X3 := hide x3; have J3 := hide (JrAt.told (unhide HR).nb x3 g3 (unhide D2)); have K3 := hide ((unhide K2).trans (kpt_grown g3 (unhide HR).nb)); clear g3 x3))
  go_ret
  exact ⟨rfl, unhide J3, unhide K3⟩
set_option maxHeartbeats 2000000 in
set_option maxRecDepth 100000 in
theorem japp_yes {B : Nat → Prop} {w : World} {gj g : Nat} {s : JS} {x : JX} (hr : JrAt B w gj g s x) (q : Option Addr) (c : Nat) (cs : List Ch) (hB : Sub B w) (ha : s.acts ≤ 99999980) (hs : SlOf encC 3 w q c cs) (hn : cs.length ≤ 10000000000) (hx : Fits x) (hsz : szO s.j + (encs cs).length ≤ 140737488355328) (h0 : x.failed = 0) (hm : ∀ c ∈ cs, MayB c) (hne : cs ≠ []) (he : (appJ s (encs cs)).1 = 0) :
    Calls Tryz.prog 11 #[.pointer (some ⟨gj, 0, none⟩), .slice q cs.length c] w fun e w' => e = .returned (.int .i64 (jApp s x cs).1) ∧ JrAt B w' gj g (jApp s x cs).2.1 (jApp s x cs).2.2 ∧ Kpt B w w' := by
  have e9 : jApp s x cs = (0, (appJ s (encs cs)).2, ⟨0, x.cnt + cs.length, x.bytes + (encs cs).length, x.pend + cs.length⟩) := (if_neg (fun h9 => h9 h0)).trans ((if_nn hm).trans ((if_neg hne).trans (if_neg (fun h9 => h9 he))))
  rw [e9]
  obtain ⟨⟨c0, c1, c2, c3, c4⟩, _⟩ := cells5 hr.box
  rw [h0] at c1
  have hen : Calls Tryz.prog 35 #[.slice q cs.length c] w fun e w' => (∃ q' c', e = .returned (.tuple #[.slice q' (encs cs).length c', .int .i64 0]) ∧ OwnK encB 5 1 w.heap.size w' q' c' (encs cs)) ∧ Below w.heap.size w w' := (encode_any q c cs w hs hn).mono (by
    rintro e w' ⟨h1, h2⟩
    rcases h1 with ⟨_, q', c', h3, h4⟩ | ⟨h3, _⟩
    · exact ⟨⟨q', c', h3, h4⟩, h2⟩
    · exact absurd hm h3)
  have hap := fun (q : Option Addr) (c : Nat) (W : World) (hW : JAt (PlusB B gj) W g s) (hBW : Sub (PlusB B gj) W) (hS : SlOf encB 1 W q c (encs cs)) => appJ_any hW hBW (by omega) q c (encs cs) hS hsz
  have hcl : cs.length ≠ 0 := fun h => hne (List.length_eq_zero_iff.1 h)
  obtain ⟨C, hC⟩ : ∃ C, cs.length = C := ⟨_, rfl⟩
  obtain ⟨E, hE⟩ : ∃ E, (encs cs).length = E := ⟨_, rfl⟩
  have hel := encs_len cs hm
  rw [hC] at hcl hn hen hel ⊢
  simp only [hE] at hen hap
  rw [hE] at hel
  have hC0 : ((C : Int) == 0) = false := beq_eq_false_iff_ne.2 (by omega)
  obtain ⟨S9, hR9⟩ : ∃ S9, appJ s (encs cs) = (0, S9) := ⟨_, by rw [← he]⟩
  rw [hR9] at ⊢
  simp only [hR9] at hap
  rw [hE]
  obtain ⟨N1, hN1⟩ : ∃ N1, x.cnt + C = N1 := ⟨_, rfl⟩
  obtain ⟨N2, hN2⟩ : ∃ N2, x.bytes + E = N2 := ⟨_, rfl⟩
  obtain ⟨N3, hN3⟩ : ∃ N3, x.pend + C = N3 := ⟨_, rfl⟩
  obtain ⟨hx1, hx2, hx3⟩ := hx
  rw [hN1, hN2, hN3]
  have i1 : (x.cnt : Int) + (C : Int) = (N1 : Int) := by omega
  have i2 : (x.bytes : Int) + (E : Int) = (N2 : Int) := by omega
  have i3 : (x.pend : Int) + (C : Int) = (N3 : Int) := by omega
  have j1 : IntKind.i64.wrap (N1 : Int) = (N1 : Int) := wrap_nat _ (by omega)
  have j2 : IntKind.i64.wrap (N2 : Int) = (N2 : Int) := wrap_nat _ (by omega)
  have j3 : IntKind.i64.wrap (N3 : Int) = (N3 : Int) := wrap_nat _ (by omega)
  have HR := hide hr
  have HB := hide hB
  clear hr e9 hs hm hne hB hC hE hel he hR9 hsz hcl hN1 hN2 hN3 hx1 hx2 hx3 hn
  go_enter Tryz.func11, Tryz.ntmps11
  go_wp2_with (first
    | (go_at_call 35; refine hen.mono ?_; rintro e w1 ⟨⟨q1, c1', rfl, o1⟩, b1⟩; obtain ⟨⟨y0, y1, y2, y3, y4⟩, _⟩ := cells5 ((b1.block _ (unhide HR).lt).trans (unhide HR).box); have O1 := hide o1; have R1 := hide ((unhide HR).below b1); have B1 := hide b1; clear o1 b1)
    | (go_at_call 29; refine (hap q1 c1' w1 (unhide R1).disk (((unhide HB).trans (unhide B1).size).plus (unhide R1).lt) (unhide O1).ls).mono ?_; rintro e w2 ⟨rfl, d2, k2⟩; have X2 := hide (BoxJ.kept (unhide R1).box k2); have hto := told_any (unhide X2) 0; have D2 := hide d2; have K2 := hide ((Kpt.of (B := B) (unhide B1)).trans (PlusB.less k2)); clear d2 k2)
    | (go_at_call 36; refine hto.mono ?_; rintro e w3 ⟨rfl, x3, g3⟩; have X3 := hide x3; have J3 := hide (JrAt.told (unhide HR).nb x3 g3 (unhide D2)); have K3 := hide ((unhide K2).trans (kpt_grown g3 (unhide HR).nb)); have b4 := heap_setCell_same w3 gj 2 _ 68 (.int .i64 (N1 : Int)) x3; have b5 := heap_setCell_same _ gj 3 _ 68 (.int .i64 (N2 : Int)) b4; have b6 := heap_setCell_same _ gj 4 _ 68 (.int .i64 (N3 : Int)) b5; obtain ⟨⟨a0, a1, a2, a3, a4⟩, f0, f1, f2, f3⟩ := cells5 x3; obtain ⟨⟨p0, p1, p2, p3, p4⟩, r0, r1, r2, r3⟩ := cells5 b4; obtain ⟨⟨t0, t1, t2, t3, t4⟩, m0, m1, m2, m3⟩ := cells5 b5; have f4 : w3.frozen? ⟨gj, 4, none⟩ = false := frozen_free x3; have r4 : (w3.setCell ⟨gj, 2, none⟩ (.int .i64 (N1 : Int))).frozen? ⟨gj, 4, none⟩ = false := frozen_free b4; have m4 : ((w3.setCell ⟨gj, 2, none⟩ (.int .i64 (N1 : Int))).setCell ⟨gj, 3, none⟩ (.int .i64 (N2 : Int))).frozen? ⟨gj, 4, none⟩ = false := frozen_free b5; have B6 := hide b6; clear g3 x3 b4 b5 b6))
  go_ret
  have hg6 : w3.grownBy (((w3.setCell ⟨gj, 2, none⟩ (.int .i64 (N1 : Int))).setCell ⟨gj, 3, none⟩ (.int .i64 (N2 : Int))).setCell ⟨gj, 4, none⟩ (.int .i64 (N3 : Int))) (some gj) := grown_trans (grown_trans (grown_set _ _ _ _) (grown_set _ _ _ _)) (grown_set _ _ _ _)
  exact ⟨rfl, JrAt.told (unhide HR).nb (unhide B6) hg6 (unhide J3).disk, (unhide K3).trans (kpt_grown hg6 (unhide HR).nb)⟩
theorem japp_any {B : Nat → Prop} {w : World} {gj g : Nat} {s : JS} {x : JX} (hr : JrAt B w gj g s x) (q : Option Addr) (c : Nat) (cs : List Ch) (hB : Sub B w) (ha : s.acts ≤ 99999980) (hs : SlOf encC 3 w q c cs) (hn : cs.length ≤ 10000000000) (hx : Fits x) (hsz : szO s.j + cs.length * 4130 ≤ 140737488355328) :
    Calls Tryz.prog 11 #[.pointer (some ⟨gj, 0, none⟩), .slice q cs.length c] w fun e w' => e = .returned (.int .i64 (jApp s x cs).1) ∧ JrAt B w' gj g (jApp s x cs).2.1 (jApp s x cs).2.2 ∧ Kpt B w w' := by
  by_cases h0 : x.failed = 0
  · by_cases hm : ∀ c ∈ cs, MayB c
    · have hel := encs_len cs hm
      by_cases hne : cs = []
      · subst hne
        exact japp_nil hr q c hs h0
      · by_cases he : (appJ s (encs cs)).1 = 0
        · exact japp_yes hr q c cs hB ha hs hn hx (by omega) h0 hm hne he
        · exact japp_down hr q c cs hB ha hs hn (by omega) h0 hm hne he
    · exact japp_form hr q c cs hs hn h0 hm
  · exact japp_failed hr q c cs h0
set_option maxRecDepth 100000 in
theorem jsyn_failed {B : Nat → Prop} {w : World} {gj g : Nat} {s : JS} {x : JX} (hr : JrAt B w gj g s x) (hf : x.failed ≠ 0) :
    Calls Tryz.prog 12 #[.pointer (some ⟨gj, 0, none⟩)] w fun e w' => e = .returned (.int .i64 (jSyn s x).1) ∧ JrAt B w' gj g (jSyn s x).2.1 (jSyn s x).2.2 ∧ Kpt B w w' := by
  have e9 : jSyn s x = (x.failed, s, x) := if_pos hf
  rw [e9]
  obtain ⟨⟨c0, c1, c2, c3, c4⟩, _⟩ := cells5 hr.box
  have HR := hide hr
  have hE : (x.failed == 0) = false := beq_eq_false_iff_ne.2 hf
  clear hr e9 hf
  go_enter Tryz.func12, Tryz.ntmps12
  go_wp2
  go_ret
  exact ⟨rfl, unhide HR, Kpt.refl _ _⟩
set_option maxRecDepth 100000 in
theorem jsyn_none {B : Nat → Prop} {w : World} {gj g : Nat} {s : JS} {x : JX} (hr : JrAt B w gj g s x) (h0 : x.failed = 0) (hp : x.pend = 0) :
    Calls Tryz.prog 12 #[.pointer (some ⟨gj, 0, none⟩)] w fun e w' => e = .returned (.int .i64 (jSyn s x).1) ∧ JrAt B w' gj g (jSyn s x).2.1 (jSyn s x).2.2 ∧ Kpt B w w' := by
  have e9 : jSyn s x = (0, s, x) := (if_neg (fun h9 => h9 h0)).trans (if_pos hp)
  rw [e9]
  obtain ⟨⟨c0, c1, c2, c3, c4⟩, _⟩ := cells5 hr.box
  rw [h0] at c1
  rw [hp] at c4
  have HR := hide hr
  clear hr e9
  go_enter Tryz.func12, Tryz.ntmps12
  go_wp2
  go_ret
  exact ⟨rfl, unhide HR, Kpt.refl _ _⟩
set_option maxHeartbeats 1000000 in
set_option maxRecDepth 100000 in
theorem jsyn_down {B : Nat → Prop} {w : World} {gj g : Nat} {s : JS} {x : JX} (hr : JrAt B w gj g s x) (hB : Sub B w) (ha : s.acts ≤ 99999980) (h0 : x.failed = 0) (hp : x.pend ≠ 0) (he : (synJ s).1 ≠ 0) :
    Calls Tryz.prog 12 #[.pointer (some ⟨gj, 0, none⟩)] w fun e w' => e = .returned (.int .i64 (jSyn s x).1) ∧ JrAt B w' gj g (jSyn s x).2.1 (jSyn s x).2.2 ∧ Kpt B w w' := by
  have e9 : jSyn s x = ((synJ s).1, (synJ s).2, { x with failed := (synJ s).1 }) := (if_neg (fun h9 => h9 h0)).trans ((if_neg hp).trans (if_pos he))
  rw [e9]
  obtain ⟨⟨c0, c1, c2, c3, c4⟩, _⟩ := cells5 hr.box
  rw [h0] at c1
  have hsy := synJ_any hr.disk (hB.plus hr.lt) (by omega)
  have hP : ((x.pend : Int) == 0) = false := beq_eq_false_iff_ne.2 (by omega)
  obtain ⟨F, S9, hR9⟩ : ∃ F S9, synJ s = (F, S9) := ⟨_, _, rfl⟩
  rw [hR9] at he hsy ⊢
  have hF : (F == 0) = false := beq_eq_false_iff_ne.2 he
  have HR := hide hr
  clear hr e9 hB he hR9 hp
  go_enter Tryz.func12, Tryz.ntmps12
  go_wp2_with (first
    | (go_at_call 37; refine hsy.mono ?_; rintro e w2 ⟨rfl, d2, k2⟩; have X2 := hide (BoxJ.kept (unhide HR).box k2); have hto := told_any (unhide X2) F; have D2 := hide d2; have K2 := hide (PlusB.less k2); clear d2 k2)
    | (go_at_call 36; refine hto.mono ?_; rintro e w3 ⟨rfl, x3, g3⟩; have J3 := hide (JrAt.told (unhide HR).nb x3 g3 (unhide D2)); have K3 := hide ((unhide K2).trans (kpt_grown g3 (unhide HR).nb)); clear g3 x3))
  go_ret
  exact ⟨rfl, unhide J3, unhide K3⟩
set_option maxHeartbeats 1000000 in
set_option maxRecDepth 100000 in
theorem jsyn_yes {B : Nat → Prop} {w : World} {gj g : Nat} {s : JS} {x : JX} (hr : JrAt B w gj g s x) (hB : Sub B w) (ha : s.acts ≤ 99999980) (h0 : x.failed = 0) (hp : x.pend ≠ 0) (he : (synJ s).1 = 0) :
    Calls Tryz.prog 12 #[.pointer (some ⟨gj, 0, none⟩)] w fun e w' => e = .returned (.int .i64 (jSyn s x).1) ∧ JrAt B w' gj g (jSyn s x).2.1 (jSyn s x).2.2 ∧ Kpt B w w' := by
  have e9 : jSyn s x = (0, (synJ s).2, ⟨0, x.cnt, x.bytes, 0⟩) := (if_neg (fun h9 => h9 h0)).trans ((if_neg hp).trans (if_neg (fun h9 => h9 he)))
  rw [e9]
  obtain ⟨⟨c0, c1, c2, c3, c4⟩, _⟩ := cells5 hr.box
  rw [h0] at c1
  have hsy := synJ_any hr.disk (hB.plus hr.lt) (by omega)
  have hP : ((x.pend : Int) == 0) = false := beq_eq_false_iff_ne.2 (by omega)
  obtain ⟨S9, hR9⟩ : ∃ S9, synJ s = (0, S9) := ⟨_, by rw [← he]⟩
  rw [hR9] at hsy ⊢
  have HR := hide hr
  clear hr e9 hB he hR9 hp
  go_enter Tryz.func12, Tryz.ntmps12
  go_wp2_with (first
    | (go_at_call 37; refine hsy.mono ?_; rintro e w2 ⟨rfl, d2, k2⟩; have X2 := hide (BoxJ.kept (unhide HR).box k2); have hto := told_any (unhide X2) 0; have D2 := hide d2; have K2 := hide (PlusB.less k2); clear d2 k2)
    | (go_at_call 36; refine hto.mono ?_; rintro e w3 ⟨rfl, x3, g3⟩; have J3 := hide (JrAt.told (unhide HR).nb x3 g3 (unhide D2)); have K3 := hide ((unhide K2).trans (kpt_grown g3 (unhide HR).nb)); have b4 := heap_setCell_same w3 gj 4 _ 68 (.int .i64 0) x3; obtain ⟨⟨a0, a1, a2, a3, a4⟩, _⟩ := cells5 x3; have f4 : w3.frozen? ⟨gj, 4, none⟩ = false := frozen_free x3; have B4 := hide b4; clear g3 x3 b4))
  go_ret
  have hg6 : w3.grownBy (w3.setCell ⟨gj, 4, none⟩ (.int .i64 0)) (some gj) := grown_set _ _ _ _
  exact ⟨rfl, JrAt.told (unhide HR).nb (unhide B4) hg6 (unhide J3).disk, (unhide K3).trans (kpt_grown hg6 (unhide HR).nb)⟩
theorem jsyn_any {B : Nat → Prop} {w : World} {gj g : Nat} {s : JS} {x : JX} (hr : JrAt B w gj g s x) (hB : Sub B w) (ha : s.acts ≤ 99999980) :
    Calls Tryz.prog 12 #[.pointer (some ⟨gj, 0, none⟩)] w fun e w' => e = .returned (.int .i64 (jSyn s x).1) ∧ JrAt B w' gj g (jSyn s x).2.1 (jSyn s x).2.2 ∧ Kpt B w w' := by
  by_cases h0 : x.failed = 0
  · by_cases hp : x.pend = 0
    · exact jsyn_none hr h0 hp
    · by_cases he : (synJ s).1 = 0
      · exact jsyn_yes hr hB ha h0 hp he
      · exact jsyn_down hr hB ha h0 hp he
  · exact jsyn_failed hr h0
set_option maxRecDepth 100000 in
theorem jrew_failed {B : Nat → Prop} {w : World} {gj g : Nat} {s : JS} {x : JX} (hr : JrAt B w gj g s x) (n : Int) (q : Option Addr) (c : Nat) (cs : List Ch) (hf : x.failed ≠ 0) :
    Calls Tryz.prog 13 #[.pointer (some ⟨gj, 0, none⟩), .int .i64 n, .slice q cs.length c] w fun e w' => e = .returned (.int .i64 (jRew s x n cs).1) ∧ JrAt B w' gj g (jRew s x n cs).2.1 (jRew s x n cs).2.2 ∧ Kpt B w w' := by
  have e9 : jRew s x n cs = (x.failed, s, x) := if_pos hf
  rw [e9]
  obtain ⟨⟨c0, c1, c2, c3, c4⟩, _⟩ := cells5 hr.box
  have HR := hide hr
  have hE : (x.failed == 0) = false := beq_eq_false_iff_ne.2 hf
  clear hr e9 hf
  go_enter Tryz.func13, Tryz.ntmps13
  go_wp2
  go_ret
  exact ⟨rfl, unhide HR, Kpt.refl _ _⟩
set_option maxHeartbeats 1000000 in
set_option maxRecDepth 100000 in
theorem jrew_no {B : Nat → Prop} {w : World} {gj g : Nat} {s : JS} {x : JX} (hr : JrAt B w gj g s x) (n : Int) (q : Option Addr) (c : Nat) (cs : List Ch) (hs : SlOf encC 3 w q c cs) (hn : cs.length ≤ 10000000000) (h0 : x.failed = 0) (hw : whE n cs ≠ 0) :
    Calls Tryz.prog 13 #[.pointer (some ⟨gj, 0, none⟩), .int .i64 n, .slice q cs.length c] w fun e w' => e = .returned (.int .i64 (jRew s x n cs).1) ∧ JrAt B w' gj g (jRew s x n cs).2.1 (jRew s x n cs).2.2 ∧ Kpt B w w' := by
  have e9 : jRew s x n cs = (whE n cs, s, x) := (if_neg (fun h9 => h9 h0)).trans (if_pos hw)
  rw [e9]
  obtain ⟨⟨c0, c1, c2, c3, c4⟩, _⟩ := cells5 hr.box
  rw [h0] at c1
  have hwh := whole_any n q c cs w hs hn
  generalize whE n cs = F at *
  generalize whB n cs = b at *
  have hF : (F == 0) = false := beq_eq_false_iff_ne.2 hw
  have HR := hide hr
  clear hr e9 hs hw
  go_enter Tryz.func13, Tryz.ntmps13
  go_wp2_with (go_at_call 38; refine hwh.mono ?_; rintro e w1 ⟨⟨q1, c1', rfl, o1⟩, b1⟩; have B1 := hide b1; clear o1 b1)
  go_ret
  exact ⟨rfl, (unhide HR).below (unhide B1), Kpt.of (unhide B1)⟩
set_option maxHeartbeats 2000000 in
set_option maxRecDepth 100000 in
theorem jrew_down {B : Nat → Prop} {w : World} {gj g : Nat} {s : JS} {x : JX} (hr : JrAt B w gj g s x) (n : Int) (q : Option Addr) (c : Nat) (cs : List Ch) (hB : Sub B w) (ha : s.acts ≤ 99999980) (hs : SlOf encC 3 w q c cs) (hn : cs.length ≤ 10000000000) (hsz : szO s.f + (whB n cs).length ≤ 140737488355328) (h0 : x.failed = 0) (hw : whE n cs = 0) (he : (writeM s (whB n cs)).1 ≠ 0) :
    Calls Tryz.prog 13 #[.pointer (some ⟨gj, 0, none⟩), .int .i64 n, .slice q cs.length c] w fun e w' => e = .returned (.int .i64 (jRew s x n cs).1) ∧ JrAt B w' gj g (jRew s x n cs).2.1 (jRew s x n cs).2.2 ∧ Kpt B w w' := by
  have e9 : jRew s x n cs = ((writeM s (whB n cs)).1, (writeM s (whB n cs)).2, { x with failed := (writeM s (whB n cs)).1 }) := (if_neg (fun h9 => h9 h0)).trans ((if_neg (fun h9 => h9 hw)).trans (if_pos he))
  rw [e9]
  clear e9
  obtain ⟨⟨c0, c1, c2, c3, c4⟩, _⟩ := cells5 hr.box
  rw [h0] at c1
  have hwh := whole_any n q c cs w hs hn
  have hap := fun (q : Option Addr) (c : Nat) (W : World) (hW : JAt (PlusB B gj) W g s) (hBW : Sub (PlusB B gj) W) (hS : SlOf encB 1 W q c (whB n cs)) => write_js hW hBW (by omega) q c (whB n cs) hS hsz
  rw [hw] at hwh
  generalize whB n cs = b at *
  obtain ⟨E, hE⟩ : ∃ E, b.length = E := ⟨_, rfl⟩
  rw [hE] at hwh
  simp only [hE] at hap
  obtain ⟨F, S9, hR9⟩ : ∃ F S9, writeM s b = (F, S9) := ⟨_, _, rfl⟩
  rw [hR9] at he ⊢
  simp only [hR9] at hap
  have hF : (F == 0) = false := beq_eq_false_iff_ne.2 he
  have HR := hide hr
  have HB := hide hB
  clear hr hs hB hE he hR9 hsz hw
  go_enter Tryz.func13, Tryz.ntmps13
  go_wp2_with (first
    | (go_at_call 38; refine hwh.mono ?_; rintro e w1 ⟨⟨q1, c1', rfl, o1⟩, b1⟩; obtain ⟨⟨y0, y1, y2, y3, y4⟩, _⟩ := cells5 ((b1.block _ (unhide HR).lt).trans (unhide HR).box); have O1 := hide o1; have R1 := hide ((unhide HR).below b1); have B1 := hide b1; clear o1 b1)
    | (go_at_call 39; refine (hap q1 c1' w1 (unhide R1).disk (((unhide HB).trans (unhide B1).size).plus (unhide R1).lt) (unhide O1).ls).mono ?_; rintro e w2 ⟨rfl, d2, k2⟩; have X2 := hide (BoxJ.kept (unhide R1).box k2); have hto := told_any (unhide X2) F; have D2 := hide d2; have K2 := hide ((Kpt.of (B := B) (unhide B1)).trans (PlusB.less k2)); clear d2 k2)
    | (go_at_call 36; refine hto.mono ?_; rintro e w3 ⟨rfl, x3, g3⟩; have X3 := hide x3; have J3 := hide (JrAt.told (unhide HR).nb x3 g3 (unhide D2)); have K3 := hide ((unhide K2).trans (kpt_grown g3 (unhide HR).nb)); clear g3 x3))
  go_ret
  exact ⟨rfl, unhide J3, unhide K3⟩
set_option maxHeartbeats 2000000 in
set_option maxRecDepth 100000 in
theorem jrew_yes {B : Nat → Prop} {w : World} {gj g : Nat} {s : JS} {x : JX} (hr : JrAt B w gj g s x) (n : Int) (q : Option Addr) (c : Nat) (cs : List Ch) (hB : Sub B w) (ha : s.acts ≤ 99999980) (hs : SlOf encC 3 w q c cs) (hn : cs.length ≤ 10000000000) (hsz : szO s.f + (whB n cs).length ≤ 140737488355328) (h0 : x.failed = 0) (hw : whE n cs = 0) (he : (writeM s (whB n cs)).1 = 0) :
    Calls Tryz.prog 13 #[.pointer (some ⟨gj, 0, none⟩), .int .i64 n, .slice q cs.length c] w fun e w' => e = .returned (.int .i64 (jRew s x n cs).1) ∧ JrAt B w' gj g (jRew s x n cs).2.1 (jRew s x n cs).2.2 ∧ Kpt B w w' := by
  have e9 : jRew s x n cs = (0, (writeM s (whB n cs)).2, ⟨0, cs.length, (whB n cs).length, 0⟩) := (if_neg (fun h9 => h9 h0)).trans ((if_neg (fun h9 => h9 hw)).trans (if_neg (fun h9 => h9 he)))
  rw [e9]
  clear e9
  obtain ⟨⟨c0, c1, c2, c3, c4⟩, _⟩ := cells5 hr.box
  rw [h0] at c1
  have hwh := whole_any n q c cs w hs hn
  have hap := fun (q : Option Addr) (c : Nat) (W : World) (hW : JAt (PlusB B gj) W g s) (hBW : Sub (PlusB B gj) W) (hS : SlOf encB 1 W q c (whB n cs)) => write_js hW hBW (by omega) q c (whB n cs) hS hsz
  rw [hw] at hwh
  generalize whB n cs = b at *
  obtain ⟨E, hE⟩ : ∃ E, b.length = E := ⟨_, rfl⟩
  rw [hE] at hwh
  simp only [hE] at hap
  obtain ⟨S9, hR9⟩ : ∃ S9, writeM s b = (0, S9) := ⟨_, by rw [← he]⟩
  rw [hR9] at ⊢
  simp only [hR9] at hap
  rw [hE]
  obtain ⟨C, hC⟩ : ∃ C, cs.length = C := ⟨_, rfl⟩
  rw [hC] at hwh ⊢
  have HR := hide hr
  have HB := hide hB
  clear hr hs hB hE he hR9 hsz hw hC hn
  go_enter Tryz.func13, Tryz.ntmps13
  go_wp2_with (first
    | (go_at_call 38; refine hwh.mono ?_; rintro e w1 ⟨⟨q1, c1', rfl, o1⟩, b1⟩; obtain ⟨⟨y0, y1, y2, y3, y4⟩, _⟩ := cells5 ((b1.block _ (unhide HR).lt).trans (unhide HR).box); have O1 := hide o1; have R1 := hide ((unhide HR).below b1); have B1 := hide b1; clear o1 b1)
    | (go_at_call 39; refine (hap q1 c1' w1 (unhide R1).disk (((unhide HB).trans (unhide B1).size).plus (unhide R1).lt) (unhide O1).ls).mono ?_; rintro e w2 ⟨rfl, d2, k2⟩; have X2 := hide (BoxJ.kept (unhide R1).box k2); have hto := told_any (unhide X2) 0; have D2 := hide d2; have K2 := hide ((Kpt.of (B := B) (unhide B1)).trans (PlusB.less k2)); clear d2 k2)
    | (go_at_call 36; refine hto.mono ?_; rintro e w3 ⟨rfl, x3, g3⟩; have X3 := hide x3; have J3 := hide (JrAt.told (unhide HR).nb x3 g3 (unhide D2)); have K3 := hide ((unhide K2).trans (kpt_grown g3 (unhide HR).nb)); have b4 := heap_setCell_same w3 gj 2 _ 68 (.int .i64 (C : Int)) x3; have b5 := heap_setCell_same _ gj 3 _ 68 (.int .i64 (E : Int)) b4; have b6 := heap_setCell_same _ gj 4 _ 68 (.int .i64 0) b5; obtain ⟨⟨a0, a1, a2, a3, a4⟩, f0, f1, f2, f3⟩ := cells5 x3; obtain ⟨⟨p0, p1, p2, p3, p4⟩, r0, r1, r2, r3⟩ := cells5 b4; obtain ⟨⟨t0, t1, t2, t3, t4⟩, m0, m1, m2, m3⟩ := cells5 b5; have f4 : w3.frozen? ⟨gj, 4, none⟩ = false := frozen_free x3; have r4 : (w3.setCell ⟨gj, 2, none⟩ (.int .i64 (C : Int))).frozen? ⟨gj, 4, none⟩ = false := frozen_free b4; have m4 : ((w3.setCell ⟨gj, 2, none⟩ (.int .i64 (C : Int))).setCell ⟨gj, 3, none⟩ (.int .i64 (E : Int))).frozen? ⟨gj, 4, none⟩ = false := frozen_free b5; have B6 := hide b6; clear g3 x3 b4 b5 b6))
  go_ret
  have hg6 : w3.grownBy (((w3.setCell ⟨gj, 2, none⟩ (.int .i64 (C : Int))).setCell ⟨gj, 3, none⟩ (.int .i64 (E : Int))).setCell ⟨gj, 4, none⟩ (.int .i64 0)) (some gj) := grown_trans (grown_trans (grown_set _ _ _ _) (grown_set _ _ _ _)) (grown_set _ _ _ _)
  exact ⟨rfl, JrAt.told (unhide HR).nb (unhide B6) hg6 (unhide J3).disk, (unhide K3).trans (kpt_grown hg6 (unhide HR).nb)⟩
theorem wh_len (n : Int) (cs : List Ch) : (whB n cs).length ≤ 20 + cs.length * 4130 := by
  by_cases h : whE n cs = 0
  · have hb : whB n cs = headB n.toNat ++ encs cs := if_pos h
    by_cases h1 : 1 ≤ n ∧ n ≤ 1099511627777
    · by_cases h2 : ∀ c ∈ cs, MayB c
      · have := head_len n.toNat (by omega)
        have := encs_len cs h2
        rw [hb, List.length_append]
        omega
      · rw [(wh_form h1 h2).1] at h; cases h
    · rw [(wh_range h1 cs).1] at h; cases h
  · have hb : whB n cs = [] := if_neg h
    rw [hb]
    exact Nat.zero_le _
theorem jrew_any {B : Nat → Prop} {w : World} {gj g : Nat} {s : JS} {x : JX} (hr : JrAt B w gj g s x) (n : Int) (q : Option Addr) (c : Nat) (cs : List Ch) (hB : Sub B w) (ha : s.acts ≤ 99999980) (hs : SlOf encC 3 w q c cs) (hn : cs.length ≤ 10000000000) (hsz : szO s.f + 20 + cs.length * 4130 ≤ 140737488355328) :
    Calls Tryz.prog 13 #[.pointer (some ⟨gj, 0, none⟩), .int .i64 n, .slice q cs.length c] w fun e w' => e = .returned (.int .i64 (jRew s x n cs).1) ∧ JrAt B w' gj g (jRew s x n cs).2.1 (jRew s x n cs).2.2 ∧ Kpt B w w' := by
  have hl := wh_len n cs
  by_cases h0 : x.failed = 0
  · by_cases hw : whE n cs = 0
    · by_cases he : (writeM s (whB n cs)).1 = 0
      · exact jrew_yes hr n q c cs hB ha hs hn (by omega) h0 hw he
      · exact jrew_down hr n q c cs hB ha hs hn (by omega) h0 hw he
    · exact jrew_no hr n q c cs hs hn h0 hw
  · exact jrew_failed hr n q c cs h0
end Go.Proofs.YtfigjfmldpfjkaaGreat

/- The document's journal: Append, Sync, Rewrite. -/
import Derived.Test.YtfigjfmldpfjkaaGreatQ8
namespace Go.Proofs.YtfigjfmldpfjkaaGreat
open Go.RowKit Go.Sort Go.Shelf

section
variable {P : Nat → Prop} {w : World} {gs g c cj : Nat} {r : Rk} {q qj : Option Addr} {s : JS} {x : JX} {L : List Ch} {Z : Nat}
theorem RqEnd.same {w' : World} (h : RIn P w g r q c) (hj : RjIn P w gs g L x qj cj) (hr : RelJ s r Z) {Z' : Nat} (hz : Z ≤ Z') (hb : Below w.heap.size w w') : RqEnd P w gs g s L x Z' w' := by
  have hgl := h.glt
  have hsl := hj.lt
  refine ⟨⟨r, Rel.mono hr hz, q, c, (h.below hb).mono (fun i hi _ => Or.inl hi) (fun hp => ?_)⟩, ⟨qj, cj, (hj.below hb).mono (fun i hi _ => Or.inl hi) (fun hp => ?_)⟩, Kpt.of hb⟩
  · rcases hp with hp | hp
    · exact h.pg hp
    · omega
  · rcases hp with hp | hp
    · exact hj.pg hp
    · omega
theorem RqEnd.mk2 {w2 w3 : World} {s' : JS} {L' : List Ch} {x' : JX} {Z' : Nat} (hsl : gs < w.heap.size) (hps : ¬ P gs) (hne : gs ≠ g) (f : RfJ P w g s' Z' w2) (hj : RjAt (fun i => P i ∨ w.heap.size ≤ i) w3 gs g L' x') (hg : w2.grownBy w3 (some gs)) : RqEnd P w gs g s' L' x' Z' w3 := by
  obtain ⟨r', h1, ⟨q', c', h2⟩, h3⟩ := f
  refine ⟨⟨r', h1, q', c', h2.kept hg.size fun i hi hl => hg.block i hl (by intro e; injection e with e; rcases hi with (hi | hi) | hi; exact hps (e ▸ hi); omega; omega)⟩, hj, ?_⟩
  exact ⟨hg.os.trans h3.os, hg.tape.trans h3.tape, hg.output.trans h3.output, Nat.le_trans h3.size hg.size, fun i hi hl => (hg.block i (Nat.lt_of_lt_of_le hl h3.size) (by intro e; injection e with e; exact hi.2 e)).trans (h3.block i hl (by intro e; injection e with e; exact hi.1 e))⟩
/-- The journal's box stays while the disk's is written. -/
theorem RjIn.disk {w2 : World} (hj : RjIn P w gs g L x qj cj) (hpg : ¬ P g) (h3 : w.grownBy w2 (some g)) : RjIn P w2 gs g L x qj cj := hj.kept h3.size fun i hi hl => h3.block i hl (by intro e; injection e with e; rcases hi with hi | hi; exact hpg (e ▸ hi); exact hj.ne (hi.symm.trans e))
theorem RjIn.up {w2 : World} (hj : RjIn P w2 gs g L x qj cj) (hsl : gs < w.heap.size) : RjAt (fun i => P i ∨ w.heap.size ≤ i) w2 gs g L x := ⟨qj, cj, hj.mono (fun i hi _ => Or.inl hi) (fun hp => by
  rcases hp with hp | hp
  · exact hj.pg hp
  · omega)⟩
def appL (s : JS) (x : JX) (L cs : List Ch) : List Ch := if (jApp s x cs).1 = 0 then L ++ cs else L
set_option maxHeartbeats 4000000 in
set_option maxRecDepth 100000 in
theorem rjapp (h : RIn P w g r q c) (hj : RjIn P w gs g L x qj cj) (hr : RelJ s r Z) (hZ : Z ≤ 10000000000000) (ha : s.acts ≤ 900000) (hx : Fits x) (hL : L.length ≤ 100000000000) (p : Option Addr) (kp : Nat) (cs : List Ch) (hs : SlOf encC 3 w p kp cs) (hps : 0 < cs.length → ∀ a, p = some a → a.block ≠ g ∧ a.block ≠ gs) (hcl : cs.length ≤ 1000000000) :
    Calls Tryz.prog 31 #[.pointer (some ⟨gs, 0, none⟩), .slice p cs.length kp] w fun e w' => e = .returned (.int .i64 (jApp s x cs).1) ∧ RqEnd P w gs g (jApp s x cs).2.1 (appL s x L cs) (jApp s x cs).2.2 (Z + cs.length * 4130) w' := by
  have hpg := h.pg
  have hgl := h.glt
  have hsl := hj.lt
  have hne := hj.ne
  have hzz : Z ≤ Z + cs.length * 4130 := Nat.le_add_right _ _
  obtain ⟨⟨c0, c1, c2, c3, c4⟩, z0, z1, z2, z3⟩ := cells5 hj.box
  have z4 := froz4 hj.box 4
  have BX := hide hj.box
  by_cases hf : x.failed ≠ 0
  · have e0 : jApp s x cs = (x.failed, s, x) := by unfold jApp; rw [if_pos hf]
    have e1 : appL s x L cs = L := by unfold appL; rw [e0]; exact if_neg hf
    have bz : (x.failed != 0) = true := by simp [hf]
    rw [e0, e1]
    have HE := hide (RqEnd.same h hj hr hzz (Below.refl _ _))
    clear h hj hr hf e0 e1
    go_enter Tryz.func31, Tryz.ntmps31
    go_wp2
    go_ret
    exact ⟨rfl, unhide HE⟩
  replace hf : x.failed = 0 := Decidable.of_not_not hf
  have bz : (x.failed != 0) = false := by simp [hf]
  have hall := rall p kp cs w hs (by omega)
  by_cases hm : ¬ ∀ c ∈ cs, MayB c
  · have e0 : jApp s x cs = (1, s, x) := by unfold jApp; rw [if_neg (fun h9 => h9 hf), if_pos hm]
    have e1 : appL s x L cs = L := by unfold appL; rw [e0]; exact if_neg (by show ¬ (1 : Int) = 0; decide)
    rw [decide_eq_false hm] at hall
    rw [e0, e1]
    have HE := hide (fun (w' : World) (hb : Below w.heap.size w w') => RqEnd.same h hj hr hzz hb)
    clear h hj hr hm hf e0 e1
    go_enter Tryz.func31, Tryz.ntmps31
    go_wp2_with (go_at_call 63; refine hall.mono ?_; rintro e w1 ⟨rfl, b1⟩; have B1 := hide b1; clear b1)
    go_ret
    exact ⟨rfl, unhide HE _ (unhide B1)⟩
  replace hm : ∀ c ∈ cs, MayB c := Classical.not_not.1 hm
  rw [decide_eq_true hm] at hall
  by_cases hnil : cs = []
  · subst hnil
    have e0 : jApp s x [] = (0, s, x) := by unfold jApp; rw [if_neg (fun h9 => h9 hf), if_neg (fun h9 => h9 hm), if_pos rfl]
    have e1 : appL s x L [] = L := by unfold appL; rw [e0, if_pos rfl, List.append_nil]
    rw [e0, e1]
    have HE := hide (fun (w' : World) (hb : Below w.heap.size w w') => RqEnd.same h hj hr hzz hb)
    clear h hj hr hm hf e0 e1
    go_enter Tryz.func31, Tryz.ntmps31
    go_wp2_with (go_at_call 63; refine hall.mono ?_; rintro e w1 ⟨rfl, b1⟩; have B1 := hide b1; clear b1)
    go_ret
    exact ⟨rfl, unhide HE _ (unhide B1)⟩
  have hpos : 0 < cs.length := List.length_pos_iff.2 hnil
  have bl0 : ((cs.length : Int) == 0) = false := by simp; omega
  have eE : encOo cs = encs cs := by unfold encOo; rw [if_pos hm]
  have hen := fun (W : World) (bW : Below w.heap.size w W) => refEncode_one p kp cs W (hs.below bW) (by omega)
  simp only [eE] at hen
  have le := encs_len cs hm
  obtain ⟨b, hb⟩ : ∃ b, encs cs = b := ⟨_, rfl⟩
  simp only [hb] at hen
  rw [hb] at le
  obtain ⟨E, hE⟩ : ∃ E, (appJ s b).1 = E := ⟨_, rfl⟩
  obtain ⟨s1, hs1⟩ : ∃ s1, (appJ s b).2 = s1 := ⟨_, rfl⟩
  have happ : ∀ (W : World) (qb : Option Addr) (cb : Nat), Below w.heap.size w W → OwnK encB 5 1 w.heap.size W qb cb b → Calls Tryz.prog 30 #[.pointer (some ⟨g, 0, none⟩), .string nJ, .slice qb b.length cb] W fun e w' => e = .returned (.int .i64 E) ∧ RfJ P w g s1 (Z + cs.length * 4130) w' ∧ RjIn P w' gs g L x qj cj ∧ w.grownBy w' (some g) := fun W qb cb bW ho => by
    have := (RfJ.refl h hr).back bW |>.cAppJ hpg hgl (by omega) (by omega) qb cb b ho.ls (fun _ a hq => by have := (own_type ho hq).1; omega) (by omega)
    rw [hE, hs1] at this
    refine this.mono fun e w' ⟨h1, h2⟩ => ⟨h1, h2.mono (by omega), ?_, ?_⟩
    · obtain ⟨_, _, _, h3⟩ := h2; exact hj.disk hpg h3
    · obtain ⟨_, _, _, h3⟩ := h2; exact h3
  have hsV : ∀ W, w.grownBy W (some g) → SlOf encC 3 W p kp cs := fun W hW => (SlIn.kept (P := fun i => i ≠ g) ⟨hs, fun h0 a ha => (hps h0 a ha).1⟩ hW.size fun i hi hl => hW.block i hl (by intro e; injection e with e; exact hi e)).1
  have HALL := hide hall
  have HEN := hide hen
  have HAPP := hide happ
  have HSV := hide hsV
  have hpsj := hj.pg
  by_cases hz : E = 0
  · have e0 : jApp s x cs = (0, s1, ⟨0, x.cnt + cs.length, x.bytes + b.length, x.pend + cs.length⟩) := by
      unfold jApp
      rw [if_neg (fun h9 => h9 hf), if_neg (fun h9 => h9 hm), if_neg hnil, hb, hE, hs1, if_neg (fun h9 => h9 hz)]
    have e1 : appL s x L cs = L ++ cs := by unfold appL; rw [e0, if_pos rfl]
    obtain ⟨NB, hNB⟩ : ∃ NB, x.bytes + b.length = NB := ⟨_, rfl⟩
    obtain ⟨NP, hNP⟩ : ∃ NP, x.pend + cs.length = NP := ⟨_, rfl⟩
    obtain ⟨NL, hNL⟩ : ∃ NL, L.length + cs.length = NL := ⟨_, rfl⟩
    have hx2 := hx.2.1
    have hx3 := hx.2.2
    have i1 : (x.bytes : Int) + (b.length : Int) = (NB : Int) := by omega
    have i2 : IntKind.i64.wrap (NB : Int) = (NB : Int) := wrap_nat _ (by omega)
    have i3 : (x.pend : Int) + (cs.length : Int) = (NP : Int) := by omega
    have i4 : IntKind.i64.wrap (NP : Int) = (NP : Int) := wrap_nat _ (by omega)
    have hcnt := hj.cnt
    have HF := hide hf
    rw [e0, e1, hNB, hNP]
    have ez : (E != 0) = false := by simp [hz]
    clear h hj hr hm hf hnil e0 e1 hs hps hall hen happ hsV hb hE hs1 hz eE le hx
    go_enter Tryz.func31, Tryz.ntmps31
    go_upto_region 11 with (first
      | (go_at_call 63; refine (unhide HALL).mono ?_; rintro e w1 ⟨rfl, b1⟩; have B1 := hide b1; (obtain ⟨⟨c0, c1, c2, c3, c4⟩, z0, z1, z2, z3⟩ := cells5 ((b1.block gs hsl).trans (unhide BX))); clear b1)
      | (go_at_call 64; refine (unhide HEN w1 (unhide B1)).mono ?_; rintro e w2 ⟨⟨qb, cb, rfl, ob⟩, b2⟩; have B2 := hide (below_sub (unhide B1) b2); have OB := hide (OwnK.mono ob (unhide B1).size); (obtain ⟨⟨c0, c1, c2, c3, c4⟩, z0, z1, z2, z3⟩ := cells5 (((unhide B2).block gs hsl).trans (unhide BX))); clear ob b2)
      | (go_at_call 30; refine (unhide HAPP w2 qb cb (unhide B2) (unhide OB)).mono ?_; rintro e w3 ⟨rfl, f3, j3, g3⟩; (obtain ⟨⟨c0, c1, c2, c3, c4⟩, z0, z1, z2, z3⟩ := cells5 j3.box); have F3 := hide f3; have J3 := hide j3; have G3 := hide g3; clear f3 j3 g3))
    have kA := (((Below.refl w3.heap.size w3).alloc (Nat.le_refl _) (.cells #[] 63)).block gs (Nat.lt_of_lt_of_le hsl (unhide G3).size)).trans (unhide J3).box
    obtain ⟨⟨a0, a1, a2, a3, a4⟩, _⟩ := cells5 kA
    clear kA
    go_wp2_with (first
      | (at_builtin; refine wpList_app rowC rfl _ _ rfl w3.heap.size q4 c4' L p kp cs L.length cs.length NL rfl rfl hNL rfl rfl (unhide O4) (((unhide HSV w3 (unhide G3)).below (unhide B4)).src) (by unfold maxLen; omega) (by omega) (unhide B4).size ?_; intro q5 c5 w5 o5 b5 _ _; (have k5 := ((((unhide B4).trans b5).block gs (Nat.lt_of_lt_of_le hsl (unhide G3).size)).trans (unhide J3).box)); (have k6 := heap_setCell_same w5 gs 1 _ 73 (.slice q5 NL c5) k5); (have k7 := heap_setCell_same _ gs 2 _ 73 (.int .i64 (NB : Int)) k6); (have k8 := heap_setCell_same _ gs 3 _ 73 (.int .i64 (NP : Int)) k7); (obtain ⟨⟨c0, c1, c2, c3, c4⟩, z0, z1, z2, z3⟩ := cells5 k5); (obtain ⟨⟨d0, d1, d2, d3, d4⟩, y0, y1, y2, y3⟩ := cells5 k6); (obtain ⟨⟨t0, t1, t2, t3, t4⟩, v0, v1, v2, v3⟩ := cells5 k7); have K8 := hide k8; have O5 := hide o5; have B5 := hide ((unhide B4).trans b5); clear o5 b5 k5 k6 k7 k8)
      | (at_builtin; refine wpList_app rowC rfl _ _ rfl w3.heap.size (some ⟨w3.heap.size, 0, none⟩) 0 [] qj cj L 0 L.length L.length rfl rfl (Nat.zero_add _) rfl rfl (OwnK.made _ _ (Nat.le_refl _)) (((unhide J3).row.1.below ((Below.refl _ _).alloc (Nat.le_refl _) _)).src) (by unfold maxLen; omega) (by omega) (by simp) ?_; intro q4 c4' w4 o4 b4 _ _; have O4 : Hid (OwnK encC 63 3 w3.heap.size w4 q4 c4' L) := hide o4; have B4 : Hid (Below w3.heap.size w3 w4) := hide (((Below.refl _ _).alloc (Nat.le_refl _) _).trans b4); (obtain ⟨⟨c0, c1, c2, c3, c4⟩, z0, z1, z2, z3⟩ := cells5 (((unhide B4).block gs (Nat.lt_of_lt_of_le hsl (unhide G3).size)).trans (unhide J3).box)); clear o4 b4))
    go_ret
    have hg3 : w5.grownBy (((w5.setCell ⟨gs, 1, none⟩ (.slice q5 NL c5)).setCell ⟨gs, 2, none⟩ (.int .i64 (NB : Int))).setCell ⟨gs, 3, none⟩ (.int .i64 (NP : Int))) (some gs) := grown_trans (grown_trans (grown_set _ _ _ _) (grown_set _ _ _ _)) (grown_set _ _ _ _)
    have hlen : (L ++ cs).length = NL := by rw [List.length_append]; exact hNL
    refine ⟨rfl, RqEnd.mk2 hsl hpsj hne ((unhide F3).back (unhide B5)) ⟨q5, c5, ⟨fun hp => ?_, hne, ?_, ?_, ?_⟩⟩ hg3⟩
    · rcases hp with hp | hp
      · exact hpsj hp
      · omega
    · rw [hlen]
      have h8 := unhide K8
      rw [unhide HF] at h8
      exact h8
    · have h1 := (unhide O5).sl.mono (P' := fun i => P i ∨ w.heap.size ≤ i) fun i hi _ => Or.inr (Nat.le_trans (unhide G3).size hi)
      exact h1.kept hg3.size fun i hi hl => hg3.block i hl (by intro e; injection e with e; rcases hi with hi | hi; exact hpsj (e ▸ hi); omega)
    · show x.cnt + cs.length = (L ++ cs).length; rw [List.length_append, hcnt]
  · have e0 : jApp s x cs = (E, s1, { x with failed := E }) := by
      unfold jApp
      rw [if_neg (fun h9 => h9 hf), if_neg (fun h9 => h9 hm), if_neg hnil, hb, hE, hs1, if_pos hz]
    have e1 : appL s x L cs = L := by unfold appL; rw [e0]; exact if_neg hz
    have ez : (E != 0) = true := by simp [hz]
    rw [e0, e1]
    clear h hj hr hm hf hnil e0 e1 hs hps hall hen happ hsV hb hE hs1 hz eE le hx
    go_enter Tryz.func31, Tryz.ntmps31
    go_wp2_with (first
      | (go_at_call 63; refine (unhide HALL).mono ?_; rintro e w1 ⟨rfl, b1⟩; have B1 := hide b1; (obtain ⟨⟨c0, c1, c2, c3, c4⟩, z0, z1, z2, z3⟩ := cells5 ((b1.block gs hsl).trans (unhide BX))); clear b1)
      | (go_at_call 64; refine (unhide HEN w1 (unhide B1)).mono ?_; rintro e w2 ⟨⟨qb, cb, rfl, ob⟩, b2⟩; have B2 := hide (below_sub (unhide B1) b2); have OB := hide (OwnK.mono ob (unhide B1).size); (obtain ⟨⟨c0, c1, c2, c3, c4⟩, z0, z1, z2, z3⟩ := cells5 (((unhide B2).block gs hsl).trans (unhide BX))); clear ob b2)
      | (go_at_call 30; refine (unhide HAPP w2 qb cb (unhide B2) (unhide OB)).mono ?_; rintro e w3 ⟨rfl, f3, j3, g3⟩; have F3 := hide f3; have J3 := hide j3; clear f3 j3 g3)
      | (go_at_call 65; refine (rkeep (unhide J3) E).mono ?_; rintro e w4 ⟨rfl, j4, g4⟩; have J4 := hide j4; have G4 := hide g4; clear j4 g4))
    go_ret
    exact ⟨rfl, RqEnd.mk2 hsl hpsj hne (unhide F3) ((unhide J4).up hsl) (unhide G4)⟩
set_option maxHeartbeats 4000000 in
set_option maxRecDepth 100000 in
theorem rjsyn (h : RIn P w g r q c) (hj : RjIn P w gs g L x qj cj) (hr : RelJ s r Z) (ha : s.acts ≤ 900000) :
    Calls Tryz.prog 32 #[.pointer (some ⟨gs, 0, none⟩)] w fun e w' => e = .returned (.int .i64 (jSyn s x).1) ∧ RqEnd P w gs g (jSyn s x).2.1 L (jSyn s x).2.2 Z w' := by
  have hpg := h.pg
  have hgl := h.glt
  have hsl := hj.lt
  have hne := hj.ne
  have hpsj := hj.pg
  obtain ⟨⟨c0, c1, c2, c3, c4⟩, z0, z1, z2, z3⟩ := cells5 hj.box
  have hsame := RqEnd.same h hj hr (Nat.le_refl _) (Below.refl _ _)
  by_cases hf : x.failed ≠ 0
  · have e0 : jSyn s x = (x.failed, s, x) := by unfold jSyn; rw [if_pos hf]
    have bz : (x.failed != 0) = true := by simp [hf]
    rw [e0]
    have HE := hide hsame
    clear h hj hr hf e0 hsame
    go_enter Tryz.func32, Tryz.ntmps32
    go_wp2
    go_ret
    exact ⟨rfl, unhide HE⟩
  replace hf : x.failed = 0 := Decidable.of_not_not hf
  have bz : (x.failed != 0) = false := by simp [hf]
  by_cases hp : x.pend = 0
  · have e0 : jSyn s x = (0, s, x) := by unfold jSyn; rw [if_neg (fun h9 => h9 hf), if_pos hp]
    rw [e0]
    rw [hf] at c4
    rw [hp] at c3
    have HE := hide hsame
    clear h hj hr hf e0 hsame hp bz
    go_enter Tryz.func32, Tryz.ntmps32
    go_wp2
    go_ret
    exact ⟨rfl, unhide HE⟩
  have bp : ((x.pend : Int) == 0) = false := by simp; omega
  obtain ⟨E, hE⟩ : ∃ E, (synJ s).1 = E := ⟨_, rfl⟩
  obtain ⟨s1, hs1⟩ : ∃ s1, (synJ s).2 = s1 := ⟨_, rfl⟩
  have happ : Calls Tryz.prog 66 #[.pointer (some ⟨g, 0, none⟩), .string nJ] w fun e w' => e = .returned (.int .i64 E) ∧ RfJ P w g s1 Z w' ∧ RjIn P w' gs g L x qj cj ∧ w.grownBy w' (some g) := by
    have := (RfJ.refl h hr).cSynJ hpg hgl (by omega)
    rw [hE, hs1] at this
    refine this.mono fun e w' ⟨h1, h2⟩ => ⟨h1, h2, ?_, ?_⟩
    · obtain ⟨_, _, _, h3⟩ := h2; exact hj.disk hpg h3
    · obtain ⟨_, _, _, h3⟩ := h2; exact h3
  have hcnt := hj.cnt
  by_cases hz : E = 0
  · have e0 : jSyn s x = (0, s1, ⟨0, x.cnt, x.bytes, 0⟩) := by
      unfold jSyn; rw [if_neg (fun h9 => h9 hf), if_neg hp, hE, hs1, if_neg (fun h9 => h9 hz)]
    have ez : (E != 0) = false := by simp [hz]
    rw [e0]
    have HF := hide hf
    clear h hj hr hf e0 hsame hp hE hs1 hz
    go_enter Tryz.func32, Tryz.ntmps32
    go_wp2_with (go_at_call 66; refine happ.mono ?_; rintro e w3 ⟨rfl, f3, j3, g3⟩; (have k6 := heap_setCell_same w3 gs 3 _ 73 (.int .i64 0) j3.box); (obtain ⟨⟨d0, d1, d2, d3, d4⟩, y0, y1, y2, y3⟩ := cells5 j3.box); have F3 := hide f3; have J3 := hide j3; have K6 := hide k6; clear f3 j3 g3 k6)
    go_ret
    have hg3 := grown_set w3 gs 3 (.int .i64 0)
    have j3 := unhide J3
    refine ⟨rfl, RqEnd.mk2 hsl hpsj hne (unhide F3) (RjIn.up (qj := qj) (cj := cj) ⟨hpsj, hne, ?_, j3.row.kept hg3.size fun i hi hl => hg3.block i hl (by intro e; injection e with e; exact hpsj (e ▸ hi)), hcnt⟩ hsl) hg3⟩
    have h6 := unhide K6
    rw [unhide HF] at h6
    exact h6
  · have e0 : jSyn s x = (E, s1, { x with failed := E }) := by
      unfold jSyn; rw [if_neg (fun h9 => h9 hf), if_neg hp, hE, hs1, if_pos hz]
    have ez : (E != 0) = true := by simp [hz]
    rw [e0]
    clear h hj hr hf e0 hsame hp hE hs1 hz
    go_enter Tryz.func32, Tryz.ntmps32
    go_wp2_with (first
      | (go_at_call 66; refine happ.mono ?_; rintro e w3 ⟨rfl, f3, j3, g3⟩; have F3 := hide f3; have J3 := hide j3; clear f3 j3 g3)
      | (go_at_call 65; refine (rkeep (unhide J3) E).mono ?_; rintro e w4 ⟨rfl, j4, g4⟩; have J4 := hide j4; have G4 := hide g4; clear j4 g4))
    go_ret
    exact ⟨rfl, RqEnd.mk2 hsl hpsj hne (unhide F3) ((unhide J4).up hsl) (unhide G4)⟩
def rewL (s : JS) (x : JX) (n : Int) (L cs : List Ch) : List Ch := if (jRew s x n cs).1 = 0 then cs else L
set_option maxHeartbeats 4000000 in
set_option maxRecDepth 100000 in
theorem rjrew (h : RIn P w g r q c) (hj : RjIn P w gs g L x qj cj) (hr : RelJ s r Z) (hZ : Z ≤ 1000000000000) (ha : s.acts ≤ 900000) (n : Int) (p : Option Addr) (kp : Nat) (cs : List Ch) (hs : SlOf encC 3 w p kp cs) (hps : 0 < cs.length → ∀ a, p = some a → a.block ≠ g ∧ a.block ≠ gs) (hcl : cs.length ≤ 1000000000) :
    Calls Tryz.prog 33 #[.pointer (some ⟨gs, 0, none⟩), .int .i64 n, .slice p cs.length kp] w fun e w' => e = .returned (.int .i64 (jRew s x n cs).1) ∧ RqEnd P w gs g (jRew s x n cs).2.1 (rewL s x n L cs) (jRew s x n cs).2.2 (Z + (20 + cs.length * 4130)) w' := by
  have hpg := h.pg
  have hgl := h.glt
  have hsl := hj.lt
  have hne := hj.ne
  have hpsj := hj.pg
  have hzz : Z ≤ Z + (20 + cs.length * 4130) := Nat.le_add_right _ _
  obtain ⟨⟨c0, c1, c2, c3, c4⟩, z0, z1, z2, z3⟩ := cells5 hj.box
  have BX := hide hj.box
  have hsame := fun (w' : World) (hb : Below w.heap.size w w') => RqEnd.same h hj hr hzz hb
  by_cases hf : x.failed ≠ 0
  · have e0 : jRew s x n cs = (x.failed, s, x) := by unfold jRew; rw [if_pos hf]
    have e1 : rewL s x n L cs = L := by unfold rewL; rw [e0]; exact if_neg hf
    have bz : (x.failed != 0) = true := by simp [hf]
    rw [e0, e1]
    have HE := hide (hsame w (Below.refl _ _))
    clear h hj hr hf e0 e1 hsame
    go_enter Tryz.func33, Tryz.ntmps33
    go_wp2
    go_ret
    exact ⟨rfl, unhide HE⟩
  replace hf : x.failed = 0 := Decidable.of_not_not hf
  have bz : (x.failed != 0) = false := by simp [hf]
  by_cases hrg : ¬ (1 ≤ n ∧ n ≤ 1099511627777)
  · have e0 : jRew s x n cs = (2, s, x) := by unfold jRew; rw [if_neg (fun h9 => h9 hf), (wh_range hrg cs).1, if_pos (by decide)]
    have e1 : rewL s x n L cs = L := by unfold rewL; rw [e0]; exact if_neg (by show ¬ (2 : Int) = 0; decide)
    rw [e0, e1]
    have HE := hide (hsame w (Below.refl _ _))
    by_cases h1 : n < 1
    · clear h hj hr hf e0 e1 hsame hrg
      go_enter Tryz.func33, Tryz.ntmps33
      go_wp2
      go_ret
      exact ⟨rfl, unhide HE⟩
    · have h2 : 1099511627777 < n := by omega
      clear h hj hr hf e0 e1 hsame hrg
      go_enter Tryz.func33, Tryz.ntmps33
      go_wp2
      go_ret
      exact ⟨rfl, unhide HE⟩
  replace hrg : 1 ≤ n ∧ n ≤ 1099511627777 := Classical.not_not.1 hrg
  have r1 : ¬ n < 1 := by omega
  have r2 : ¬ 1099511627777 < n := by omega
  have hall := rall p kp cs w hs (by omega)
  by_cases hm : ¬ ∀ c ∈ cs, MayB c
  · have e0 : jRew s x n cs = (1, s, x) := by unfold jRew; rw [if_neg (fun h9 => h9 hf), (wh_form hrg hm).1, if_pos (by decide)]
    have e1 : rewL s x n L cs = L := by unfold rewL; rw [e0]; exact if_neg (by show ¬ (1 : Int) = 0; decide)
    rw [decide_eq_false hm] at hall
    rw [e0, e1]
    have HE := hide hsame
    clear h hj hr hm hf e0 e1 hsame hrg
    go_enter Tryz.func33, Tryz.ntmps33
    go_wp2_with (go_at_call 63; refine hall.mono ?_; rintro e w1 ⟨rfl, b1⟩; have B1 := hide b1; clear b1)
    go_ret
    exact ⟨rfl, unhide HE _ (unhide B1)⟩
  replace hm : ∀ c ∈ cs, MayB c := Classical.not_not.1 hm
  rw [decide_eq_true hm] at hall
  obtain ⟨m, rfl⟩ : ∃ m : Nat, n = (m : Int) := ⟨n.toNat, by omega⟩
  obtain ⟨wh1, wh2⟩ := wh_good (n := m) ⟨by omega, by omega⟩ hm
  obtain ⟨b, hb⟩ : ∃ b, headB m ++ encs cs = b := ⟨_, rfl⟩
  rw [hb] at wh2
  have hbl : b.length ≤ 20 + cs.length * 4130 := by rw [← wh2]; exact wh_len _ _
  obtain ⟨E, hE⟩ : ∃ E, (writeM s b).1 = E := ⟨_, rfl⟩
  obtain ⟨s1, hs1⟩ : ∃ s1, (writeM s b).2 = s1 := ⟨_, rfl⟩
  have happ : ∀ (W : World), Below w.heap.size w W → Calls Tryz.prog 52 #[.pointer (some ⟨g, 0, none⟩), .int .i64 (m : Int), .slice p cs.length kp] W fun e w' => e = .returned (.tuple #[.int .i64 (b.length : Int), .int .i64 E]) ∧ RfJ P w g s1 (Z + (20 + cs.length * 4130)) w' ∧ RjIn P w' gs g L x qj cj ∧ w.grownBy w' (some g) := fun W bW => by
    have := ((RfJ.refl h hr).back bW).cAnew hpg hgl (by omega) (by omega) m (by omega) (by omega) p kp cs (hs.below bW) (by omega) hm b hb (by omega)
    rw [hE, hs1] at this
    refine this.mono fun e w' ⟨h1, h2⟩ => ⟨h1, h2.mono (by omega), ?_, ?_⟩
    · obtain ⟨_, _, _, h3⟩ := h2; exact hj.disk hpg h3
    · obtain ⟨_, _, _, h3⟩ := h2; exact h3
  have hsV : ∀ W, w.grownBy W (some g) → SlOf encC 3 W p kp cs := fun W hW => (SlIn.kept (P := fun i => i ≠ g) ⟨hs, fun h0 a ha => (hps h0 a ha).1⟩ hW.size fun i hi hl => hW.block i hl (by intro e; injection e with e; exact hi e)).1
  have HALL := hide hall
  have HAPP := hide happ
  have HSV := hide hsV
  by_cases hz : E = 0
  · have e0 : jRew s x (m : Int) cs = (0, s1, ⟨0, cs.length, b.length, 0⟩) := by
      unfold jRew
      rw [if_neg (fun h9 => h9 hf), wh1, if_neg (fun h9 => h9 rfl), wh2, hE, hs1, if_neg (fun h9 => h9 hz)]
    have e1 : rewL s x (m : Int) L cs = cs := by unfold rewL; rw [e0, if_pos rfl]
    have ez : (E != 0) = false := by simp [hz]
    have HF := hide hf
    rw [e0, e1]
    clear h hj hr hm hf e0 e1 hs hps hall happ hsV hb hE hs1 hz hsame hrg wh1 wh2
    go_enter Tryz.func33, Tryz.ntmps33
    go_upto_region 10 with (first
      | (go_at_call 63; refine (unhide HALL).mono ?_; rintro e w1 ⟨rfl, b1⟩; have B1 := hide b1; (obtain ⟨⟨c0, c1, c2, c3, c4⟩, z0, z1, z2, z3⟩ := cells5 ((b1.block gs hsl).trans (unhide BX))); clear b1)
      | (go_at_call 52; refine (unhide HAPP w1 (unhide B1)).mono ?_; rintro e w3 ⟨rfl, f3, j3, g3⟩; (obtain ⟨⟨c0, c1, c2, c3, c4⟩, z0, z1, z2, z3⟩ := cells5 j3.box); have F3 := hide f3; have J3 := hide j3; have G3 := hide g3; clear f3 j3 g3))
    go_wp2_with (at_builtin; refine wpList_app rowC rfl _ _ rfl w3.heap.size (some ⟨w3.heap.size, 0, none⟩) 0 [] p kp cs 0 cs.length cs.length rfl rfl (Nat.zero_add _) rfl rfl (OwnK.made _ _ (Nat.le_refl _)) (((unhide HSV w3 (unhide G3)).below ((Below.refl _ _).alloc (Nat.le_refl _) _)).src) (by unfold maxLen; omega) (by omega) (by simp) ?_; intro q5 c5 w5 o5 b5 _ _; (have b5' : Below w3.heap.size w3 w5 := ((Below.refl _ _).alloc (Nat.le_refl _) _).trans b5); (have k5 := ((b5'.block gs (Nat.lt_of_lt_of_le hsl (unhide G3).size)).trans (unhide J3).box)); (have k6 := heap_setCell_same w5 gs 1 _ 73 (.slice q5 cs.length c5) k5); (have k7 := heap_setCell_same _ gs 2 _ 73 (.int .i64 (b.length : Int)) k6); (have k8 := heap_setCell_same _ gs 3 _ 73 (.int .i64 0) k7); (obtain ⟨⟨c0, c1, c2, c3, c4⟩, z0, z1, z2, z3⟩ := cells5 k5); (obtain ⟨⟨d0, d1, d2, d3, d4⟩, y0, y1, y2, y3⟩ := cells5 k6); (obtain ⟨⟨t0, t1, t2, t3, t4⟩, v0, v1, v2, v3⟩ := cells5 k7); have K8 := hide k8; have O5 : Hid (OwnK encC 63 3 w3.heap.size w5 q5 c5 cs) := hide o5; have B5 := hide b5'; clear o5 b5 b5' k5 k6 k7 k8)
    go_ret
    have hg3 : w5.grownBy (((w5.setCell ⟨gs, 1, none⟩ (.slice q5 cs.length c5)).setCell ⟨gs, 2, none⟩ (.int .i64 (b.length : Int))).setCell ⟨gs, 3, none⟩ (.int .i64 0)) (some gs) := grown_trans (grown_trans (grown_set _ _ _ _) (grown_set _ _ _ _)) (grown_set _ _ _ _)
    refine ⟨rfl, RqEnd.mk2 hsl hpsj hne ((unhide F3).back (unhide B5)) ⟨q5, c5, ⟨fun hp => ?_, hne, ?_, ?_, rfl⟩⟩ hg3⟩
    · rcases hp with hp | hp
      · exact hpsj hp
      · omega
    · have h8 := unhide K8
      rw [unhide HF] at h8
      exact h8
    · have h1 := (unhide O5).sl.mono (P' := fun i => P i ∨ w.heap.size ≤ i) fun i hi _ => Or.inr (Nat.le_trans (unhide G3).size hi)
      exact h1.kept hg3.size fun i hi hl => hg3.block i hl (by intro e; injection e with e; rcases hi with hi | hi; exact hpsj (e ▸ hi); omega)
  · have e0 : jRew s x (m : Int) cs = (E, s1, { x with failed := E }) := by
      unfold jRew
      rw [if_neg (fun h9 => h9 hf), wh1, if_neg (fun h9 => h9 rfl), wh2, hE, hs1, if_pos hz]
    have e1 : rewL s x (m : Int) L cs = L := by unfold rewL; rw [e0]; exact if_neg hz
    have ez : (E != 0) = true := by simp [hz]
    rw [e0, e1]
    clear h hj hr hm hf e0 e1 hs hps hall happ hsV hb hE hs1 hz hsame hrg wh1 wh2
    go_enter Tryz.func33, Tryz.ntmps33
    go_wp2_with (first
      | (go_at_call 63; refine (unhide HALL).mono ?_; rintro e w1 ⟨rfl, b1⟩; have B1 := hide b1; (obtain ⟨⟨c0, c1, c2, c3, c4⟩, z0, z1, z2, z3⟩ := cells5 ((b1.block gs hsl).trans (unhide BX))); clear b1)
      | (go_at_call 52; refine (unhide HAPP w1 (unhide B1)).mono ?_; rintro e w3 ⟨rfl, f3, j3, g3⟩; have F3 := hide f3; have J3 := hide j3; clear f3 j3 g3)
      | (go_at_call 65; refine (rkeep (unhide J3) E).mono ?_; rintro e w4 ⟨rfl, j4, g4⟩; have J4 := hide j4; have G4 := hide g4; clear j4 g4))
    go_ret
    exact ⟨rfl, RqEnd.mk2 hsl hpsj hne (unhide F3) ((unhide J4).up hsl) (unhide G4)⟩
end
end Go.Proofs.YtfigjfmldpfjkaaGreat

/- The law TreeLeaves returns true, whatever it is given. -/
import Derived.Test.YtmdkdkcjgjknoaaDoorFixed
import Derived.Test.YtmdkdkcjgjknoaaDoorSameNode
import Derived.Test.YtmdkdkcjgjknoaaDoorOver
import Derived.Test.YtmdkdkcjgjknoaaDoorLeaves2
import Derived.Lib.QuietBelow
namespace Go.Proofs.YtmdkdkcjgjknoaaDoor
open Go.RowKit Go.Sort

theorem name_world {P : Program} {f : Nat} {args : Array Value} {w : World} {Q : Ending → World → Prop} (h : ∀ Y, Y = w → Calls P f args Y Q) : Calls P f args w Q := h w rfl
theorem slTake {α : Type} [Inhabited α] {enc : α → List Value} {e : TypeId} {B : Nat} {w : World} {g cap : Nat} {l m : List α} (h : OwnK enc e 1 B w (some ⟨g, 0, none⟩) cap (l ++ m)) (hc : l.length ≤ cap) : SlOf enc 1 w (some ⟨g, 0, none⟩) cap l := ⟨(fun h => by cases h), hc, h.ls.2.2.1, h.ls.2.2.2.take (by decide)⟩
theorem heap_old {w : World} {o : Obj} {k : Nat} (h : k < w.heap.size) : (w.alloc o).heap[k]? = w.heap[k]? := ((Below.refl w.heap.size w).alloc (Nat.le_refl _) o).block k h
theorem size_al (w : World) (o : Obj) : (w.alloc o).heap.size = w.heap.size + 1 := by simp
theorem nine {w Y : World} {o1 o2 o3 o4 o5 o6 o7 o8 o9 : Obj} (h : Y = ((((((((w.alloc o1).alloc o2).alloc o3).alloc o4).alloc o5).alloc o6).alloc o7).alloc o8).alloc o9) :
    (Y.heap[w.heap.size]? = some o1 ∧ Y.heap[w.heap.size + 1]? = some o2 ∧ Y.heap[w.heap.size + 2]? = some o3 ∧ Y.heap[w.heap.size + 3]? = some o4 ∧ Y.heap[w.heap.size + 4]? = some o5 ∧ Y.heap[w.heap.size + 5]? = some o6 ∧ Y.heap[w.heap.size + 6]? = some o7 ∧ Y.heap[w.heap.size + 7]? = some o8 ∧ Y.heap[w.heap.size + 8]? = some o9) ∧ Below w.heap.size w Y ∧ Y.heap.size = w.heap.size + 9 := by
  subst h
  have nw : ∀ (V : World) (o : Obj) (n : Nat), V.heap.size = n → (V.alloc o).heap[n]? = some o := fun V o n h => by rw [← h]; exact box_nw _ _
  refine ⟨⟨?_, ?_, ?_, ?_, ?_, ?_, ?_, ?_, ?_⟩, ?_, by simp⟩
  · repeat rw [heap_old (by simp only [size_al]; omega)]
    exact nw _ _ _ (by simp)
  · repeat rw [heap_old (by simp only [size_al]; omega)]
    exact nw _ _ _ (by simp)
  · repeat rw [heap_old (by simp only [size_al]; omega)]
    exact nw _ _ _ (by simp)
  · repeat rw [heap_old (by simp only [size_al]; omega)]
    exact nw _ _ _ (by simp)
  · repeat rw [heap_old (by simp only [size_al]; omega)]
    exact nw _ _ _ (by simp)
  · repeat rw [heap_old (by simp only [size_al]; omega)]
    exact nw _ _ _ (by simp)
  · repeat rw [heap_old (by simp only [size_al]; omega)]
    exact nw _ _ _ (by simp)
  · repeat rw [heap_old (by simp only [size_al]; omega)]
    exact nw _ _ _ (by simp)
  · exact nw _ _ _ (by simp)
  · have al : ∀ (V : World) (o : Obj), Below w.heap.size w V → Below w.heap.size w (V.alloc o) := fun V o hb => hb.alloc hb.size _
    exact al _ _ (al _ _ (al _ _ (al _ _ (al _ _ (al _ _ (al _ _ (al _ _ (al _ _ (Below.refl _ _)))))))))
theorem check_leaf2 (kind : Int) (attr : ByteArray) (qi : Option Addr) (ci : Nat) (ints : List Int) (qw : Option Addr) (cw : Nat) (words : List ByteArray) (lo hi : Int) (qk : Option Addr) (ck : Nat) (w : World) (h1 : SlOf encI 1 w qi ci ints) (h2 : SlOf encS 1 w qw cw words) (l1 : ints.length ≤ 100000000000000) (l2 : words.length ≤ 100000000000000) :
    Calls Tryd.prog 13 #[.agg #[.int .i64 kind, .string attr, .slice qi ints.length ci, .slice qw words.length cw, .int .i64 lo, .int .i64 hi, .int .i64 1, .slice qk 0 ck]] w fun e w' => e = .returned (.int .i64 (code (predB kind attr ints words lo hi))) ∧ Below w.heap.size w w' := by
  have B0 := hide ((Below.refl w.heap.size w).alloc (Nat.le_refl _) (.cells #[.int .i64 kind, .string attr, .slice qi ints.length ci, .slice qw words.length cw, .int .i64 lo, .int .i64 hi, .int .i64 1, .slice qk 0 ck] 28))
  have hp := pred_any kind attr qi ci ints qw cw words lo hi _ (h1.below (unhide B0)) (h2.below (unhide B0)) (by omega) (by omega)
  clear h1 h2
  cases hq : predB kind attr ints words lo hi with
  | false =>
    rw [hq] at hp
    simp only [code, Bool.false_eq_true, if_false] at hp ⊢
    clear hq
    go_enter Tryd.func13, Tryd.ntmps13
    go_wp2_with (go_at_call 31; refine hp.mono ?_; rintro e w1 ⟨rfl, b1⟩; obtain ⟨z1, d6, d7⟩ := box8 b1; have B1 := hide b1; clear b1)
    go_ret
    exact ⟨rfl, below_sub (unhide B0) (unhide B1)⟩
  | true =>
    rw [hq] at hp
    simp only [code, if_true] at hp ⊢
    clear hq
    go_enter Tryd.func13, Tryd.ntmps13
    go_wp2_with (go_at_call 31; refine hp.mono ?_; rintro e w1 ⟨rfl, b1⟩; obtain ⟨z1, d6, d7⟩ := box8 b1; have B1 := hide b1; clear b1)
    go_loopw [49] (fun i wr => i = .int .i64 0 ∧ Below w.heap.size w wr) (fun _ _ => 0)
    case atStart => exact ⟨rfl, below_sub (unhide B0) (unhide B1)⟩
    case round =>
      obtain ⟨rfl, hbel⟩ := hrel
      have HB := hide hbel
      clear hbel
      go_wp2
      go_ret
      exact ⟨rfl, unhide HB⟩
theorem check_leafV {kind : Int} {attr : ByteArray} {ints : List Int} {words : List ByteArray} {lo hi : Int} (v : Nv) (w : World) (h : NdIn w v (.mk kind attr ints words lo hi 1 [])) (l1 : ints.length ≤ 100000000000000) (l2 : words.length ≤ 100000000000000) :
    Calls Tryd.prog 13 #[v.val] w fun e w' => e = .returned (.int .i64 (code (predB kind attr ints words lo hi))) ∧ Below w.heap.size w w' := by
  obtain ⟨qi, ci, qw, cw, qk, ck, rfl, h1, h2, _⟩ := h.parts
  exact check_leaf2 kind attr qi ci ints qw cw words lo hi qk ck w h1 h2 l1 l2
theorem OwnK.blk {α : Type} [Inhabited α] {enc : α → List Value} {e : TypeId} {k B : Nat} {w : World} {g cap : Nat} {l : List α} (h : OwnK enc e k B w (some ⟨g, 0, none⟩) cap l) : B ≤ g ∧ g < w.heap.size := World.ownsRow.lt h g rfl
theorem OwnK.kept {α : Type} [Inhabited α] {enc : α → List Value} {e : TypeId} {k B : Nat} {w w' : World} {g cap r : Nat} {l : List α} (h : OwnK enc e k B w (some ⟨g, 0, none⟩) cap l) (hg : w.grownBy w' (some r)) (hne : g ≠ r) : OwnK enc e k B w' (some ⟨g, 0, none⟩) cap l := World.ownsRow.kept h hg (Or.inr (by simp [Value.ownBlock]; exact hne))
theorem three {w Y : World} {o1 o2 o3 : Obj} (h : ((w.alloc o1).alloc o2).alloc o3 = Y) : Y.heap[w.heap.size]? = some o1 ∧ Y.heap[w.heap.size + 1]? = some o2 ∧ Y.heap[w.heap.size + 2]? = some o3 ∧ Below w.heap.size w Y ∧ Y.heap.size = w.heap.size + 3 := by
  subst h
  have nw : ∀ (V : World) (o : Obj) (n : Nat), V.heap.size = n → (V.alloc o).heap[n]? = some o := fun V o n h => by rw [← h]; exact box_nw _ _
  refine ⟨?_, ?_, ?_, ?_, by simp⟩
  · repeat rw [heap_old (by simp only [size_al]; omega)]
    exact nw _ _ _ (by simp)
  · repeat rw [heap_old (by simp only [size_al]; omega)]
    exact nw _ _ _ (by simp)
  · exact nw _ _ _ (by simp)
  · exact (((Below.refl _ _).alloc (Nat.le_refl _) _).alloc (by simp) _).alloc (by simp; omega) _
theorem wantIn {w : World} {kind : Int} {attr : ByteArray} {ints : List Int} {words : List ByteArray} {lo hi : Int} {qi : Option Addr} {ci : Nat} {qw : Option Addr} {cw : Nat} (h1 : SlOf encI 1 w qi ci ints) (h2 : SlOf encS 1 w qw cw words) :
    NdIn w ⟨kind, attr, qi, ints.length, ci, qw, words.length, cw, lo, hi, 1, none, 0, 0⟩ (.mk kind attr ints words lo hi 1 []) := NdIn.make (kids := []) h1 h2 ⟨[], SlOf.none w, rfl, fun j v x hj _ => by simp at hj⟩
theorem sameVV {t : Nd} (va vb : Nv) (w : World) (ha : NdIn w va t) (hb : NdIn w vb t) (ok : OkN t) : Calls Tryd.prog 21 #[va.val, vb.val] w fun e w' => e = .returned (.bool true) ∧ Below w.heap.size w w' := by
  have := sameM_all t t va vb w ha hb ok
  rwa [sameT_yes rfl] at this
set_option maxRecDepth 100000 in
set_option maxHeartbeats 8000000 in
theorem treeLeaves_none (attr : ByteArray) (qi : Option Addr) (ci : Nat) (ints : List Int) (qw : Option Addr) (cw : Nat) (words : List ByteArray) (lo hi : Int) (w : World) (hG : G w) (h1 : SlOf encI 1 w qi ci ints) (h2 : SlOf encS 1 w qw cw words) (m1 : ints.length * 8 + 64 ≤ 140737488355328) (m2 : words.length * 16 + 64 ≤ 140737488355328) (hw : words.length = 0) :
    Calls Tryd.prog 5 #[.string attr, .slice qi ints.length ci, .slice qw words.length cw, .int .i64 lo, .int .i64 hi] w fun e w' => e = .returned (.bool true) ∧ Below w.heap.size w w' := by
  have mixed : Tryd.prog.follows .mixedOrders = true := by kernel_rfl
  have hfx := fixed_any w hG
  have hp : ¬ (0 : Int) < (words.length : Int) := by omega
  clear hw
  have H1 := hide h1
  have H2 := hide h2
  clear h1 h2
  go_enter Tryd.func5, Tryd.ntmps5
  go_wp2_with (first
    | (go_at_call 9; refine hfx.mono ?_; rintro e w1 ⟨rfl, b1⟩; have B1 := hide b1; clear b1)
    | (go_at_call 23; refine (memI qi ci ints _ ((unhide H1).below (unhide B1)) m1).mono ?_; rintro e w2 ⟨⟨g1, k1, rfl, o1, r1⟩, b2⟩; have O1 := hide o1; have R1 := hide r1; have B2 := hide b2; clear o1 r1 b2)
    | (go_at_call 24; refine (memS qw cw words _ ((unhide H2).below (below_sub (unhide B1) (unhide B2))) m2).mono ?_; rintro e w3 ⟨⟨g2, k2, rfl, o2, r2⟩, b3⟩; have O2 := hide o2; have R2 := hide r2; have B3 := hide b3; clear o2 r2 b3)
    | (go_at_call 25; refine (ints_big attr (some ⟨g1, 0, none⟩) k1 ints _ ((slTake (unhide O1) (by have := unhide R1; omega)).below (unhide B3)) m1).mono ?_; rintro e w4 ⟨⟨va, rfl, na⟩, b4⟩; have Na := hide na; have B4 := hide b4; clear na b4)
    | (go_at_call 26; refine (words_big attr (some ⟨g2, 0, none⟩) k2 words _ ((slTake (unhide O2) (by have := unhide R2; omega)).below (unhide B4)) m2).mono ?_; rintro e w5 ⟨⟨vb, rfl, nb⟩, b5⟩; have Nb := hide nb; have B5 := hide b5; clear nb b5)
    | (go_at_call 27; refine (range_any attr lo hi _).mono ?_; rintro e w6 ⟨⟨vc, rfl, nc⟩, b6⟩; have Nc := hide nc; have B6 := hide b6; clear nc b6)
    | (go_at_call 28; refine (prefix_any attr ⟨#[]⟩ _).mono ?_; rintro e w7 ⟨⟨vd, rfl, nd⟩, b7⟩; simp only [Nv.val]; have Nd := hide nd; have B7 := hide b7; clear nd b7)
    | (go_at_call 29; refine name_world ?_; intro Y hY; obtain ⟨⟨y1, y2, y3, y4, y5, y6, y7, y8, y9⟩, hbY, hYs⟩ := nine hY; clear hY; have BY := hide hbY; have s2Y := below_sub (unhide B3) (below_sub (unhide B4) (below_sub (unhide B5) (below_sub (unhide B6) (below_sub (unhide B7) hbY)))); have hgb1 := (unhide O1).blk; have hgb2 := (unhide O2).blk; have z1 := (unhide B1).size; have z2 := (unhide B2).size; have z3 := (unhide B3).size; have z4 := (unhide B4).size; have z5 := (unhide B5).size; have z6 := (unhide B6).size; have z7 := (unhide B7).size; have S2Y := hide s2Y; have Y1 := hide y1; have Y2 := hide y2; have Y3 := hide y3; have Y4 := hide y4; have Y5 := hide y5; have Y6 := hide y6; have Y7 := hide y7; have Y8 := hide y8; have Y9 := hide y9; clear y1 y2 y3 y4 y5 y6 y7 y8 y9 hbY s2Y; refine (overI w1.heap.size g1 ints.length k1 Y m1 (by omega) ((unhide O1).below (unhide S2Y)).rawTake).mono ?_; rintro e w8 ⟨rfl, gr8⟩; have GR8 := hide gr8; have z8 := gr8.size; clear gr8)
    | (go_at_call 30; refine (overS w2.heap.size g2 words.length k2 w8 m2 (by omega) (((unhide O2).below (below_sub (unhide B4) (below_sub (unhide B5) (below_sub (unhide B6) (below_sub (unhide B7) (unhide BY)))))).kept (unhide GR8) (by omega)).rawTake).mono ?_; rintro e w9 ⟨rfl, gr9⟩; have GR9 := hide gr9; have z9 := gr9.size; have K9 : ∀ b, w3.heap.size ≤ b → b < Y.heap.size → w9.heap[b]? = Y.heap[b]? := (fun b hb hb' => (gr9.block b (by omega) (fun e => by cases e; omega)).trans ((unhide GR8).block b hb' (fun e => by cases e; omega))); have u1 := (K9 w7.heap.size (by omega) (by omega)).trans (unhide Y1); have u2 := (K9 (w7.heap.size + 1) (by omega) (by omega)).trans (unhide Y2); have u3 := (K9 (w7.heap.size + 2) (by omega) (by omega)).trans (unhide Y3); have u4 := (K9 (w7.heap.size + 3) (by omega) (by omega)).trans (unhide Y4); obtain ⟨a0, a1, a2, a3, a4, a5, a6, a7⟩ := of8' u1; obtain ⟨b0, b1, b2, b3, b4, b5, b6, b7⟩ := of8' u2; obtain ⟨c0, c1, c2, c3, c4, c5, c6, c7⟩ := of8' u3; obtain ⟨d0, d1, d2, d3, d4, d5, d6, d7⟩ := of8' u4; clear gr9 u1 u2 u3 u4))
  have HK9 := hide K9
  clear K9
  have P9 : Hid (w9.heap[w7.heap.size + 4]? = some (.cells #[.int .i64 1, .string attr, .slice qi ints.length ci, .slice none 0 0, .int .i64 0, .int .i64 0] 25 (0, 0))) := hide ((unhide HK9 (w7.heap.size + 4) (by omega) (by omega)).trans (unhide Y5))
  have Q9 : Hid (w9.heap[w7.heap.size + 5]? = some (.cells #[.int .i64 2, .string attr, .slice none 0 0, .slice qw words.length cw, .int .i64 0, .int .i64 0] 25 (0, 0))) := hide ((unhide HK9 (w7.heap.size + 5) (by omega) (by omega)).trans (unhide Y6))
  have S9 : Hid (w9.heap[w7.heap.size + 6]? = some (.cells #[.int .i64 3, .string attr, .slice none 0 0, .slice none 0 0, .int .i64 lo, .int .i64 hi] 25 (0, 0))) := hide ((unhide HK9 (w7.heap.size + 6) (by omega) (by omega)).trans (unhide Y7))
  have L9 : Hid (w9.heap[w7.heap.size + 7]? = some (.cells #[.string ⟨#[]⟩] 9 (0, 0))) := hide ((unhide HK9 (w7.heap.size + 7) (by omega) (by omega)).trans (unhide Y8))
  have T9 : Hid (w9.heap[w7.heap.size + 8]? = some (.cells #[.int .i64 4, .string attr, .slice none 0 0, .slice (some ⟨w7.heap.size + 7, 0, none⟩) 1 1, .int .i64 0, .int .i64 0] 25 (0, 0))) := hide ((unhide HK9 (w7.heap.size + 8) (by omega) (by omega)).trans (unhide Y9))
  have up : SameUp w3.heap.size Y w9 := (SameUp.grown (unhide GR8) (by omega)).trans (SameUp.grown (unhide GR9) (by omega))
  have NA := hide ((((unhide Na).keep (below_sub (unhide B5) (below_sub (unhide B6) (below_sub (unhide B7) (unhide BY))))).mono (Nat.le_refl _)).up up).toIn
  have NB := hide ((((unhide Nb).keep (below_sub (unhide B6) (below_sub (unhide B7) (unhide BY)))).mono (by omega)).up up).toIn
  have NC := hide ((((unhide Nc).keep (below_sub (unhide B7) (unhide BY))).mono (by omega)).up up).toIn
  have ND := hide ((((unhide Nd).keep (unhide BY)).mono (by omega)).up up).toIn
  have b17 := below_sub (unhide B1) (below_sub (unhide B2) (unhide S2Y))
  have b19 : Below w.heap.size w w9 := (b17.grown (unhide GR8) (by omega) (fun k hk => by cases hk; omega)).grown (unhide GR9) (by omega) (fun k hk => by cases hk; omega)
  have HI := hide ((unhide H1).below b19)
  have HW := hide ((unhide H2).below b19)
  have HL := hide (one_word (unhide L9))
  have B19 := hide b19
  have z29 : w7.heap.size + 9 ≤ w9.heap.size := by omega
  have en21 : ∀ args w, (callFunc 21 args).run Tryd.prog w = .ok (.enter 21 args) w := enters_of Tryd.func21 (by kernel_rfl) rfl
  have en13 : ∀ args w, (callFunc 13 args).run Tryd.prog w = .ok (.enter 13 args) w := enters_of Tryd.func13 (by kernel_rfl) rfl
  have en31 : ∀ args w, (callFunc 31 args).run Tryd.prog w = .ok (.enter 31 args) w := enters_of Tryd.func31 (by kernel_rfl) rfl
  clear hfx b17 b19 up hG H1 H2 B1 B2 B3 B4 B5 B6 B7 BY S2Y O1 O2 R1 R2 GR8 GR9 HK9 Y1 Y2 Y3 Y4 Y5 Y6 Y7 Y8 Y9 Na Nb Nc Nd hgb1 hgb2 z1 z2 z3 z4 z5 z6 z7 z8 z9 hYs a0 a1 a2 a3 a4 a5 a6 a7 b0 b1 b2 b3 b4 b5 b6 b7 c0 c1 c2 c3 c4 c5 c6 c7 d0 d1 d2 d3 d4 d5 d6 d7
  go_loopw [74] (fun i wr => ∃ k : Nat, k ≤ 4 ∧ i = .int .i64 k ∧ Below w9.heap.size w9 wr ∧ wr.heap[w9.heap.size]? = some (.cells #[.int .i64 va.kind, .string va.attr, .slice va.qi va.ni va.ci, .slice va.qw va.nw va.cw, .int .i64 va.lo, .int .i64 va.hi, .int .i64 va.op, .slice va.qk va.nk va.ck, .int .i64 vb.kind, .string vb.attr, .slice vb.qi vb.ni vb.ci, .slice vb.qw vb.nw vb.cw, .int .i64 vb.lo, .int .i64 vb.hi, .int .i64 vb.op, .slice vb.qk vb.nk vb.ck, .int .i64 vc.kind, .string vc.attr, .slice vc.qi vc.ni vc.ci, .slice vc.qw vc.nw vc.cw, .int .i64 vc.lo, .int .i64 vc.hi, .int .i64 vc.op, .slice vc.qk vc.nk vc.ck, .int .i64 vd.kind, .string vd.attr, .slice vd.qi vd.ni vd.ci, .slice vd.qw vd.nw vd.cw, .int .i64 vd.lo, .int .i64 vd.hi, .int .i64 vd.op, .slice vd.qk vd.nk vd.ck] 28 (0, 0))) (fun i _ => 4 - (intOf i).toNat)
  case atStart => exact ⟨0, by omega, rfl, (Below.refl _ _).alloc (Nat.le_refl _) _, box_nw _ _⟩
  case round =>
    obtain ⟨k, hkk, rfl, hbel, hM⟩ := hrel
    have hk5 : k = 0 ∨ k = 1 ∨ k = 2 ∨ k = 3 ∨ k = 4 := by omega
    have HM := hide hM
    have HB := hide hbel
    have zr := hbel.size
    have zM := heap_lt hM
    obtain ⟨p0, p1, p2, p3, p4, p5⟩ := of6' ((hbel.block _ (by omega)).trans (unhide P9))
    obtain ⟨q0, q1, q2, q3, q4, q5⟩ := of6' ((hbel.block _ (by omega)).trans (unhide Q9))
    obtain ⟨s0, s1, s2, s3, s4, s5⟩ := of6' ((hbel.block _ (by omega)).trans (unhide S9))
    obtain ⟨t0, t1, t2, t3, t4, t5⟩ := of6' ((hbel.block _ (by omega)).trans (unhide T9))
    clear hbel P9 Q9 S9 T9
    have ne4 : ¬ w7.heap.size + 4 = wr.heap.size := by omega
    have nf4 : ¬ wr.heap.size = w7.heap.size + 4 := by omega
    have lt4 : w7.heap.size + 4 < wr.heap.size := by omega
    have ne5 : ¬ w7.heap.size + 5 = wr.heap.size := by omega
    have nf5 : ¬ wr.heap.size = w7.heap.size + 5 := by omega
    have lt5 : w7.heap.size + 5 < wr.heap.size := by omega
    have ne6 : ¬ w7.heap.size + 6 = wr.heap.size := by omega
    have nf6 : ¬ wr.heap.size = w7.heap.size + 6 := by omega
    have lt6 : w7.heap.size + 6 < wr.heap.size := by omega
    have ne8 : ¬ w7.heap.size + 8 = wr.heap.size := by omega
    have nf8 : ¬ wr.heap.size = w7.heap.size + 8 := by omega
    have lt8 : w7.heap.size + 8 < wr.heap.size := by omega
    rcases hk5 with rfl | rfl | rfl | rfl | rfl
    · have l0 : wr.cell? ⟨w9.heap.size, 0, none⟩ = some (.int .i64 va.kind) := by rw [Lib.cell_of_heap hM]; rfl
      have l1 : wr.cell? ⟨w9.heap.size, 1, none⟩ = some (.string va.attr) := by rw [Lib.cell_of_heap hM]; rfl
      have l2 : wr.cell? ⟨w9.heap.size, 2, none⟩ = some (.slice va.qi va.ni va.ci) := by rw [Lib.cell_of_heap hM]; rfl
      have l3 : wr.cell? ⟨w9.heap.size, 3, none⟩ = some (.slice va.qw va.nw va.cw) := by rw [Lib.cell_of_heap hM]; rfl
      have l4 : wr.cell? ⟨w9.heap.size, 4, none⟩ = some (.int .i64 va.lo) := by rw [Lib.cell_of_heap hM]; rfl
      have l5 : wr.cell? ⟨w9.heap.size, 5, none⟩ = some (.int .i64 va.hi) := by rw [Lib.cell_of_heap hM]; rfl
      have l6 : wr.cell? ⟨w9.heap.size, 6, none⟩ = some (.int .i64 va.op) := by rw [Lib.cell_of_heap hM]; rfl
      have l7 : wr.cell? ⟨w9.heap.size, 7, none⟩ = some (.slice va.qk va.nk va.ck) := by rw [Lib.cell_of_heap hM]; rfl
      clear hM
      go_wp2
      obtain ⟨w0, hw0⟩ : ∃ w0, ((wr.alloc (.cells #[.int .i64 va.kind, .string va.attr, .slice va.qi va.ni va.ci, .slice va.qw va.nw va.cw, .int .i64 va.lo, .int .i64 va.hi, .int .i64 va.op, .slice va.qk va.nk va.ck] 28)).alloc (.cells #[.int .i64 1, .string attr, .slice qi ints.length ci, .slice none 0 0, .int .i64 0, .int .i64 0, .int .i64 2, .string attr, .slice none 0 0, .slice qw words.length cw, .int .i64 0, .int .i64 0, .int .i64 3, .string attr, .slice none 0 0, .slice none 0 0, .int .i64 lo, .int .i64 hi, .int .i64 4, .string attr, .slice none 0 0, .slice (some ⟨w7.heap.size + 7, 0, none⟩) 1 1, .int .i64 0, .int .i64 0] 25)).alloc (.cells #[.int .i64 1, .string attr, .slice qi ints.length ci, .slice none 0 0, .int .i64 0, .int .i64 0] 25) = w0 := ⟨_, rfl⟩
      rw [hw0]
      obtain ⟨m0, _, m2, bw0, sz0⟩ := three hw0
      obtain ⟨y0, y1, y2, y3, y4, y5, y6, y7⟩ := of8' m0
      obtain ⟨x0, x1, x2, x3, x4, x5⟩ := of6' m2
      have f0 : ∀ n os, (grow (redrawn w0 n) os).cell? ⟨wr.heap.size, 0, none⟩ = some (.int .i64 va.kind) := cell_regrown y0
      have f1 : ∀ n os, (grow (redrawn w0 n) os).cell? ⟨wr.heap.size, 1, none⟩ = some (.string va.attr) := cell_regrown y1
      have f2 : ∀ n os, (grow (redrawn w0 n) os).cell? ⟨wr.heap.size, 2, none⟩ = some (.slice va.qi va.ni va.ci) := cell_regrown y2
      have f3 : ∀ n os, (grow (redrawn w0 n) os).cell? ⟨wr.heap.size, 3, none⟩ = some (.slice va.qw va.nw va.cw) := cell_regrown y3
      have f4 : ∀ n os, (grow (redrawn w0 n) os).cell? ⟨wr.heap.size, 4, none⟩ = some (.int .i64 va.lo) := cell_regrown y4
      have f5 : ∀ n os, (grow (redrawn w0 n) os).cell? ⟨wr.heap.size, 5, none⟩ = some (.int .i64 va.hi) := cell_regrown y5
      have f6 : ∀ n os, (grow (redrawn w0 n) os).cell? ⟨wr.heap.size, 6, none⟩ = some (.int .i64 va.op) := cell_regrown y6
      have f7 : ∀ n os, (grow (redrawn w0 n) os).cell? ⟨wr.heap.size, 7, none⟩ = some (.slice va.qk va.nk va.ck) := cell_regrown y7
      have e0 : ∀ n os, (grow (redrawn w0 n) os).cell? ⟨wr.heap.size + 2, 0, none⟩ = some (.int .i64 1) := cell_regrown x0
      have e1 : ∀ n os, (grow (redrawn w0 n) os).cell? ⟨wr.heap.size + 2, 1, none⟩ = some (.string attr) := cell_regrown x1
      have e2 : ∀ n os, (grow (redrawn w0 n) os).cell? ⟨wr.heap.size + 2, 2, none⟩ = some (.slice qi ints.length ci) := cell_regrown x2
      have e3 : ∀ n os, (grow (redrawn w0 n) os).cell? ⟨wr.heap.size + 2, 3, none⟩ = some (.slice none 0 0) := cell_regrown x3
      have e4 : ∀ n os, (grow (redrawn w0 n) os).cell? ⟨wr.heap.size + 2, 4, none⟩ = some (.int .i64 0) := cell_regrown x4
      have e5 : ∀ n os, (grow (redrawn w0 n) os).cell? ⟨wr.heap.size + 2, 5, none⟩ = some (.int .i64 0) := cell_regrown x5
      have bbr := fun (n : Nat) (os : Array Obj) => below_sub (unhide HB) (below_sub bw0 (below_regrown w0 n os))
      have r21 := fun (n : Nat) (os : Array Obj) => (fun (bb : Below w9.heap.size w9 (grow (redrawn w0 n) os)) => sameVV va ⟨1, attr, qi, ints.length, ci, none, 0, 0, 0, 0, 1, none, 0, 0⟩ (grow (redrawn w0 n) os) ((unhide NA).keep bb) (wantIn ((unhide HI).below bb) (SlOf.none _)) (OkN.mk (by omega) (by simp) (by simp) (fun x hx => by simp at hx))) (bbr n os)
      have r13 := fun (n : Nat) (os : Array Obj) => (fun (bb : Below w9.heap.size w9 (grow (redrawn w0 n) os)) => check_leafV va (grow (redrawn w0 n) os) ((unhide NA).keep bb) (by first | omega | simp) (by first | omega | simp)) (bbr n os)
      have r31 := fun (n : Nat) (os : Array Obj) => (fun (bb : Below w9.heap.size w9 (grow (redrawn w0 n) os)) => pred_any 1 attr qi ci ints none 0 [] 0 0 (grow (redrawn w0 n) os) ((unhide HI).below bb) (SlOf.none _) (by first | omega | simp) (by first | omega | simp)) (bbr n os)
      simp only [Nv.val, List.length_nil] at r21 r13 r31
      generalize code (predB 1 attr ints [] 0 0) = cb at r13 r31
      have hcb : (cb != cb) = false := by simp
      have HBW := hide bw0
      clear m0 m2 bw0 y0 y1 y2 y3 y4 y5 y6 y7 x0 x1 x2 x3 x4 x5 bbr hw0 l0 l1 l2 l3 l4 l5 l6 l7 p0 p1 p2 p3 p4 p5 q0 q1 q2 q3 q4 q5 s0 s1 s2 s3 s4 s5 t0 t1 t2 t3 t4 t5
      refine wp_region_quiet_below (by assumption) (by kernel_rfl) ?_
      repeat (go_big_quiet_step (first
        | (go_at_fn 21; refine Calls.regrown_of (r21 _ _))
        | (go_at_fn 13; refine Calls.regrown_of (r13 _ _))
        | (go_at_fn 31; refine Calls.regrown_of (r31 _ _))))
      refine wpQuiet_nil ?_
      intro _ hw'
      obtain ⟨⟨dq, osq⟩, hw''⟩ := hw'
      subst hw''
      have bE := below_sub (unhide HBW) (below_regrown w0 dq osq)
      have ME := (bE.block _ zM).trans (unhide HM)
      have BE := hide (below_sub (unhide HB) bE)
      go_wp2
      go_roundw
      case rel => exact ⟨1, by omega, by go_num, unhide BE, ME⟩
      case measure => simp [intOf]
    · have l0 : wr.cell? ⟨w9.heap.size, 8, none⟩ = some (.int .i64 vb.kind) := by rw [Lib.cell_of_heap hM]; rfl
      have l1 : wr.cell? ⟨w9.heap.size, 9, none⟩ = some (.string vb.attr) := by rw [Lib.cell_of_heap hM]; rfl
      have l2 : wr.cell? ⟨w9.heap.size, 10, none⟩ = some (.slice vb.qi vb.ni vb.ci) := by rw [Lib.cell_of_heap hM]; rfl
      have l3 : wr.cell? ⟨w9.heap.size, 11, none⟩ = some (.slice vb.qw vb.nw vb.cw) := by rw [Lib.cell_of_heap hM]; rfl
      have l4 : wr.cell? ⟨w9.heap.size, 12, none⟩ = some (.int .i64 vb.lo) := by rw [Lib.cell_of_heap hM]; rfl
      have l5 : wr.cell? ⟨w9.heap.size, 13, none⟩ = some (.int .i64 vb.hi) := by rw [Lib.cell_of_heap hM]; rfl
      have l6 : wr.cell? ⟨w9.heap.size, 14, none⟩ = some (.int .i64 vb.op) := by rw [Lib.cell_of_heap hM]; rfl
      have l7 : wr.cell? ⟨w9.heap.size, 15, none⟩ = some (.slice vb.qk vb.nk vb.ck) := by rw [Lib.cell_of_heap hM]; rfl
      clear hM
      go_wp2
      obtain ⟨w0, hw0⟩ : ∃ w0, ((wr.alloc (.cells #[.int .i64 vb.kind, .string vb.attr, .slice vb.qi vb.ni vb.ci, .slice vb.qw vb.nw vb.cw, .int .i64 vb.lo, .int .i64 vb.hi, .int .i64 vb.op, .slice vb.qk vb.nk vb.ck] 28)).alloc (.cells #[.int .i64 1, .string attr, .slice qi ints.length ci, .slice none 0 0, .int .i64 0, .int .i64 0, .int .i64 2, .string attr, .slice none 0 0, .slice qw words.length cw, .int .i64 0, .int .i64 0, .int .i64 3, .string attr, .slice none 0 0, .slice none 0 0, .int .i64 lo, .int .i64 hi, .int .i64 4, .string attr, .slice none 0 0, .slice (some ⟨w7.heap.size + 7, 0, none⟩) 1 1, .int .i64 0, .int .i64 0] 25)).alloc (.cells #[.int .i64 2, .string attr, .slice none 0 0, .slice qw words.length cw, .int .i64 0, .int .i64 0] 25) = w0 := ⟨_, rfl⟩
      rw [hw0]
      obtain ⟨m0, _, m2, bw0, sz0⟩ := three hw0
      obtain ⟨y0, y1, y2, y3, y4, y5, y6, y7⟩ := of8' m0
      obtain ⟨x0, x1, x2, x3, x4, x5⟩ := of6' m2
      have f0 : ∀ n os, (grow (redrawn w0 n) os).cell? ⟨wr.heap.size, 0, none⟩ = some (.int .i64 vb.kind) := cell_regrown y0
      have f1 : ∀ n os, (grow (redrawn w0 n) os).cell? ⟨wr.heap.size, 1, none⟩ = some (.string vb.attr) := cell_regrown y1
      have f2 : ∀ n os, (grow (redrawn w0 n) os).cell? ⟨wr.heap.size, 2, none⟩ = some (.slice vb.qi vb.ni vb.ci) := cell_regrown y2
      have f3 : ∀ n os, (grow (redrawn w0 n) os).cell? ⟨wr.heap.size, 3, none⟩ = some (.slice vb.qw vb.nw vb.cw) := cell_regrown y3
      have f4 : ∀ n os, (grow (redrawn w0 n) os).cell? ⟨wr.heap.size, 4, none⟩ = some (.int .i64 vb.lo) := cell_regrown y4
      have f5 : ∀ n os, (grow (redrawn w0 n) os).cell? ⟨wr.heap.size, 5, none⟩ = some (.int .i64 vb.hi) := cell_regrown y5
      have f6 : ∀ n os, (grow (redrawn w0 n) os).cell? ⟨wr.heap.size, 6, none⟩ = some (.int .i64 vb.op) := cell_regrown y6
      have f7 : ∀ n os, (grow (redrawn w0 n) os).cell? ⟨wr.heap.size, 7, none⟩ = some (.slice vb.qk vb.nk vb.ck) := cell_regrown y7
      have e0 : ∀ n os, (grow (redrawn w0 n) os).cell? ⟨wr.heap.size + 2, 0, none⟩ = some (.int .i64 2) := cell_regrown x0
      have e1 : ∀ n os, (grow (redrawn w0 n) os).cell? ⟨wr.heap.size + 2, 1, none⟩ = some (.string attr) := cell_regrown x1
      have e2 : ∀ n os, (grow (redrawn w0 n) os).cell? ⟨wr.heap.size + 2, 2, none⟩ = some (.slice none 0 0) := cell_regrown x2
      have e3 : ∀ n os, (grow (redrawn w0 n) os).cell? ⟨wr.heap.size + 2, 3, none⟩ = some (.slice qw words.length cw) := cell_regrown x3
      have e4 : ∀ n os, (grow (redrawn w0 n) os).cell? ⟨wr.heap.size + 2, 4, none⟩ = some (.int .i64 0) := cell_regrown x4
      have e5 : ∀ n os, (grow (redrawn w0 n) os).cell? ⟨wr.heap.size + 2, 5, none⟩ = some (.int .i64 0) := cell_regrown x5
      have bbr := fun (n : Nat) (os : Array Obj) => below_sub (unhide HB) (below_sub bw0 (below_regrown w0 n os))
      have r21 := fun (n : Nat) (os : Array Obj) => (fun (bb : Below w9.heap.size w9 (grow (redrawn w0 n) os)) => sameVV vb ⟨2, attr, none, 0, 0, qw, words.length, cw, 0, 0, 1, none, 0, 0⟩ (grow (redrawn w0 n) os) ((unhide NB).keep bb) (wantIn (SlOf.none _) ((unhide HW).below bb)) (OkN.mk (by simp) (by omega) (by simp) (fun x hx => by simp at hx))) (bbr n os)
      have r13 := fun (n : Nat) (os : Array Obj) => (fun (bb : Below w9.heap.size w9 (grow (redrawn w0 n) os)) => check_leafV vb (grow (redrawn w0 n) os) ((unhide NB).keep bb) (by first | omega | simp) (by first | omega | simp)) (bbr n os)
      have r31 := fun (n : Nat) (os : Array Obj) => (fun (bb : Below w9.heap.size w9 (grow (redrawn w0 n) os)) => pred_any 2 attr none 0 [] qw cw words 0 0 (grow (redrawn w0 n) os) (SlOf.none _) ((unhide HW).below bb) (by first | omega | simp) (by first | omega | simp)) (bbr n os)
      simp only [Nv.val, List.length_nil] at r21 r13 r31
      generalize code (predB 2 attr [] words 0 0) = cb at r13 r31
      have hcb : (cb != cb) = false := by simp
      have HBW := hide bw0
      clear m0 m2 bw0 y0 y1 y2 y3 y4 y5 y6 y7 x0 x1 x2 x3 x4 x5 bbr hw0 l0 l1 l2 l3 l4 l5 l6 l7 p0 p1 p2 p3 p4 p5 q0 q1 q2 q3 q4 q5 s0 s1 s2 s3 s4 s5 t0 t1 t2 t3 t4 t5
      refine wp_region_quiet_below (by assumption) (by kernel_rfl) ?_
      repeat (go_big_quiet_step (first
        | (go_at_fn 21; refine Calls.regrown_of (r21 _ _))
        | (go_at_fn 13; refine Calls.regrown_of (r13 _ _))
        | (go_at_fn 31; refine Calls.regrown_of (r31 _ _))))
      refine wpQuiet_nil ?_
      intro _ hw'
      obtain ⟨⟨dq, osq⟩, hw''⟩ := hw'
      subst hw''
      have bE := below_sub (unhide HBW) (below_regrown w0 dq osq)
      have ME := (bE.block _ zM).trans (unhide HM)
      have BE := hide (below_sub (unhide HB) bE)
      go_wp2
      go_roundw
      case rel => exact ⟨2, by omega, by go_num, unhide BE, ME⟩
      case measure => simp [intOf]
    · have l0 : wr.cell? ⟨w9.heap.size, 16, none⟩ = some (.int .i64 vc.kind) := by rw [Lib.cell_of_heap hM]; rfl
      have l1 : wr.cell? ⟨w9.heap.size, 17, none⟩ = some (.string vc.attr) := by rw [Lib.cell_of_heap hM]; rfl
      have l2 : wr.cell? ⟨w9.heap.size, 18, none⟩ = some (.slice vc.qi vc.ni vc.ci) := by rw [Lib.cell_of_heap hM]; rfl
      have l3 : wr.cell? ⟨w9.heap.size, 19, none⟩ = some (.slice vc.qw vc.nw vc.cw) := by rw [Lib.cell_of_heap hM]; rfl
      have l4 : wr.cell? ⟨w9.heap.size, 20, none⟩ = some (.int .i64 vc.lo) := by rw [Lib.cell_of_heap hM]; rfl
      have l5 : wr.cell? ⟨w9.heap.size, 21, none⟩ = some (.int .i64 vc.hi) := by rw [Lib.cell_of_heap hM]; rfl
      have l6 : wr.cell? ⟨w9.heap.size, 22, none⟩ = some (.int .i64 vc.op) := by rw [Lib.cell_of_heap hM]; rfl
      have l7 : wr.cell? ⟨w9.heap.size, 23, none⟩ = some (.slice vc.qk vc.nk vc.ck) := by rw [Lib.cell_of_heap hM]; rfl
      clear hM
      go_wp2
      obtain ⟨w0, hw0⟩ : ∃ w0, ((wr.alloc (.cells #[.int .i64 vc.kind, .string vc.attr, .slice vc.qi vc.ni vc.ci, .slice vc.qw vc.nw vc.cw, .int .i64 vc.lo, .int .i64 vc.hi, .int .i64 vc.op, .slice vc.qk vc.nk vc.ck] 28)).alloc (.cells #[.int .i64 1, .string attr, .slice qi ints.length ci, .slice none 0 0, .int .i64 0, .int .i64 0, .int .i64 2, .string attr, .slice none 0 0, .slice qw words.length cw, .int .i64 0, .int .i64 0, .int .i64 3, .string attr, .slice none 0 0, .slice none 0 0, .int .i64 lo, .int .i64 hi, .int .i64 4, .string attr, .slice none 0 0, .slice (some ⟨w7.heap.size + 7, 0, none⟩) 1 1, .int .i64 0, .int .i64 0] 25)).alloc (.cells #[.int .i64 3, .string attr, .slice none 0 0, .slice none 0 0, .int .i64 lo, .int .i64 hi] 25) = w0 := ⟨_, rfl⟩
      rw [hw0]
      obtain ⟨m0, _, m2, bw0, sz0⟩ := three hw0
      obtain ⟨y0, y1, y2, y3, y4, y5, y6, y7⟩ := of8' m0
      obtain ⟨x0, x1, x2, x3, x4, x5⟩ := of6' m2
      have f0 : ∀ n os, (grow (redrawn w0 n) os).cell? ⟨wr.heap.size, 0, none⟩ = some (.int .i64 vc.kind) := cell_regrown y0
      have f1 : ∀ n os, (grow (redrawn w0 n) os).cell? ⟨wr.heap.size, 1, none⟩ = some (.string vc.attr) := cell_regrown y1
      have f2 : ∀ n os, (grow (redrawn w0 n) os).cell? ⟨wr.heap.size, 2, none⟩ = some (.slice vc.qi vc.ni vc.ci) := cell_regrown y2
      have f3 : ∀ n os, (grow (redrawn w0 n) os).cell? ⟨wr.heap.size, 3, none⟩ = some (.slice vc.qw vc.nw vc.cw) := cell_regrown y3
      have f4 : ∀ n os, (grow (redrawn w0 n) os).cell? ⟨wr.heap.size, 4, none⟩ = some (.int .i64 vc.lo) := cell_regrown y4
      have f5 : ∀ n os, (grow (redrawn w0 n) os).cell? ⟨wr.heap.size, 5, none⟩ = some (.int .i64 vc.hi) := cell_regrown y5
      have f6 : ∀ n os, (grow (redrawn w0 n) os).cell? ⟨wr.heap.size, 6, none⟩ = some (.int .i64 vc.op) := cell_regrown y6
      have f7 : ∀ n os, (grow (redrawn w0 n) os).cell? ⟨wr.heap.size, 7, none⟩ = some (.slice vc.qk vc.nk vc.ck) := cell_regrown y7
      have e0 : ∀ n os, (grow (redrawn w0 n) os).cell? ⟨wr.heap.size + 2, 0, none⟩ = some (.int .i64 3) := cell_regrown x0
      have e1 : ∀ n os, (grow (redrawn w0 n) os).cell? ⟨wr.heap.size + 2, 1, none⟩ = some (.string attr) := cell_regrown x1
      have e2 : ∀ n os, (grow (redrawn w0 n) os).cell? ⟨wr.heap.size + 2, 2, none⟩ = some (.slice none 0 0) := cell_regrown x2
      have e3 : ∀ n os, (grow (redrawn w0 n) os).cell? ⟨wr.heap.size + 2, 3, none⟩ = some (.slice none 0 0) := cell_regrown x3
      have e4 : ∀ n os, (grow (redrawn w0 n) os).cell? ⟨wr.heap.size + 2, 4, none⟩ = some (.int .i64 lo) := cell_regrown x4
      have e5 : ∀ n os, (grow (redrawn w0 n) os).cell? ⟨wr.heap.size + 2, 5, none⟩ = some (.int .i64 hi) := cell_regrown x5
      have bbr := fun (n : Nat) (os : Array Obj) => below_sub (unhide HB) (below_sub bw0 (below_regrown w0 n os))
      have r21 := fun (n : Nat) (os : Array Obj) => (fun (bb : Below w9.heap.size w9 (grow (redrawn w0 n) os)) => sameVV vc ⟨3, attr, none, 0, 0, none, 0, 0, lo, hi, 1, none, 0, 0⟩ (grow (redrawn w0 n) os) ((unhide NC).keep bb) (wantIn (SlOf.none _) (SlOf.none _)) (OkN.mk (by simp) (by simp) (by simp) (fun x hx => by simp at hx))) (bbr n os)
      have r13 := fun (n : Nat) (os : Array Obj) => (fun (bb : Below w9.heap.size w9 (grow (redrawn w0 n) os)) => check_leafV vc (grow (redrawn w0 n) os) ((unhide NC).keep bb) (by first | omega | simp) (by first | omega | simp)) (bbr n os)
      have r31 := fun (n : Nat) (os : Array Obj) => (fun (bb : Below w9.heap.size w9 (grow (redrawn w0 n) os)) => pred_any 3 attr none 0 [] none 0 [] lo hi (grow (redrawn w0 n) os) (SlOf.none _) (SlOf.none _) (by first | omega | simp) (by first | omega | simp)) (bbr n os)
      simp only [Nv.val, List.length_nil] at r21 r13 r31
      generalize code (predB 3 attr [] [] lo hi) = cb at r13 r31
      have hcb : (cb != cb) = false := by simp
      have HBW := hide bw0
      clear m0 m2 bw0 y0 y1 y2 y3 y4 y5 y6 y7 x0 x1 x2 x3 x4 x5 bbr hw0 l0 l1 l2 l3 l4 l5 l6 l7 p0 p1 p2 p3 p4 p5 q0 q1 q2 q3 q4 q5 s0 s1 s2 s3 s4 s5 t0 t1 t2 t3 t4 t5
      refine wp_region_quiet_below (by assumption) (by kernel_rfl) ?_
      repeat (go_big_quiet_step (first
        | (go_at_fn 21; refine Calls.regrown_of (r21 _ _))
        | (go_at_fn 13; refine Calls.regrown_of (r13 _ _))
        | (go_at_fn 31; refine Calls.regrown_of (r31 _ _))))
      refine wpQuiet_nil ?_
      intro _ hw'
      obtain ⟨⟨dq, osq⟩, hw''⟩ := hw'
      subst hw''
      have bE := below_sub (unhide HBW) (below_regrown w0 dq osq)
      have ME := (bE.block _ zM).trans (unhide HM)
      have BE := hide (below_sub (unhide HB) bE)
      go_wp2
      go_roundw
      case rel => exact ⟨3, by omega, by go_num, unhide BE, ME⟩
      case measure => simp [intOf]
    · have l0 : wr.cell? ⟨w9.heap.size, 24, none⟩ = some (.int .i64 vd.kind) := by rw [Lib.cell_of_heap hM]; rfl
      have l1 : wr.cell? ⟨w9.heap.size, 25, none⟩ = some (.string vd.attr) := by rw [Lib.cell_of_heap hM]; rfl
      have l2 : wr.cell? ⟨w9.heap.size, 26, none⟩ = some (.slice vd.qi vd.ni vd.ci) := by rw [Lib.cell_of_heap hM]; rfl
      have l3 : wr.cell? ⟨w9.heap.size, 27, none⟩ = some (.slice vd.qw vd.nw vd.cw) := by rw [Lib.cell_of_heap hM]; rfl
      have l4 : wr.cell? ⟨w9.heap.size, 28, none⟩ = some (.int .i64 vd.lo) := by rw [Lib.cell_of_heap hM]; rfl
      have l5 : wr.cell? ⟨w9.heap.size, 29, none⟩ = some (.int .i64 vd.hi) := by rw [Lib.cell_of_heap hM]; rfl
      have l6 : wr.cell? ⟨w9.heap.size, 30, none⟩ = some (.int .i64 vd.op) := by rw [Lib.cell_of_heap hM]; rfl
      have l7 : wr.cell? ⟨w9.heap.size, 31, none⟩ = some (.slice vd.qk vd.nk vd.ck) := by rw [Lib.cell_of_heap hM]; rfl
      clear hM
      go_wp2
      obtain ⟨w0, hw0⟩ : ∃ w0, ((wr.alloc (.cells #[.int .i64 vd.kind, .string vd.attr, .slice vd.qi vd.ni vd.ci, .slice vd.qw vd.nw vd.cw, .int .i64 vd.lo, .int .i64 vd.hi, .int .i64 vd.op, .slice vd.qk vd.nk vd.ck] 28)).alloc (.cells #[.int .i64 1, .string attr, .slice qi ints.length ci, .slice none 0 0, .int .i64 0, .int .i64 0, .int .i64 2, .string attr, .slice none 0 0, .slice qw words.length cw, .int .i64 0, .int .i64 0, .int .i64 3, .string attr, .slice none 0 0, .slice none 0 0, .int .i64 lo, .int .i64 hi, .int .i64 4, .string attr, .slice none 0 0, .slice (some ⟨w7.heap.size + 7, 0, none⟩) 1 1, .int .i64 0, .int .i64 0] 25)).alloc (.cells #[.int .i64 4, .string attr, .slice none 0 0, .slice (some ⟨w7.heap.size + 7, 0, none⟩) 1 1, .int .i64 0, .int .i64 0] 25) = w0 := ⟨_, rfl⟩
      rw [hw0]
      obtain ⟨m0, _, m2, bw0, sz0⟩ := three hw0
      obtain ⟨y0, y1, y2, y3, y4, y5, y6, y7⟩ := of8' m0
      obtain ⟨x0, x1, x2, x3, x4, x5⟩ := of6' m2
      have f0 : ∀ n os, (grow (redrawn w0 n) os).cell? ⟨wr.heap.size, 0, none⟩ = some (.int .i64 vd.kind) := cell_regrown y0
      have f1 : ∀ n os, (grow (redrawn w0 n) os).cell? ⟨wr.heap.size, 1, none⟩ = some (.string vd.attr) := cell_regrown y1
      have f2 : ∀ n os, (grow (redrawn w0 n) os).cell? ⟨wr.heap.size, 2, none⟩ = some (.slice vd.qi vd.ni vd.ci) := cell_regrown y2
      have f3 : ∀ n os, (grow (redrawn w0 n) os).cell? ⟨wr.heap.size, 3, none⟩ = some (.slice vd.qw vd.nw vd.cw) := cell_regrown y3
      have f4 : ∀ n os, (grow (redrawn w0 n) os).cell? ⟨wr.heap.size, 4, none⟩ = some (.int .i64 vd.lo) := cell_regrown y4
      have f5 : ∀ n os, (grow (redrawn w0 n) os).cell? ⟨wr.heap.size, 5, none⟩ = some (.int .i64 vd.hi) := cell_regrown y5
      have f6 : ∀ n os, (grow (redrawn w0 n) os).cell? ⟨wr.heap.size, 6, none⟩ = some (.int .i64 vd.op) := cell_regrown y6
      have f7 : ∀ n os, (grow (redrawn w0 n) os).cell? ⟨wr.heap.size, 7, none⟩ = some (.slice vd.qk vd.nk vd.ck) := cell_regrown y7
      have e0 : ∀ n os, (grow (redrawn w0 n) os).cell? ⟨wr.heap.size + 2, 0, none⟩ = some (.int .i64 4) := cell_regrown x0
      have e1 : ∀ n os, (grow (redrawn w0 n) os).cell? ⟨wr.heap.size + 2, 1, none⟩ = some (.string attr) := cell_regrown x1
      have e2 : ∀ n os, (grow (redrawn w0 n) os).cell? ⟨wr.heap.size + 2, 2, none⟩ = some (.slice none 0 0) := cell_regrown x2
      have e3 : ∀ n os, (grow (redrawn w0 n) os).cell? ⟨wr.heap.size + 2, 3, none⟩ = some (.slice (some ⟨w7.heap.size + 7, 0, none⟩) 1 1) := cell_regrown x3
      have e4 : ∀ n os, (grow (redrawn w0 n) os).cell? ⟨wr.heap.size + 2, 4, none⟩ = some (.int .i64 0) := cell_regrown x4
      have e5 : ∀ n os, (grow (redrawn w0 n) os).cell? ⟨wr.heap.size + 2, 5, none⟩ = some (.int .i64 0) := cell_regrown x5
      have bbr := fun (n : Nat) (os : Array Obj) => below_sub (unhide HB) (below_sub bw0 (below_regrown w0 n os))
      have r21 := fun (n : Nat) (os : Array Obj) => (fun (bb : Below w9.heap.size w9 (grow (redrawn w0 n) os)) => sameVV vd ⟨4, attr, none, 0, 0, some ⟨w7.heap.size + 7, 0, none⟩, 1, 1, 0, 0, 1, none, 0, 0⟩ (grow (redrawn w0 n) os) ((unhide ND).keep bb) (wantIn (SlOf.none _) ((unhide HL).below bb)) (OkN.mk (by simp) (by simp) (by simp) (fun x hx => by simp at hx))) (bbr n os)
      have r13 := fun (n : Nat) (os : Array Obj) => (fun (bb : Below w9.heap.size w9 (grow (redrawn w0 n) os)) => check_leafV vd (grow (redrawn w0 n) os) ((unhide ND).keep bb) (by first | omega | simp) (by first | omega | simp)) (bbr n os)
      have r31 := fun (n : Nat) (os : Array Obj) => (fun (bb : Below w9.heap.size w9 (grow (redrawn w0 n) os)) => pred_any 4 attr none 0 [] (some ⟨w7.heap.size + 7, 0, none⟩) 1 [⟨#[]⟩] 0 0 (grow (redrawn w0 n) os) (SlOf.none _) ((unhide HL).below bb) (by first | omega | simp) (by first | omega | simp)) (bbr n os)
      simp only [Nv.val, List.length_nil, List.length_cons, Nat.zero_add] at r21 r13 r31
      generalize code (predB 4 attr [] [⟨#[]⟩] 0 0) = cb at r13 r31
      have hcb : (cb != cb) = false := by simp
      have HBW := hide bw0
      clear m0 m2 bw0 y0 y1 y2 y3 y4 y5 y6 y7 x0 x1 x2 x3 x4 x5 bbr hw0 l0 l1 l2 l3 l4 l5 l6 l7 p0 p1 p2 p3 p4 p5 q0 q1 q2 q3 q4 q5 s0 s1 s2 s3 s4 s5 t0 t1 t2 t3 t4 t5
      refine wp_region_quiet_below (by assumption) (by kernel_rfl) ?_
      repeat (go_big_quiet_step (first
        | (go_at_fn 21; refine Calls.regrown_of (r21 _ _))
        | (go_at_fn 13; refine Calls.regrown_of (r13 _ _))
        | (go_at_fn 31; refine Calls.regrown_of (r31 _ _))))
      refine wpQuiet_nil ?_
      intro _ hw'
      obtain ⟨⟨dq, osq⟩, hw''⟩ := hw'
      subst hw''
      have bE := below_sub (unhide HBW) (below_regrown w0 dq osq)
      have ME := (bE.block _ zM).trans (unhide HM)
      have BE := hide (below_sub (unhide HB) bE)
      go_wp2
      go_roundw
      case rel => exact ⟨4, by omega, by go_num, unhide BE, ME⟩
      case measure => simp [intOf]
    · clear hM
      go_wp2
      go_ret
      exact ⟨rfl, below_sub (unhide B19) (unhide HB)⟩
set_option maxRecDepth 100000 in
set_option maxHeartbeats 8000000 in
theorem treeLeaves_some (attr : ByteArray) (qi : Option Addr) (ci : Nat) (ints : List Int) (qw : Option Addr) (cw : Nat) (words : List ByteArray) (lo hi : Int) (w : World) (hG : G w) (h1 : SlOf encI 1 w qi ci ints) (h2 : SlOf encS 1 w qw cw words) (m1 : ints.length * 8 + 64 ≤ 140737488355328) (m2 : words.length * 16 + 64 ≤ 140737488355328) (hw : 0 < words.length) :
    Calls Tryd.prog 5 #[.string attr, .slice qi ints.length ci, .slice qw words.length cw, .int .i64 lo, .int .i64 hi] w fun e w' => e = .returned (.bool true) ∧ Below w.heap.size w w' := by
  have mixed : Tryd.prog.follows .mixedOrders = true := by kernel_rfl
  have hfx := fixed_any w hG
  obtain ⟨x, hx⟩ : ∃ x, words[0]? = some x := ⟨words[0], by simp⟩
  obtain ⟨b, off, rfl, hlt, hc⟩ := wordsAt h2 hx
  rw [Nat.add_zero] at hc
  have hp : (0 : Int) < (words.length : Int) := by omega
  have HC := hide hc
  have HLT := hide hlt
  clear hw hx hc hlt
  have H1 := hide h1
  have H2 := hide h2
  clear h1 h2
  go_enter Tryd.func5, Tryd.ntmps5
  go_wp2_with (first
    | (go_at_call 9; refine hfx.mono ?_; rintro e w1 ⟨rfl, b1⟩; have B1 := hide b1; clear b1)
    | (go_at_call 23; refine (memI qi ci ints _ ((unhide H1).below (unhide B1)) m1).mono ?_; rintro e w2 ⟨⟨g1, k1, rfl, o1, r1⟩, b2⟩; have O1 := hide o1; have R1 := hide r1; have B2 := hide b2; clear o1 r1 b2)
    | (go_at_call 24; refine (memS (some ⟨b, off, none⟩) cw words _ ((unhide H2).below (below_sub (unhide B1) (unhide B2))) m2).mono ?_; rintro e w3 ⟨⟨g2, k2, rfl, o2, r2⟩, b3⟩; have O2 := hide o2; have R2 := hide r2; have B3 := hide b3; clear o2 r2 b3; have e0 := ((below_sub (unhide B1) (below_sub (unhide B2) (unhide B3))).cell (p := ⟨b, off, none⟩) (by exact unhide HLT)).trans (unhide HC))
    | (go_at_call 25; refine (ints_big attr (some ⟨g1, 0, none⟩) k1 ints _ ((slTake (unhide O1) (by have := unhide R1; omega)).below (unhide B3)) m1).mono ?_; rintro e w4 ⟨⟨va, rfl, na⟩, b4⟩; have Na := hide na; have B4 := hide b4; clear na b4)
    | (go_at_call 26; refine (words_big attr (some ⟨g2, 0, none⟩) k2 words _ ((slTake (unhide O2) (by have := unhide R2; omega)).below (unhide B4)) m2).mono ?_; rintro e w5 ⟨⟨vb, rfl, nb⟩, b5⟩; have Nb := hide nb; have B5 := hide b5; clear nb b5)
    | (go_at_call 27; refine (range_any attr lo hi _).mono ?_; rintro e w6 ⟨⟨vc, rfl, nc⟩, b6⟩; have Nc := hide nc; have B6 := hide b6; clear nc b6)
    | (go_at_call 28; refine (prefix_any attr x _).mono ?_; rintro e w7 ⟨⟨vd, rfl, nd⟩, b7⟩; simp only [Nv.val]; have Nd := hide nd; have B7 := hide b7; clear nd b7)
    | (go_at_call 29; refine name_world ?_; intro Y hY; obtain ⟨⟨y1, y2, y3, y4, y5, y6, y7, y8, y9⟩, hbY, hYs⟩ := nine hY; clear hY; have BY := hide hbY; have s2Y := below_sub (unhide B3) (below_sub (unhide B4) (below_sub (unhide B5) (below_sub (unhide B6) (below_sub (unhide B7) hbY)))); have hgb1 := (unhide O1).blk; have hgb2 := (unhide O2).blk; have z1 := (unhide B1).size; have z2 := (unhide B2).size; have z3 := (unhide B3).size; have z4 := (unhide B4).size; have z5 := (unhide B5).size; have z6 := (unhide B6).size; have z7 := (unhide B7).size; have S2Y := hide s2Y; have Y1 := hide y1; have Y2 := hide y2; have Y3 := hide y3; have Y4 := hide y4; have Y5 := hide y5; have Y6 := hide y6; have Y7 := hide y7; have Y8 := hide y8; have Y9 := hide y9; clear y1 y2 y3 y4 y5 y6 y7 y8 y9 hbY s2Y; refine (overI w1.heap.size g1 ints.length k1 Y m1 (by omega) ((unhide O1).below (unhide S2Y)).rawTake).mono ?_; rintro e w8 ⟨rfl, gr8⟩; have GR8 := hide gr8; have z8 := gr8.size; clear gr8)
    | (go_at_call 30; refine (overS w2.heap.size g2 words.length k2 w8 m2 (by omega) (((unhide O2).below (below_sub (unhide B4) (below_sub (unhide B5) (below_sub (unhide B6) (below_sub (unhide B7) (unhide BY)))))).kept (unhide GR8) (by omega)).rawTake).mono ?_; rintro e w9 ⟨rfl, gr9⟩; have GR9 := hide gr9; have z9 := gr9.size; have K9 : ∀ b, w3.heap.size ≤ b → b < Y.heap.size → w9.heap[b]? = Y.heap[b]? := (fun b hb hb' => (gr9.block b (by omega) (fun e => by cases e; omega)).trans ((unhide GR8).block b hb' (fun e => by cases e; omega))); have u1 := (K9 w7.heap.size (by omega) (by omega)).trans (unhide Y1); have u2 := (K9 (w7.heap.size + 1) (by omega) (by omega)).trans (unhide Y2); have u3 := (K9 (w7.heap.size + 2) (by omega) (by omega)).trans (unhide Y3); have u4 := (K9 (w7.heap.size + 3) (by omega) (by omega)).trans (unhide Y4); obtain ⟨a0, a1, a2, a3, a4, a5, a6, a7⟩ := of8' u1; obtain ⟨b0, b1, b2, b3, b4, b5, b6, b7⟩ := of8' u2; obtain ⟨c0, c1, c2, c3, c4, c5, c6, c7⟩ := of8' u3; obtain ⟨d0, d1, d2, d3, d4, d5, d6, d7⟩ := of8' u4; clear gr9 u1 u2 u3 u4))
  have HK9 := hide K9
  clear K9
  have P9 : Hid (w9.heap[w7.heap.size + 4]? = some (.cells #[.int .i64 1, .string attr, .slice qi ints.length ci, .slice none 0 0, .int .i64 0, .int .i64 0] 25 (0, 0))) := hide ((unhide HK9 (w7.heap.size + 4) (by omega) (by omega)).trans (unhide Y5))
  have Q9 : Hid (w9.heap[w7.heap.size + 5]? = some (.cells #[.int .i64 2, .string attr, .slice none 0 0, .slice (some ⟨b, off, none⟩) words.length cw, .int .i64 0, .int .i64 0] 25 (0, 0))) := hide ((unhide HK9 (w7.heap.size + 5) (by omega) (by omega)).trans (unhide Y6))
  have S9 : Hid (w9.heap[w7.heap.size + 6]? = some (.cells #[.int .i64 3, .string attr, .slice none 0 0, .slice none 0 0, .int .i64 lo, .int .i64 hi] 25 (0, 0))) := hide ((unhide HK9 (w7.heap.size + 6) (by omega) (by omega)).trans (unhide Y7))
  have L9 : Hid (w9.heap[w7.heap.size + 7]? = some (.cells #[.string x] 9 (0, 0))) := hide ((unhide HK9 (w7.heap.size + 7) (by omega) (by omega)).trans (unhide Y8))
  have T9 : Hid (w9.heap[w7.heap.size + 8]? = some (.cells #[.int .i64 4, .string attr, .slice none 0 0, .slice (some ⟨w7.heap.size + 7, 0, none⟩) 1 1, .int .i64 0, .int .i64 0] 25 (0, 0))) := hide ((unhide HK9 (w7.heap.size + 8) (by omega) (by omega)).trans (unhide Y9))
  have up : SameUp w3.heap.size Y w9 := (SameUp.grown (unhide GR8) (by omega)).trans (SameUp.grown (unhide GR9) (by omega))
  have NA := hide ((((unhide Na).keep (below_sub (unhide B5) (below_sub (unhide B6) (below_sub (unhide B7) (unhide BY))))).mono (Nat.le_refl _)).up up).toIn
  have NB := hide ((((unhide Nb).keep (below_sub (unhide B6) (below_sub (unhide B7) (unhide BY)))).mono (by omega)).up up).toIn
  have NC := hide ((((unhide Nc).keep (below_sub (unhide B7) (unhide BY))).mono (by omega)).up up).toIn
  have ND := hide ((((unhide Nd).keep (unhide BY)).mono (by omega)).up up).toIn
  have b17 := below_sub (unhide B1) (below_sub (unhide B2) (unhide S2Y))
  have b19 : Below w.heap.size w w9 := (b17.grown (unhide GR8) (by omega) (fun k hk => by cases hk; omega)).grown (unhide GR9) (by omega) (fun k hk => by cases hk; omega)
  have HI := hide ((unhide H1).below b19)
  have HW := hide ((unhide H2).below b19)
  have HL := hide (one_word (unhide L9))
  have B19 := hide b19
  have z29 : w7.heap.size + 9 ≤ w9.heap.size := by omega
  have en21 : ∀ args w, (callFunc 21 args).run Tryd.prog w = .ok (.enter 21 args) w := enters_of Tryd.func21 (by kernel_rfl) rfl
  have en13 : ∀ args w, (callFunc 13 args).run Tryd.prog w = .ok (.enter 13 args) w := enters_of Tryd.func13 (by kernel_rfl) rfl
  have en31 : ∀ args w, (callFunc 31 args).run Tryd.prog w = .ok (.enter 31 args) w := enters_of Tryd.func31 (by kernel_rfl) rfl
  clear hfx e0 HC HLT b17 b19 up hG H1 H2 B1 B2 B3 B4 B5 B6 B7 BY S2Y O1 O2 R1 R2 GR8 GR9 HK9 Y1 Y2 Y3 Y4 Y5 Y6 Y7 Y8 Y9 Na Nb Nc Nd hgb1 hgb2 z1 z2 z3 z4 z5 z6 z7 z8 z9 hYs a0 a1 a2 a3 a4 a5 a6 a7 b0 b1 b2 b3 b4 b5 b6 b7 c0 c1 c2 c3 c4 c5 c6 c7 d0 d1 d2 d3 d4 d5 d6 d7
  go_loopw [74] (fun i wr => ∃ k : Nat, k ≤ 4 ∧ i = .int .i64 k ∧ Below w9.heap.size w9 wr ∧ wr.heap[w9.heap.size]? = some (.cells #[.int .i64 va.kind, .string va.attr, .slice va.qi va.ni va.ci, .slice va.qw va.nw va.cw, .int .i64 va.lo, .int .i64 va.hi, .int .i64 va.op, .slice va.qk va.nk va.ck, .int .i64 vb.kind, .string vb.attr, .slice vb.qi vb.ni vb.ci, .slice vb.qw vb.nw vb.cw, .int .i64 vb.lo, .int .i64 vb.hi, .int .i64 vb.op, .slice vb.qk vb.nk vb.ck, .int .i64 vc.kind, .string vc.attr, .slice vc.qi vc.ni vc.ci, .slice vc.qw vc.nw vc.cw, .int .i64 vc.lo, .int .i64 vc.hi, .int .i64 vc.op, .slice vc.qk vc.nk vc.ck, .int .i64 vd.kind, .string vd.attr, .slice vd.qi vd.ni vd.ci, .slice vd.qw vd.nw vd.cw, .int .i64 vd.lo, .int .i64 vd.hi, .int .i64 vd.op, .slice vd.qk vd.nk vd.ck] 28 (0, 0))) (fun i _ => 4 - (intOf i).toNat)
  case atStart => exact ⟨0, by omega, rfl, (Below.refl _ _).alloc (Nat.le_refl _) _, box_nw _ _⟩
  case round =>
    obtain ⟨k, hkk, rfl, hbel, hM⟩ := hrel
    have hk5 : k = 0 ∨ k = 1 ∨ k = 2 ∨ k = 3 ∨ k = 4 := by omega
    have HM := hide hM
    have HB := hide hbel
    have zr := hbel.size
    have zM := heap_lt hM
    obtain ⟨p0, p1, p2, p3, p4, p5⟩ := of6' ((hbel.block _ (by omega)).trans (unhide P9))
    obtain ⟨q0, q1, q2, q3, q4, q5⟩ := of6' ((hbel.block _ (by omega)).trans (unhide Q9))
    obtain ⟨s0, s1, s2, s3, s4, s5⟩ := of6' ((hbel.block _ (by omega)).trans (unhide S9))
    obtain ⟨t0, t1, t2, t3, t4, t5⟩ := of6' ((hbel.block _ (by omega)).trans (unhide T9))
    clear hbel P9 Q9 S9 T9
    have ne4 : ¬ w7.heap.size + 4 = wr.heap.size := by omega
    have nf4 : ¬ wr.heap.size = w7.heap.size + 4 := by omega
    have lt4 : w7.heap.size + 4 < wr.heap.size := by omega
    have ne5 : ¬ w7.heap.size + 5 = wr.heap.size := by omega
    have nf5 : ¬ wr.heap.size = w7.heap.size + 5 := by omega
    have lt5 : w7.heap.size + 5 < wr.heap.size := by omega
    have ne6 : ¬ w7.heap.size + 6 = wr.heap.size := by omega
    have nf6 : ¬ wr.heap.size = w7.heap.size + 6 := by omega
    have lt6 : w7.heap.size + 6 < wr.heap.size := by omega
    have ne8 : ¬ w7.heap.size + 8 = wr.heap.size := by omega
    have nf8 : ¬ wr.heap.size = w7.heap.size + 8 := by omega
    have lt8 : w7.heap.size + 8 < wr.heap.size := by omega
    rcases hk5 with rfl | rfl | rfl | rfl | rfl
    · have l0 : wr.cell? ⟨w9.heap.size, 0, none⟩ = some (.int .i64 va.kind) := by rw [Lib.cell_of_heap hM]; rfl
      have l1 : wr.cell? ⟨w9.heap.size, 1, none⟩ = some (.string va.attr) := by rw [Lib.cell_of_heap hM]; rfl
      have l2 : wr.cell? ⟨w9.heap.size, 2, none⟩ = some (.slice va.qi va.ni va.ci) := by rw [Lib.cell_of_heap hM]; rfl
      have l3 : wr.cell? ⟨w9.heap.size, 3, none⟩ = some (.slice va.qw va.nw va.cw) := by rw [Lib.cell_of_heap hM]; rfl
      have l4 : wr.cell? ⟨w9.heap.size, 4, none⟩ = some (.int .i64 va.lo) := by rw [Lib.cell_of_heap hM]; rfl
      have l5 : wr.cell? ⟨w9.heap.size, 5, none⟩ = some (.int .i64 va.hi) := by rw [Lib.cell_of_heap hM]; rfl
      have l6 : wr.cell? ⟨w9.heap.size, 6, none⟩ = some (.int .i64 va.op) := by rw [Lib.cell_of_heap hM]; rfl
      have l7 : wr.cell? ⟨w9.heap.size, 7, none⟩ = some (.slice va.qk va.nk va.ck) := by rw [Lib.cell_of_heap hM]; rfl
      clear hM
      go_wp2
      obtain ⟨w0, hw0⟩ : ∃ w0, ((wr.alloc (.cells #[.int .i64 va.kind, .string va.attr, .slice va.qi va.ni va.ci, .slice va.qw va.nw va.cw, .int .i64 va.lo, .int .i64 va.hi, .int .i64 va.op, .slice va.qk va.nk va.ck] 28)).alloc (.cells #[.int .i64 1, .string attr, .slice qi ints.length ci, .slice none 0 0, .int .i64 0, .int .i64 0, .int .i64 2, .string attr, .slice none 0 0, .slice (some ⟨b, off, none⟩) words.length cw, .int .i64 0, .int .i64 0, .int .i64 3, .string attr, .slice none 0 0, .slice none 0 0, .int .i64 lo, .int .i64 hi, .int .i64 4, .string attr, .slice none 0 0, .slice (some ⟨w7.heap.size + 7, 0, none⟩) 1 1, .int .i64 0, .int .i64 0] 25)).alloc (.cells #[.int .i64 1, .string attr, .slice qi ints.length ci, .slice none 0 0, .int .i64 0, .int .i64 0] 25) = w0 := ⟨_, rfl⟩
      rw [hw0]
      obtain ⟨m0, _, m2, bw0, sz0⟩ := three hw0
      obtain ⟨y0, y1, y2, y3, y4, y5, y6, y7⟩ := of8' m0
      obtain ⟨x0, x1, x2, x3, x4, x5⟩ := of6' m2
      have f0 : ∀ n os, (grow (redrawn w0 n) os).cell? ⟨wr.heap.size, 0, none⟩ = some (.int .i64 va.kind) := cell_regrown y0
      have f1 : ∀ n os, (grow (redrawn w0 n) os).cell? ⟨wr.heap.size, 1, none⟩ = some (.string va.attr) := cell_regrown y1
      have f2 : ∀ n os, (grow (redrawn w0 n) os).cell? ⟨wr.heap.size, 2, none⟩ = some (.slice va.qi va.ni va.ci) := cell_regrown y2
      have f3 : ∀ n os, (grow (redrawn w0 n) os).cell? ⟨wr.heap.size, 3, none⟩ = some (.slice va.qw va.nw va.cw) := cell_regrown y3
      have f4 : ∀ n os, (grow (redrawn w0 n) os).cell? ⟨wr.heap.size, 4, none⟩ = some (.int .i64 va.lo) := cell_regrown y4
      have f5 : ∀ n os, (grow (redrawn w0 n) os).cell? ⟨wr.heap.size, 5, none⟩ = some (.int .i64 va.hi) := cell_regrown y5
      have f6 : ∀ n os, (grow (redrawn w0 n) os).cell? ⟨wr.heap.size, 6, none⟩ = some (.int .i64 va.op) := cell_regrown y6
      have f7 : ∀ n os, (grow (redrawn w0 n) os).cell? ⟨wr.heap.size, 7, none⟩ = some (.slice va.qk va.nk va.ck) := cell_regrown y7
      have e0 : ∀ n os, (grow (redrawn w0 n) os).cell? ⟨wr.heap.size + 2, 0, none⟩ = some (.int .i64 1) := cell_regrown x0
      have e1 : ∀ n os, (grow (redrawn w0 n) os).cell? ⟨wr.heap.size + 2, 1, none⟩ = some (.string attr) := cell_regrown x1
      have e2 : ∀ n os, (grow (redrawn w0 n) os).cell? ⟨wr.heap.size + 2, 2, none⟩ = some (.slice qi ints.length ci) := cell_regrown x2
      have e3 : ∀ n os, (grow (redrawn w0 n) os).cell? ⟨wr.heap.size + 2, 3, none⟩ = some (.slice none 0 0) := cell_regrown x3
      have e4 : ∀ n os, (grow (redrawn w0 n) os).cell? ⟨wr.heap.size + 2, 4, none⟩ = some (.int .i64 0) := cell_regrown x4
      have e5 : ∀ n os, (grow (redrawn w0 n) os).cell? ⟨wr.heap.size + 2, 5, none⟩ = some (.int .i64 0) := cell_regrown x5
      have bbr := fun (n : Nat) (os : Array Obj) => below_sub (unhide HB) (below_sub bw0 (below_regrown w0 n os))
      have r21 := fun (n : Nat) (os : Array Obj) => (fun (bb : Below w9.heap.size w9 (grow (redrawn w0 n) os)) => sameVV va ⟨1, attr, qi, ints.length, ci, none, 0, 0, 0, 0, 1, none, 0, 0⟩ (grow (redrawn w0 n) os) ((unhide NA).keep bb) (wantIn ((unhide HI).below bb) (SlOf.none _)) (OkN.mk (by omega) (by simp) (by simp) (fun x hx => by simp at hx))) (bbr n os)
      have r13 := fun (n : Nat) (os : Array Obj) => (fun (bb : Below w9.heap.size w9 (grow (redrawn w0 n) os)) => check_leafV va (grow (redrawn w0 n) os) ((unhide NA).keep bb) (by first | omega | simp) (by first | omega | simp)) (bbr n os)
      have r31 := fun (n : Nat) (os : Array Obj) => (fun (bb : Below w9.heap.size w9 (grow (redrawn w0 n) os)) => pred_any 1 attr qi ci ints none 0 [] 0 0 (grow (redrawn w0 n) os) ((unhide HI).below bb) (SlOf.none _) (by first | omega | simp) (by first | omega | simp)) (bbr n os)
      simp only [Nv.val, List.length_nil] at r21 r13 r31
      generalize code (predB 1 attr ints [] 0 0) = cb at r13 r31
      have hcb : (cb != cb) = false := by simp
      have HBW := hide bw0
      clear m0 m2 bw0 y0 y1 y2 y3 y4 y5 y6 y7 x0 x1 x2 x3 x4 x5 bbr hw0 l0 l1 l2 l3 l4 l5 l6 l7 p0 p1 p2 p3 p4 p5 q0 q1 q2 q3 q4 q5 s0 s1 s2 s3 s4 s5 t0 t1 t2 t3 t4 t5
      refine wp_region_quiet_below (by assumption) (by kernel_rfl) ?_
      repeat (go_big_quiet_step (first
        | (go_at_fn 21; refine Calls.regrown_of (r21 _ _))
        | (go_at_fn 13; refine Calls.regrown_of (r13 _ _))
        | (go_at_fn 31; refine Calls.regrown_of (r31 _ _))))
      refine wpQuiet_nil ?_
      intro _ hw'
      obtain ⟨⟨dq, osq⟩, hw''⟩ := hw'
      subst hw''
      have bE := below_sub (unhide HBW) (below_regrown w0 dq osq)
      have ME := (bE.block _ zM).trans (unhide HM)
      have BE := hide (below_sub (unhide HB) bE)
      go_wp2
      go_roundw
      case rel => exact ⟨1, by omega, by go_num, unhide BE, ME⟩
      case measure => simp [intOf]
    · have l0 : wr.cell? ⟨w9.heap.size, 8, none⟩ = some (.int .i64 vb.kind) := by rw [Lib.cell_of_heap hM]; rfl
      have l1 : wr.cell? ⟨w9.heap.size, 9, none⟩ = some (.string vb.attr) := by rw [Lib.cell_of_heap hM]; rfl
      have l2 : wr.cell? ⟨w9.heap.size, 10, none⟩ = some (.slice vb.qi vb.ni vb.ci) := by rw [Lib.cell_of_heap hM]; rfl
      have l3 : wr.cell? ⟨w9.heap.size, 11, none⟩ = some (.slice vb.qw vb.nw vb.cw) := by rw [Lib.cell_of_heap hM]; rfl
      have l4 : wr.cell? ⟨w9.heap.size, 12, none⟩ = some (.int .i64 vb.lo) := by rw [Lib.cell_of_heap hM]; rfl
      have l5 : wr.cell? ⟨w9.heap.size, 13, none⟩ = some (.int .i64 vb.hi) := by rw [Lib.cell_of_heap hM]; rfl
      have l6 : wr.cell? ⟨w9.heap.size, 14, none⟩ = some (.int .i64 vb.op) := by rw [Lib.cell_of_heap hM]; rfl
      have l7 : wr.cell? ⟨w9.heap.size, 15, none⟩ = some (.slice vb.qk vb.nk vb.ck) := by rw [Lib.cell_of_heap hM]; rfl
      clear hM
      go_wp2
      obtain ⟨w0, hw0⟩ : ∃ w0, ((wr.alloc (.cells #[.int .i64 vb.kind, .string vb.attr, .slice vb.qi vb.ni vb.ci, .slice vb.qw vb.nw vb.cw, .int .i64 vb.lo, .int .i64 vb.hi, .int .i64 vb.op, .slice vb.qk vb.nk vb.ck] 28)).alloc (.cells #[.int .i64 1, .string attr, .slice qi ints.length ci, .slice none 0 0, .int .i64 0, .int .i64 0, .int .i64 2, .string attr, .slice none 0 0, .slice (some ⟨b, off, none⟩) words.length cw, .int .i64 0, .int .i64 0, .int .i64 3, .string attr, .slice none 0 0, .slice none 0 0, .int .i64 lo, .int .i64 hi, .int .i64 4, .string attr, .slice none 0 0, .slice (some ⟨w7.heap.size + 7, 0, none⟩) 1 1, .int .i64 0, .int .i64 0] 25)).alloc (.cells #[.int .i64 2, .string attr, .slice none 0 0, .slice (some ⟨b, off, none⟩) words.length cw, .int .i64 0, .int .i64 0] 25) = w0 := ⟨_, rfl⟩
      rw [hw0]
      obtain ⟨m0, _, m2, bw0, sz0⟩ := three hw0
      obtain ⟨y0, y1, y2, y3, y4, y5, y6, y7⟩ := of8' m0
      obtain ⟨x0, x1, x2, x3, x4, x5⟩ := of6' m2
      have f0 : ∀ n os, (grow (redrawn w0 n) os).cell? ⟨wr.heap.size, 0, none⟩ = some (.int .i64 vb.kind) := cell_regrown y0
      have f1 : ∀ n os, (grow (redrawn w0 n) os).cell? ⟨wr.heap.size, 1, none⟩ = some (.string vb.attr) := cell_regrown y1
      have f2 : ∀ n os, (grow (redrawn w0 n) os).cell? ⟨wr.heap.size, 2, none⟩ = some (.slice vb.qi vb.ni vb.ci) := cell_regrown y2
      have f3 : ∀ n os, (grow (redrawn w0 n) os).cell? ⟨wr.heap.size, 3, none⟩ = some (.slice vb.qw vb.nw vb.cw) := cell_regrown y3
      have f4 : ∀ n os, (grow (redrawn w0 n) os).cell? ⟨wr.heap.size, 4, none⟩ = some (.int .i64 vb.lo) := cell_regrown y4
      have f5 : ∀ n os, (grow (redrawn w0 n) os).cell? ⟨wr.heap.size, 5, none⟩ = some (.int .i64 vb.hi) := cell_regrown y5
      have f6 : ∀ n os, (grow (redrawn w0 n) os).cell? ⟨wr.heap.size, 6, none⟩ = some (.int .i64 vb.op) := cell_regrown y6
      have f7 : ∀ n os, (grow (redrawn w0 n) os).cell? ⟨wr.heap.size, 7, none⟩ = some (.slice vb.qk vb.nk vb.ck) := cell_regrown y7
      have e0 : ∀ n os, (grow (redrawn w0 n) os).cell? ⟨wr.heap.size + 2, 0, none⟩ = some (.int .i64 2) := cell_regrown x0
      have e1 : ∀ n os, (grow (redrawn w0 n) os).cell? ⟨wr.heap.size + 2, 1, none⟩ = some (.string attr) := cell_regrown x1
      have e2 : ∀ n os, (grow (redrawn w0 n) os).cell? ⟨wr.heap.size + 2, 2, none⟩ = some (.slice none 0 0) := cell_regrown x2
      have e3 : ∀ n os, (grow (redrawn w0 n) os).cell? ⟨wr.heap.size + 2, 3, none⟩ = some (.slice (some ⟨b, off, none⟩) words.length cw) := cell_regrown x3
      have e4 : ∀ n os, (grow (redrawn w0 n) os).cell? ⟨wr.heap.size + 2, 4, none⟩ = some (.int .i64 0) := cell_regrown x4
      have e5 : ∀ n os, (grow (redrawn w0 n) os).cell? ⟨wr.heap.size + 2, 5, none⟩ = some (.int .i64 0) := cell_regrown x5
      have bbr := fun (n : Nat) (os : Array Obj) => below_sub (unhide HB) (below_sub bw0 (below_regrown w0 n os))
      have r21 := fun (n : Nat) (os : Array Obj) => (fun (bb : Below w9.heap.size w9 (grow (redrawn w0 n) os)) => sameVV vb ⟨2, attr, none, 0, 0, (some ⟨b, off, none⟩), words.length, cw, 0, 0, 1, none, 0, 0⟩ (grow (redrawn w0 n) os) ((unhide NB).keep bb) (wantIn (SlOf.none _) ((unhide HW).below bb)) (OkN.mk (by simp) (by omega) (by simp) (fun x hx => by simp at hx))) (bbr n os)
      have r13 := fun (n : Nat) (os : Array Obj) => (fun (bb : Below w9.heap.size w9 (grow (redrawn w0 n) os)) => check_leafV vb (grow (redrawn w0 n) os) ((unhide NB).keep bb) (by first | omega | simp) (by first | omega | simp)) (bbr n os)
      have r31 := fun (n : Nat) (os : Array Obj) => (fun (bb : Below w9.heap.size w9 (grow (redrawn w0 n) os)) => pred_any 2 attr none 0 [] (some ⟨b, off, none⟩) cw words 0 0 (grow (redrawn w0 n) os) (SlOf.none _) ((unhide HW).below bb) (by first | omega | simp) (by first | omega | simp)) (bbr n os)
      simp only [Nv.val, List.length_nil] at r21 r13 r31
      generalize code (predB 2 attr [] words 0 0) = cb at r13 r31
      have hcb : (cb != cb) = false := by simp
      have HBW := hide bw0
      clear m0 m2 bw0 y0 y1 y2 y3 y4 y5 y6 y7 x0 x1 x2 x3 x4 x5 bbr hw0 l0 l1 l2 l3 l4 l5 l6 l7 p0 p1 p2 p3 p4 p5 q0 q1 q2 q3 q4 q5 s0 s1 s2 s3 s4 s5 t0 t1 t2 t3 t4 t5
      refine wp_region_quiet_below (by assumption) (by kernel_rfl) ?_
      repeat (go_big_quiet_step (first
        | (go_at_fn 21; refine Calls.regrown_of (r21 _ _))
        | (go_at_fn 13; refine Calls.regrown_of (r13 _ _))
        | (go_at_fn 31; refine Calls.regrown_of (r31 _ _))))
      refine wpQuiet_nil ?_
      intro _ hw'
      obtain ⟨⟨dq, osq⟩, hw''⟩ := hw'
      subst hw''
      have bE := below_sub (unhide HBW) (below_regrown w0 dq osq)
      have ME := (bE.block _ zM).trans (unhide HM)
      have BE := hide (below_sub (unhide HB) bE)
      go_wp2
      go_roundw
      case rel => exact ⟨2, by omega, by go_num, unhide BE, ME⟩
      case measure => simp [intOf]
    · have l0 : wr.cell? ⟨w9.heap.size, 16, none⟩ = some (.int .i64 vc.kind) := by rw [Lib.cell_of_heap hM]; rfl
      have l1 : wr.cell? ⟨w9.heap.size, 17, none⟩ = some (.string vc.attr) := by rw [Lib.cell_of_heap hM]; rfl
      have l2 : wr.cell? ⟨w9.heap.size, 18, none⟩ = some (.slice vc.qi vc.ni vc.ci) := by rw [Lib.cell_of_heap hM]; rfl
      have l3 : wr.cell? ⟨w9.heap.size, 19, none⟩ = some (.slice vc.qw vc.nw vc.cw) := by rw [Lib.cell_of_heap hM]; rfl
      have l4 : wr.cell? ⟨w9.heap.size, 20, none⟩ = some (.int .i64 vc.lo) := by rw [Lib.cell_of_heap hM]; rfl
      have l5 : wr.cell? ⟨w9.heap.size, 21, none⟩ = some (.int .i64 vc.hi) := by rw [Lib.cell_of_heap hM]; rfl
      have l6 : wr.cell? ⟨w9.heap.size, 22, none⟩ = some (.int .i64 vc.op) := by rw [Lib.cell_of_heap hM]; rfl
      have l7 : wr.cell? ⟨w9.heap.size, 23, none⟩ = some (.slice vc.qk vc.nk vc.ck) := by rw [Lib.cell_of_heap hM]; rfl
      clear hM
      go_wp2
      obtain ⟨w0, hw0⟩ : ∃ w0, ((wr.alloc (.cells #[.int .i64 vc.kind, .string vc.attr, .slice vc.qi vc.ni vc.ci, .slice vc.qw vc.nw vc.cw, .int .i64 vc.lo, .int .i64 vc.hi, .int .i64 vc.op, .slice vc.qk vc.nk vc.ck] 28)).alloc (.cells #[.int .i64 1, .string attr, .slice qi ints.length ci, .slice none 0 0, .int .i64 0, .int .i64 0, .int .i64 2, .string attr, .slice none 0 0, .slice (some ⟨b, off, none⟩) words.length cw, .int .i64 0, .int .i64 0, .int .i64 3, .string attr, .slice none 0 0, .slice none 0 0, .int .i64 lo, .int .i64 hi, .int .i64 4, .string attr, .slice none 0 0, .slice (some ⟨w7.heap.size + 7, 0, none⟩) 1 1, .int .i64 0, .int .i64 0] 25)).alloc (.cells #[.int .i64 3, .string attr, .slice none 0 0, .slice none 0 0, .int .i64 lo, .int .i64 hi] 25) = w0 := ⟨_, rfl⟩
      rw [hw0]
      obtain ⟨m0, _, m2, bw0, sz0⟩ := three hw0
      obtain ⟨y0, y1, y2, y3, y4, y5, y6, y7⟩ := of8' m0
      obtain ⟨x0, x1, x2, x3, x4, x5⟩ := of6' m2
      have f0 : ∀ n os, (grow (redrawn w0 n) os).cell? ⟨wr.heap.size, 0, none⟩ = some (.int .i64 vc.kind) := cell_regrown y0
      have f1 : ∀ n os, (grow (redrawn w0 n) os).cell? ⟨wr.heap.size, 1, none⟩ = some (.string vc.attr) := cell_regrown y1
      have f2 : ∀ n os, (grow (redrawn w0 n) os).cell? ⟨wr.heap.size, 2, none⟩ = some (.slice vc.qi vc.ni vc.ci) := cell_regrown y2
      have f3 : ∀ n os, (grow (redrawn w0 n) os).cell? ⟨wr.heap.size, 3, none⟩ = some (.slice vc.qw vc.nw vc.cw) := cell_regrown y3
      have f4 : ∀ n os, (grow (redrawn w0 n) os).cell? ⟨wr.heap.size, 4, none⟩ = some (.int .i64 vc.lo) := cell_regrown y4
      have f5 : ∀ n os, (grow (redrawn w0 n) os).cell? ⟨wr.heap.size, 5, none⟩ = some (.int .i64 vc.hi) := cell_regrown y5
      have f6 : ∀ n os, (grow (redrawn w0 n) os).cell? ⟨wr.heap.size, 6, none⟩ = some (.int .i64 vc.op) := cell_regrown y6
      have f7 : ∀ n os, (grow (redrawn w0 n) os).cell? ⟨wr.heap.size, 7, none⟩ = some (.slice vc.qk vc.nk vc.ck) := cell_regrown y7
      have e0 : ∀ n os, (grow (redrawn w0 n) os).cell? ⟨wr.heap.size + 2, 0, none⟩ = some (.int .i64 3) := cell_regrown x0
      have e1 : ∀ n os, (grow (redrawn w0 n) os).cell? ⟨wr.heap.size + 2, 1, none⟩ = some (.string attr) := cell_regrown x1
      have e2 : ∀ n os, (grow (redrawn w0 n) os).cell? ⟨wr.heap.size + 2, 2, none⟩ = some (.slice none 0 0) := cell_regrown x2
      have e3 : ∀ n os, (grow (redrawn w0 n) os).cell? ⟨wr.heap.size + 2, 3, none⟩ = some (.slice none 0 0) := cell_regrown x3
      have e4 : ∀ n os, (grow (redrawn w0 n) os).cell? ⟨wr.heap.size + 2, 4, none⟩ = some (.int .i64 lo) := cell_regrown x4
      have e5 : ∀ n os, (grow (redrawn w0 n) os).cell? ⟨wr.heap.size + 2, 5, none⟩ = some (.int .i64 hi) := cell_regrown x5
      have bbr := fun (n : Nat) (os : Array Obj) => below_sub (unhide HB) (below_sub bw0 (below_regrown w0 n os))
      have r21 := fun (n : Nat) (os : Array Obj) => (fun (bb : Below w9.heap.size w9 (grow (redrawn w0 n) os)) => sameVV vc ⟨3, attr, none, 0, 0, none, 0, 0, lo, hi, 1, none, 0, 0⟩ (grow (redrawn w0 n) os) ((unhide NC).keep bb) (wantIn (SlOf.none _) (SlOf.none _)) (OkN.mk (by simp) (by simp) (by simp) (fun x hx => by simp at hx))) (bbr n os)
      have r13 := fun (n : Nat) (os : Array Obj) => (fun (bb : Below w9.heap.size w9 (grow (redrawn w0 n) os)) => check_leafV vc (grow (redrawn w0 n) os) ((unhide NC).keep bb) (by first | omega | simp) (by first | omega | simp)) (bbr n os)
      have r31 := fun (n : Nat) (os : Array Obj) => (fun (bb : Below w9.heap.size w9 (grow (redrawn w0 n) os)) => pred_any 3 attr none 0 [] none 0 [] lo hi (grow (redrawn w0 n) os) (SlOf.none _) (SlOf.none _) (by first | omega | simp) (by first | omega | simp)) (bbr n os)
      simp only [Nv.val, List.length_nil] at r21 r13 r31
      generalize code (predB 3 attr [] [] lo hi) = cb at r13 r31
      have hcb : (cb != cb) = false := by simp
      have HBW := hide bw0
      clear m0 m2 bw0 y0 y1 y2 y3 y4 y5 y6 y7 x0 x1 x2 x3 x4 x5 bbr hw0 l0 l1 l2 l3 l4 l5 l6 l7 p0 p1 p2 p3 p4 p5 q0 q1 q2 q3 q4 q5 s0 s1 s2 s3 s4 s5 t0 t1 t2 t3 t4 t5
      refine wp_region_quiet_below (by assumption) (by kernel_rfl) ?_
      repeat (go_big_quiet_step (first
        | (go_at_fn 21; refine Calls.regrown_of (r21 _ _))
        | (go_at_fn 13; refine Calls.regrown_of (r13 _ _))
        | (go_at_fn 31; refine Calls.regrown_of (r31 _ _))))
      refine wpQuiet_nil ?_
      intro _ hw'
      obtain ⟨⟨dq, osq⟩, hw''⟩ := hw'
      subst hw''
      have bE := below_sub (unhide HBW) (below_regrown w0 dq osq)
      have ME := (bE.block _ zM).trans (unhide HM)
      have BE := hide (below_sub (unhide HB) bE)
      go_wp2
      go_roundw
      case rel => exact ⟨3, by omega, by go_num, unhide BE, ME⟩
      case measure => simp [intOf]
    · have l0 : wr.cell? ⟨w9.heap.size, 24, none⟩ = some (.int .i64 vd.kind) := by rw [Lib.cell_of_heap hM]; rfl
      have l1 : wr.cell? ⟨w9.heap.size, 25, none⟩ = some (.string vd.attr) := by rw [Lib.cell_of_heap hM]; rfl
      have l2 : wr.cell? ⟨w9.heap.size, 26, none⟩ = some (.slice vd.qi vd.ni vd.ci) := by rw [Lib.cell_of_heap hM]; rfl
      have l3 : wr.cell? ⟨w9.heap.size, 27, none⟩ = some (.slice vd.qw vd.nw vd.cw) := by rw [Lib.cell_of_heap hM]; rfl
      have l4 : wr.cell? ⟨w9.heap.size, 28, none⟩ = some (.int .i64 vd.lo) := by rw [Lib.cell_of_heap hM]; rfl
      have l5 : wr.cell? ⟨w9.heap.size, 29, none⟩ = some (.int .i64 vd.hi) := by rw [Lib.cell_of_heap hM]; rfl
      have l6 : wr.cell? ⟨w9.heap.size, 30, none⟩ = some (.int .i64 vd.op) := by rw [Lib.cell_of_heap hM]; rfl
      have l7 : wr.cell? ⟨w9.heap.size, 31, none⟩ = some (.slice vd.qk vd.nk vd.ck) := by rw [Lib.cell_of_heap hM]; rfl
      clear hM
      go_wp2
      obtain ⟨w0, hw0⟩ : ∃ w0, ((wr.alloc (.cells #[.int .i64 vd.kind, .string vd.attr, .slice vd.qi vd.ni vd.ci, .slice vd.qw vd.nw vd.cw, .int .i64 vd.lo, .int .i64 vd.hi, .int .i64 vd.op, .slice vd.qk vd.nk vd.ck] 28)).alloc (.cells #[.int .i64 1, .string attr, .slice qi ints.length ci, .slice none 0 0, .int .i64 0, .int .i64 0, .int .i64 2, .string attr, .slice none 0 0, .slice (some ⟨b, off, none⟩) words.length cw, .int .i64 0, .int .i64 0, .int .i64 3, .string attr, .slice none 0 0, .slice none 0 0, .int .i64 lo, .int .i64 hi, .int .i64 4, .string attr, .slice none 0 0, .slice (some ⟨w7.heap.size + 7, 0, none⟩) 1 1, .int .i64 0, .int .i64 0] 25)).alloc (.cells #[.int .i64 4, .string attr, .slice none 0 0, .slice (some ⟨w7.heap.size + 7, 0, none⟩) 1 1, .int .i64 0, .int .i64 0] 25) = w0 := ⟨_, rfl⟩
      rw [hw0]
      obtain ⟨m0, _, m2, bw0, sz0⟩ := three hw0
      obtain ⟨y0, y1, y2, y3, y4, y5, y6, y7⟩ := of8' m0
      obtain ⟨x0, x1, x2, x3, x4, x5⟩ := of6' m2
      have f0 : ∀ n os, (grow (redrawn w0 n) os).cell? ⟨wr.heap.size, 0, none⟩ = some (.int .i64 vd.kind) := cell_regrown y0
      have f1 : ∀ n os, (grow (redrawn w0 n) os).cell? ⟨wr.heap.size, 1, none⟩ = some (.string vd.attr) := cell_regrown y1
      have f2 : ∀ n os, (grow (redrawn w0 n) os).cell? ⟨wr.heap.size, 2, none⟩ = some (.slice vd.qi vd.ni vd.ci) := cell_regrown y2
      have f3 : ∀ n os, (grow (redrawn w0 n) os).cell? ⟨wr.heap.size, 3, none⟩ = some (.slice vd.qw vd.nw vd.cw) := cell_regrown y3
      have f4 : ∀ n os, (grow (redrawn w0 n) os).cell? ⟨wr.heap.size, 4, none⟩ = some (.int .i64 vd.lo) := cell_regrown y4
      have f5 : ∀ n os, (grow (redrawn w0 n) os).cell? ⟨wr.heap.size, 5, none⟩ = some (.int .i64 vd.hi) := cell_regrown y5
      have f6 : ∀ n os, (grow (redrawn w0 n) os).cell? ⟨wr.heap.size, 6, none⟩ = some (.int .i64 vd.op) := cell_regrown y6
      have f7 : ∀ n os, (grow (redrawn w0 n) os).cell? ⟨wr.heap.size, 7, none⟩ = some (.slice vd.qk vd.nk vd.ck) := cell_regrown y7
      have e0 : ∀ n os, (grow (redrawn w0 n) os).cell? ⟨wr.heap.size + 2, 0, none⟩ = some (.int .i64 4) := cell_regrown x0
      have e1 : ∀ n os, (grow (redrawn w0 n) os).cell? ⟨wr.heap.size + 2, 1, none⟩ = some (.string attr) := cell_regrown x1
      have e2 : ∀ n os, (grow (redrawn w0 n) os).cell? ⟨wr.heap.size + 2, 2, none⟩ = some (.slice none 0 0) := cell_regrown x2
      have e3 : ∀ n os, (grow (redrawn w0 n) os).cell? ⟨wr.heap.size + 2, 3, none⟩ = some (.slice (some ⟨w7.heap.size + 7, 0, none⟩) 1 1) := cell_regrown x3
      have e4 : ∀ n os, (grow (redrawn w0 n) os).cell? ⟨wr.heap.size + 2, 4, none⟩ = some (.int .i64 0) := cell_regrown x4
      have e5 : ∀ n os, (grow (redrawn w0 n) os).cell? ⟨wr.heap.size + 2, 5, none⟩ = some (.int .i64 0) := cell_regrown x5
      have bbr := fun (n : Nat) (os : Array Obj) => below_sub (unhide HB) (below_sub bw0 (below_regrown w0 n os))
      have r21 := fun (n : Nat) (os : Array Obj) => (fun (bb : Below w9.heap.size w9 (grow (redrawn w0 n) os)) => sameVV vd ⟨4, attr, none, 0, 0, some ⟨w7.heap.size + 7, 0, none⟩, 1, 1, 0, 0, 1, none, 0, 0⟩ (grow (redrawn w0 n) os) ((unhide ND).keep bb) (wantIn (SlOf.none _) ((unhide HL).below bb)) (OkN.mk (by simp) (by simp) (by simp) (fun x hx => by simp at hx))) (bbr n os)
      have r13 := fun (n : Nat) (os : Array Obj) => (fun (bb : Below w9.heap.size w9 (grow (redrawn w0 n) os)) => check_leafV vd (grow (redrawn w0 n) os) ((unhide ND).keep bb) (by first | omega | simp) (by first | omega | simp)) (bbr n os)
      have r31 := fun (n : Nat) (os : Array Obj) => (fun (bb : Below w9.heap.size w9 (grow (redrawn w0 n) os)) => pred_any 4 attr none 0 [] (some ⟨w7.heap.size + 7, 0, none⟩) 1 [x] 0 0 (grow (redrawn w0 n) os) (SlOf.none _) ((unhide HL).below bb) (by first | omega | simp) (by first | omega | simp)) (bbr n os)
      simp only [Nv.val, List.length_nil, List.length_cons, Nat.zero_add] at r21 r13 r31
      generalize code (predB 4 attr [] [x] 0 0) = cb at r13 r31
      have hcb : (cb != cb) = false := by simp
      have HBW := hide bw0
      clear m0 m2 bw0 y0 y1 y2 y3 y4 y5 y6 y7 x0 x1 x2 x3 x4 x5 bbr hw0 l0 l1 l2 l3 l4 l5 l6 l7 p0 p1 p2 p3 p4 p5 q0 q1 q2 q3 q4 q5 s0 s1 s2 s3 s4 s5 t0 t1 t2 t3 t4 t5
      refine wp_region_quiet_below (by assumption) (by kernel_rfl) ?_
      repeat (go_big_quiet_step (first
        | (go_at_fn 21; refine Calls.regrown_of (r21 _ _))
        | (go_at_fn 13; refine Calls.regrown_of (r13 _ _))
        | (go_at_fn 31; refine Calls.regrown_of (r31 _ _))))
      refine wpQuiet_nil ?_
      intro _ hw'
      obtain ⟨⟨dq, osq⟩, hw''⟩ := hw'
      subst hw''
      have bE := below_sub (unhide HBW) (below_regrown w0 dq osq)
      have ME := (bE.block _ zM).trans (unhide HM)
      have BE := hide (below_sub (unhide HB) bE)
      go_wp2
      go_roundw
      case rel => exact ⟨4, by omega, by go_num, unhide BE, ME⟩
      case measure => simp [intOf]
    · clear hM
      go_wp2
      go_ret
      exact ⟨rfl, below_sub (unhide B19) (unhide HB)⟩
theorem treeLeaves_any (attr : ByteArray) (qi : Option Addr) (ci : Nat) (ints : List Int) (qw : Option Addr) (cw : Nat) (words : List ByteArray) (lo hi : Int) (w : World) (hG : G w) (h1 : SlOf encI 1 w qi ci ints) (h2 : SlOf encS 1 w qw cw words) (m1 : ints.length * 8 + 64 ≤ 140737488355328) (m2 : words.length * 16 + 64 ≤ 140737488355328) :
    Calls Tryd.prog 5 #[.string attr, .slice qi ints.length ci, .slice qw words.length cw, .int .i64 lo, .int .i64 hi] w fun e w' => e = .returned (.bool true) ∧ Below w.heap.size w w' := by
  by_cases hw : words.length = 0
  · exact treeLeaves_none attr qi ci ints qw cw words lo hi w hG h1 h2 m1 m2 hw
  · exact treeLeaves_some attr qi ci ints qw cw words lo hi w hG h1 h2 m1 m2 (by omega)
end Go.Proofs.YtmdkdkcjgjknoaaDoor

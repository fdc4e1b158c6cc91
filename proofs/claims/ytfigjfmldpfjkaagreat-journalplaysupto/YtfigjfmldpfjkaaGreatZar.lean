/- One call of the statement's world, whatever its kind. -/
import Derived.Test.YtfigjfmldpfjkaaGreatZaq
import Derived.Test.YtfigjfmldpfjkaaGreatDo0
import Derived.Test.YtfigjfmldpfjkaaGreatDo1
import Derived.Test.YtfigjfmldpfjkaaGreatDo2
import Derived.Test.YtfigjfmldpfjkaaGreatDo3h
import Derived.Test.YtfigjfmldpfjkaaGreatDo4h
import Derived.Test.YtfigjfmldpfjkaaGreatDo4nh
import Derived.Test.YtfigjfmldpfjkaaGreatDo5
import Derived.Test.YtfigjfmldpfjkaaGreatDo6
import Derived.Test.YtfigjfmldpfjkaaGreatDo7
import Derived.Test.YtfigjfmldpfjkaaGreatZah
import Derived.Test.YtfigjfmldpfjkaaGreatChecked
import Derived.ProofKit
import Derived.LaidMore
import Derived.OpenShut
import Derived.Stop.Joined
import Derived.Stop.LaidErr
import Derived.Deep.Slices
import Derived.Deep.Strs
import Derived.Deep.DeepHandedRow
import Derived.Deep.DeepWitnessRowRef
import Derived.SizedLaws
import Derived.Lib.SmallJoins
import Derived.Test.YtfigjfmldpfjkaaGreatZap
namespace Go.Proofs.YtfigjfmldpfjkaaGreat
open Go.RowKit Go.Sort Go.Shelf

theorem do_ok : DoOk := by
  intro A0 B P w gw d g s M A hks hlo h20 hA kd pc cc cs n m pi ci is pb cb bs sc si sb hM hil hnn
  have hgs := hks.gs
  obtain ⟨j0, s0, r0, h0, hd0, hr0, hs0⟩ := hks.any
  by_cases k5 : kd = 5
  · exact do_5 h0 hd0 hr0 hs0 hgs hlo h20 hA kd pc cc cs n m pi ci is pb cb bs sc si sb hM hil k5
  by_cases k6 : kd = 6
  · exact do_6 h0 hd0 hr0 hs0 hgs hlo h20 hA kd pc cc cs n m pi ci is pb cb bs sc si sb hM k6
  by_cases k7 : kd = 7
  · exact do_7 h0 hd0 hr0 hs0 hgs hlo h20 hA kd pc cc cs n m pi ci is pb cb bs sc si sb hM hil k7
  obtain ⟨r, hr, hs, h3⟩ := hks
  rcases h3 with ⟨h, hd⟩ | ⟨gj, gs, x, L, h, hj⟩
  · by_cases k4 : kd = 4
    · exact do_4n h hd hr hs hlo h20 kd pc cc cs n m pi ci is pb cb bs sc si sb hM hnn k4
    exact do_n h hd hr hs hlo h20 kd pc cc cs n m pi ci is pb cb bs sc si sb hM k4 k5 k6 k7
  · by_cases k4 : kd = 4
    · exact do_4 h hj hr hs hlo h20 kd pc cc cs n m pi ci is pb cb bs sc si sb hM hnn k4
    by_cases k1 : kd = 1
    · exact do_1 h hj hr hs hlo h20 hA kd pc cc cs n m pi ci is pb cb bs sc si sb hM k1
    by_cases k2 : kd = 2
    · exact do_2 h hj hr hs hlo h20 hA kd pc cc cs n m pi ci is pb cb bs sc si sb hM k2
    by_cases k3 : kd = 3
    · exact do_3 h hj hr hs hlo h20 hA kd pc cc cs n m pi ci is pb cb bs sc si sb hM k3
    exact do_0 h hj hr hs hlo h20 kd pc cc cs n m pi ci is pb cb bs sc si sb hM k1 k2 k3 k4 k5 k6 k7
end Go.Proofs.YtfigjfmldpfjkaaGreat
namespace Go.Proofs.YtfigjfmldpfjkaaGreat
open Go.RowKit Go.Sort Go.Shelf

set_option maxHeartbeats 8000000 in
set_option maxRecDepth 100000 in
theorem jplays_law (hDo : DoOk) (q0 : Option Addr) (k0 : Nat) (ops : List Od) (w : World) (h0 : OpsOf w q0 k0 ops) (hnn : ∀ o ∈ ops, o.n ≤ 9223372036854775807) (hw : odsW ops ≤ 5000000) (hl : ops.length ≤ 120) :
    Calls Tryz.prog 3 #[.slice q0 ops.length k0] w fun e w' => e = .returned (.bool true) ∧ Below w.heap.size w w' := by
  have hfx := fixed_any w
  have hN := fun (W : World) => new_js W
  have hon := fun (W : World) => open_nil W
  have j1 : ¬ (120 : Int) < (ops.length : Int) := by omega
  have H0 := hide h0
  have HNN := hide hnn
  have HDO := hide hDo
  clear h0 hnn hDo
  go_enter Tryz.func3, Tryz.ntmps3
  go_upto_region 6 with (first
    | (go_at_call 5; refine hfx.mono ?_; rintro e w1 ⟨rfl, b1⟩; have B1 := hide b1; clear b1)
    | (go_at_call 6; refine (hN w1).mono ?_; rintro e w2 ⟨rfl, d2, b2⟩; have D2 := hide d2; have B2 := hide b2; clear d2 b2))
  obtain ⟨w3, hw3⟩ : ∃ w3, w2.alloc (.cells #[.slice none 0 0, .int .i64 0, .bool false, .int .i64 0, .int .i64 0] 30) = w3 := ⟨_, rfl⟩
  obtain ⟨w4, hw4⟩ : ∃ w4, w3.alloc (.cells #[.pointer (some ⟨w1.heap.size + 1, 0, none⟩), .pointer none, .pointer (some ⟨w2.heap.size, 0, none⟩), .pointer none] 34) = w4 := ⟨_, rfl⟩
  have hs3 : w3.heap.size = w2.heap.size + 1 := by rw [← hw3]; simp
  have b3 : Below w2.heap.size w2 w3 := by rw [← hw3]; exact (Below.refl _ _).alloc (Nat.le_refl _) _
  have b34 : Below w3.heap.size w3 w4 := by rw [← hw4]; exact (Below.refl _ _).alloc (Nat.le_refl _) _
  have b4 : Below w2.heap.size w2 w4 := below_sub b3 b34
  have kb : w4.heap[w2.heap.size]? = some (.cells #[.slice none 0 0, .int .i64 0, .bool false, .int .i64 0, .int .i64 0] 30 (0, 0)) := (b34.block _ (by omega)).trans (by rw [← hw3]; exact heap_alloc_new _ _)
  have kw : w4.heap[w2.heap.size + 1]? = some (.cells #[.pointer (some ⟨w1.heap.size + 1, 0, none⟩), .pointer none, .pointer (some ⟨w2.heap.size, 0, none⟩), .pointer none] 34 (0, 0)) := by
    have := heap_alloc_new w3 (.cells #[.pointer (some ⟨w1.heap.size + 1, 0, none⟩), .pointer none, .pointer (some ⟨w2.heap.size, 0, none⟩), .pointer none] 34)
    rw [hw4, hs3] at this
    exact this
  have hks := ksStart (unhide D2) (unhide B2) b4 kb kw
  obtain ⟨j0, s0, r, km, jd, rel, sz⟩ := hks.any
  have hop := wopen_any km jd rel sz (by omega) (by omega) (by omega)
  have b04 : Below w.heap.size w w4 := below_sub (below_sub (unhide B1) (unhide B2)) b4
  have hlo : Lo w.heap.size (fun i => i < w1.heap.size ∨ (w2.heap.size ≤ i ∧ i < w4.heap.size)) (w2.heap.size + 1) w2.heap.size w4 := by
    have s1 := (unhide B1).size
    have s2 := (unhide B2).size
    refine ⟨fun i hi => Or.inl (by omega), by omega, by omega, fun gs h9 => ?_, b04.size⟩
    rw [(cellsW kw).1.2.2.2] at h9
    cases h9
  have hst : ∀ V, KE (fun i => i < w1.heap.size ∨ (w2.heap.size ≤ i ∧ i < w4.heap.size)) (fun _ => False) w4 (w2.heap.size + 1) w2.heap.size (w1.heap.size + 1) w2.heap.size (openM newJ).2 100 (0 + 4) V → LpJ w ops 0 (w2.heap.size + 1) V := fun V hx => by
    obtain ⟨B', P', d', g', h1, h2, h3⟩ := (KE.kx hx).lo hlo
    exact ⟨⟨B', P', d', g', _, h1.mono (by simp [mkN]) (by omega), h2⟩, b04.trans h3⟩
  have HST := hide hst
  have HOP := hide hop
  have B34 := hide b34
  clear hks km jd rel sz hop b3 b34 b4 kb hst hlo b04 kw
  rw [hw3]
  rw [hw4]
  go_wp2_with (first
    | (go_at_call 7; refine (hon _).mono ?_; rintro e wz ⟨rfl, rfl⟩)
    | (go_at_call 8; refine (unhide HOP).mono ?_; rintro e w5 ⟨rfl, x5⟩; have LP0 := hide (unhide HST w5 x5); clear x5))
  go_loopw [51] (fun v wr => ∃ k : Nat, k ≤ ops.length ∧ v = .int .i64 (k : Int) ∧ Hid (LpJ w ops k (w2.heap.size + 1) wr)) (fun v _ => ops.length - (intOf v).toNat)
  case atStart => exact ⟨0, Nat.zero_le _, rfl, LP0⟩
  case round =>
    obtain ⟨k, hkl, rfl, HL⟩ := hrel
    by_cases hlt : k < ops.length
    · obtain ⟨o, ho, _⟩ := get_at hlt
      obtain ⟨b, off, v, hq, hod, z0, z1, z2, z3, z4, z5⟩ := (unhide H0).at ho (unhide HL).bel
      obtain ⟨⟨e1, e2, e3, e4, e5, e6⟩, sc, si, sb⟩ := hod
      have ki0 : (0 : Int) ≤ (k : Int) := by omega
      have ki1 : (k : Int) < (ops.length : Int) := by omega
      have hbl := mkN_le ops (k + 1)
      rw [mkN_snoc ho] at hbl
      have hil : o.is.length ≤ 5000000 := by
        have h1 := odW_mem (List.mem_of_getElem? ho)
        unfold odW at h1
        omega
      have hn9 : v.n ≤ 9223372036854775807 := by rw [e2]; exact unhide HNN o (List.mem_of_getElem? ho)
      obtain ⟨B, P, d, g, s, hks, hlo⟩ := (unhide HL).ex
      have hm20 : 20 ≤ mkN ops k := by unfold mkN; omega
      obtain ⟨Y, hY⟩ : ∃ Y, wr.alloc (.cells #[.int .i64 v.kind, .slice v.pc o.cs.length v.cc, .int .i64 v.n, .int .i64 v.m, .slice v.pi o.is.length v.ci, .slice v.pb o.bs.length v.cb] 42) = Y := ⟨_, rfl⟩
      have bY : Below wr.heap.size wr Y := by rw [← hY]; exact (Below.refl _ _).alloc (Nat.le_refl _) _
      have kY : Y.heap[wr.heap.size]? = some (.cells #[.int .i64 v.kind, .slice v.pc o.cs.length v.cc, .int .i64 v.n, .int .i64 v.m, .slice v.pi o.is.length v.ci, .slice v.pb o.bs.length v.cb] 42 (0, 0)) := by rw [← hY]; exact heap_alloc_new _ _
      have bwY := below_sub (unhide HL).bel bY
      have hwl : w2.heap.size + 1 < wr.heap.size := by obtain ⟨j0, s0, r, km, _⟩ := hks.any; exact km.lt
      have hloY : Lo w.heap.size B (w2.heap.size + 1) g Y := ⟨hlo.all, hlo.og, hlo.ow, fun gs h9 => hlo.os gs (by rw [cell_same (bY.block _ hwl)] at h9; exact h9), bwY.size⟩
      have hdo := unhide HDO w.heap.size B P Y (w2.heap.size + 1) d g s (mkN ops k) (4 + 4 * k) (hks.below bY) hloY hm20 (by omega) v.kind v.pc v.cc o.cs v.n v.m v.pi v.ci o.is v.pb v.cb o.bs ((sl_inJ sc).kept bwY.size fun i hi _ => bwY.block i hi) ((sl_inJ si).kept bwY.size fun i hi _ => bwY.block i hi) ((sl_inJ sb).kept bwY.size fun i hi _ => bwY.block i hi) (by omega) (by omega) hn9
      have hnx := fun (w' : World) (s' : JS) => LpJ.next (w' := w') (s' := s') (P := P) ho hloY bwY
      have HNX := hide hnx
      have HDO' := hide hdo
      have y0 : Y.cell? ⟨wr.heap.size, 0, none⟩ = some (.int .i64 v.kind) := (cell_of_block kY 0).trans rfl
      have y1 : Y.cell? ⟨wr.heap.size, 1, none⟩ = some (.slice v.pc o.cs.length v.cc) := (cell_of_block kY 1).trans rfl
      have y2 : Y.cell? ⟨wr.heap.size, 2, none⟩ = some (.int .i64 v.n) := (cell_of_block kY 2).trans rfl
      have y3 : Y.cell? ⟨wr.heap.size, 3, none⟩ = some (.int .i64 v.m) := (cell_of_block kY 3).trans rfl
      have y4 : Y.cell? ⟨wr.heap.size, 4, none⟩ = some (.slice v.pi o.is.length v.ci) := (cell_of_block kY 4).trans rfl
      have y5 : Y.cell? ⟨wr.heap.size, 5, none⟩ = some (.slice v.pb o.bs.length v.cb) := (cell_of_block kY 5).trans rfl
      rw [e4] at z1
      rw [e5] at z4
      rw [e6] at z5
      subst hq
      clear ho e1 e2 e3 e4 e5 e6 sc sb si hbl hil hn9 hks hlo bY kY bwY hnx hdo hloY hwl hm20
      go_wp2_with (go_at_call 9; refine (unhide HDO').mono ?_; rintro e w9 ⟨rfl, s', hx⟩; have LP' := hide (unhide HNX w9 s' hx); clear hx)
      go_roundw
      case rel => exact ⟨k + 1, by omega, by go_num, LP'⟩
      case measure => simp [intOf]; omega
    · obtain rfl : k = ops.length := by omega
      have ki1 : ¬ (ops.length : Int) < (ops.length : Int) := by omega
      go_wp2
      go_ret
      exact ⟨rfl, (unhide HL).bel⟩
end Go.Proofs.YtfigjfmldpfjkaaGreat
namespace Go.Proofs.YtfigjfmldpfjkaaGreat
open Go.ChangeShapes Go.WideShapes Go.ChangeAt Go.RowKit Go.Joins

theorem Tryz.laidOut : laidOutB Tryz.prog = true := by kernel_rfl
theorem Tryz.own : ownKnob Tryz.prog.godebug = none := by kernel_rfl
theorem Tryz.cells3 : Tryz.prog.cellsOf 3 = 1 := by kernel_rfl
theorem Tryz.cells5 : Tryz.prog.cellsOf 5 = 1 := by kernel_rfl
theorem Tryz.cells9 : Tryz.prog.cellsOf 9 = 1 := by kernel_rfl
theorem Tryz.cells63 : Tryz.prog.cellsOf 63 = 3 := by kernel_rfl
theorem Tryz.bytes5 : Tryz.prog.bytesOf 5 = 1 := by kernel_rfl
theorem Tryz.bytes32 : Tryz.prog.bytesOf 63 = 32 := by kernel_rfl
theorem cell_spot {w : World} {a : Addr} {v : Value} (h : w.cell? a = some v) : a.spot = Option.none ∧ a.block < w.heap.size := by
  unfold World.cell? at h
  split at h
  · next hc =>
    refine ⟨?_, (Array.getElem?_eq_some_iff.1 hc).1⟩
    split at h
    · cases h
    · next hs => simpa using hs
  · cases h
theorem range_at {α : Type} {f : Nat → α} {n j : Nat} {x : α} (h : ((List.range n).map f)[j]? = some x) : j < n ∧ x = f j := by
  obtain ⟨hj, e⟩ := List.getElem?_eq_some_iff.1 h
  simp at hj e
  exact ⟨hj, e.symm⟩
/-- The cells of a row, one by one. -/
theorem flat_get {α : Type} [Inhabited α] {enc : α → List Value} {k : Nat} (hk : 0 < k) {l : List α} {j : Nat} {u : Value} (h : (Sort.flatK enc k l.toArray).toList[j]? = some u) : ∃ x, l[j / k]? = some x ∧ u = (enc x)[j % k]! := by
  have hs := (List.getElem?_eq_some_iff.1 h).1
  have hlt : j < l.length * k := by simpa using hs
  have hq : j / k < l.length := (Nat.div_lt_iff_lt_mul hk).2 hlt
  obtain ⟨x, hx, _⟩ := get_at hq
  have h2 := flat_at (enc := enc) (k := k) hx (j % k) (Nat.mod_lt _ hk)
  rw [show j / k * k + j % k = j from by rw [Nat.mul_comm]; exact Nat.div_add_mod j k, h] at h2
  exact ⟨x, hx, Option.some.inj h2⟩
set_option maxRecDepth 100000 in
/-- A list among the arguments. -/
theorem open_sl {α : Type} [Inhabited α] {enc' : α → List Value} {k : Nat} {t e : TypeId} (ht : Tryz.prog.underlying t = some (.slice e)) (hc : Tryz.prog.cellsOf e = k) (hk : 0 < k) {H : Type} {enc : TypeId × Value → H} {W : World} {base : Nat} {sp : Nat → Bool} {held : Bool}
    (hdec : ∀ (fuel : Nat) (cs : List Value) (x : DataW H × List MemPlace), DataW.trod enc Tryz.prog W base sp held fuel e cs = some x → cs.length = k → ∃ y : α, ∀ c, c < k → cs[c]? = some ((enc' y)[c]!))
    {fuel : Nat} {v : Value} {x : DataW H × List MemPlace} (h : DataW.trod enc Tryz.prog W base sp held fuel t [v] = some x) :
    ∃ (q : Option Addr) (c : Nat) (l : List α), v = .slice q l.length c ∧ SlOf enc' k W q c l ∧ (l = [] ∨ ∃ D E, x.1 = .slice D E ∧ D.length = l.length) := by
  rcases Go.Deep.open_slice ht h with ⟨h1, _⟩ | ⟨a', len, cap, m, n, D, Pl, h1, _, hlc, hcm, hm, hx, hel⟩
  · simp only [List.cons.injEq, and_true] at h1
    exact ⟨Option.none, 0, [], h1, SlOf.none _, Or.inl rfl⟩
  · simp only [List.cons.injEq, and_true] at h1
    by_cases h0 : len = 0
    · subst h0
      exact ⟨some a', cap, [], h1, ⟨(fun h => by cases h), Nat.zero_le _, hcm, LsOf.nil _ _⟩, Or.inl rfl⟩
    have hmm : len ≤ m := by rw [hm]; split <;> omega
    rw [hc] at hel
    have hth : ∀ i, i < m → ∃ y : α, ∀ c, c < k → W.cell? ((a'.add (i * k)).add c) = some ((enc' y)[c]!) := fun i hi => by
      obtain ⟨cs', hcs, htr⟩ := hel i hi
      obtain ⟨_, hl, hcell⟩ := World.cells?_some hcs
      obtain ⟨y, hy⟩ := hdec _ _ _ htr hl
      exact ⟨y, fun c hc' => by
        rw [hcell c (by omega)]; exact hy c hc'⟩
    obtain ⟨f, hf⟩ := Go.Deep.choose_lt hth
    have hc0 := hf 0 (by omega) 0 hk
    have e0 : (a'.add (0 * k)).add 0 = a' := by simp [Addr.add]
    rw [e0] at hc0
    obtain ⟨hs, hb⟩ := cell_spot hc0
    obtain ⟨b, off, spot⟩ := a'
    simp only at hs hb
    subst hs
    have hd : x.1 = .slice ((List.range len).map D) ((List.range (m - len)).map fun j => D (len + j)) := congrArg Prod.fst hx
    refine ⟨some ⟨b, off, Option.none⟩, cap, (List.range len).map f, by simpa using h1, ⟨(fun h => by cases h), by simpa using hlc, hcm, fun _ => ⟨b, off, rfl, hb, fun j u hj => ?_⟩⟩, Or.inr ⟨_, _, hd, by simp⟩⟩
    obtain ⟨y, hy, rfl⟩ := flat_get hk hj
    obtain ⟨hjl, rfl⟩ := range_at hy
    have h7 := hf (j / k) (by omega) (j % k) (Nat.mod_lt _ hk)
    simp only [add_plain] at h7
    rw [Nat.add_assoc, show j / k * k + j % k = j from by rw [Nat.mul_comm]; exact Nat.div_add_mod j k] at h7
    exact h7
theorem u8_of {n : Int} (h : (Lit.int .u8 n).wf = true) : ((UInt8.ofNat n.toNat).toNat : Int) = n := by
  simp [Lit.wf, IntKind.min, IntKind.max, IntKind.signed, IntKind.bits] at h
  rw [toNat_of]; omega
theorem dec_byte {H : Type} {enc : TypeId × Value → H} {W : World} {base : Nat} {sp : Nat → Bool} {held : Bool} (fuel : Nat) (cs : List Value) (x : DataW H × List MemPlace) (h : DataW.trod enc Tryz.prog W base sp held fuel 5 cs = some x) (_ : cs.length = 1) : ∃ y : UInt8, ∀ c, c < 1 → cs[c]? = some ((encB y)[c]!) := by
  obtain ⟨a, e0, _, hw⟩ := DataW.trod_int Tryz.underlying5 h
  refine ⟨UInt8.ofNat a.toNat, fun c hc => ?_⟩
  have h0 : c = 0 := (by omega)
  have h1 := u8_of hw
  rw [h0, e0]
  show some (Value.int .u8 a) = some (Value.int .u8 ((UInt8.ofNat a.toNat).toNat : Int))
  rw [h1]
theorem trod_three {H : Type} {enc : TypeId × Value → H} {P : Program} {w : World} {base : Nat} {spare : Nat → Bool} {held : Bool} {t : TypeId} {f0 f1 f2 : Field} {fuel : Nat} {cs : List Value} {x : DataW H × List MemPlace} (ht : P.underlying t = some (.struct #[f0, f1, f2])) (h : DataW.trod enc P w base spare held fuel t cs = some x) :
    ∃ y0 y1 y2 n, x.1 = .agg [y0.1, y1.1, y2.1] ∧ DataW.trod enc P w base spare held n f0.type ((cs.drop f0.offset).take (P.cellsOf f0.type)) = some y0 ∧ DataW.trod enc P w base spare held n f1.type ((cs.drop f1.offset).take (P.cellsOf f1.type)) = some y1 ∧ DataW.trod enc P w base spare held n f2.type ((cs.drop f2.offset).take (P.cellsOf f2.type)) = some y2 := by
  obtain ⟨xs, n, hn, rfl, hl, hlen, hf⟩ := DataW.trod_struct ht h
  match xs, hlen with
  | [y0, y1, y2], _ => exact ⟨y0, y1, y2, n, by simp, by simpa using hf 0 f0 rfl, by simpa using hf 1 f1 rfl, by simpa using hf 2 f2 rfl⟩
set_option maxRecDepth 100000 in
/-- A change among the arguments. -/
theorem open_ch {H : Type} {enc : TypeId × Value → H} {W : World} {base : Nat} {sp : Nat → Bool} {held : Bool} {fuel : Nat} {cs : List Value} {x : DataW H × List MemPlace} (h : DataW.trod enc Tryz.prog W base sp held fuel 63 cs = some x) (hl : cs.length = 3) :
    ∃ y : Ch, cs = [.int .i64 y.kind, .int .i64 y.id, .string y.text] := by
  obtain ⟨y0, y1, y2, n, _, h0, h1, h2⟩ := trod_three Tryz.underlying63 h
  match cs, hl with
  | [c0, c1, c2], _ =>
    simp only [Tryz.cells3, Tryz.cells9, List.drop, List.take] at h0 h1 h2
    obtain ⟨K, e0, _, _⟩ := DataW.trod_int Tryz.underlying3 h0
    obtain ⟨I, e1, _, _⟩ := DataW.trod_int Tryz.underlying3 h1
    obtain ⟨T, e2, _⟩ := DataW.trod_string Tryz.underlying9 h2
    simp only [List.cons.injEq, and_true] at e0 e1 e2
    exact ⟨⟨K, I, T⟩, by rw [e0, e1, e2]⟩
theorem dec_ch {H : Type} {enc : TypeId × Value → H} {W : World} {base : Nat} {sp : Nat → Bool} {held : Bool} (fuel : Nat) (cs : List Value) (x : DataW H × List MemPlace) (h : DataW.trod enc Tryz.prog W base sp held fuel 63 cs = some x) (hl : cs.length = 3) : ∃ y : Ch, ∀ c, c < 3 → cs[c]? = some ((encC y)[c]!) := by
  obtain ⟨y, rfl⟩ := open_ch h hl
  refine ⟨y, fun c hc => ?_⟩
  have hm : c = 0 ∨ c = 1 ∨ c = 2 := by omega
  rcases hm with e | e | e <;> rw [e] <;> rfl
theorem bulk_one {H : Type} (d : DataW H) : 1 ≤ Rows.uptoBulk d := by
  cases d <;> first | (rename_i b; cases b <;> simp only [Rows.uptoBulk] <;> omega) | (simp only [Rows.uptoBulk]; omega)
theorem bulk_len {H : Type} (l : List (DataW H)) : l.length ≤ Rows.uptoBulkAll l := by
  induction l with
  | nil => simp
  | cons x r ih => have := bulk_one x; simp only [Rows.uptoBulkAll, List.length_cons]; omega
end Go.Proofs.YtfigjfmldpfjkaaGreat
namespace Go.Proofs.YtfigjfmldpfjkaaGreat
open Go.ChangeShapes Go.WideShapes Go.ChangeAt Go.RowKit Go.Joins

theorem Tryz.cells42 : Tryz.prog.cellsOf 42 = 6 := by kernel_rfl
theorem Tryz.cells35 : Tryz.prog.cellsOf 35 = 1 := by kernel_rfl
theorem Tryz.cells39 : Tryz.prog.cellsOf 39 = 1 := by kernel_rfl
theorem Tryz.cells40 : Tryz.prog.cellsOf 40 = 1 := by kernel_rfl
theorem Tryz.cells90 : Tryz.prog.cellsOf 90 = 3 := by kernel_rfl
theorem dec_int {H : Type} {enc : TypeId × Value → H} {W : World} {base : Nat} {sp : Nat → Bool} {held : Bool} (fuel : Nat) (cs : List Value) (x : DataW H × List MemPlace) (h : DataW.trod enc Tryz.prog W base sp held fuel 3 cs = some x) (_ : cs.length = 1) : ∃ y : Int, ∀ c, c < 1 → cs[c]? = some ((encI y)[c]!) := by
  obtain ⟨a, e0, _, hw⟩ := DataW.trod_int Tryz.underlying3 h
  refine ⟨a, fun c hc => ?_⟩
  have h0 : c = 0 := (by omega)
  rw [h0, e0]
  rfl
theorem trod_six {H : Type} {enc : TypeId × Value → H} {P : Program} {w : World} {base : Nat} {spare : Nat → Bool} {held : Bool} {t : TypeId} {f0 f1 f2 f3 f4 f5 : Field} {fuel : Nat} {cs : List Value} {x : DataW H × List MemPlace} (ht : P.underlying t = some (.struct #[f0, f1, f2, f3, f4, f5])) (h : DataW.trod enc P w base spare held fuel t cs = some x) :
    ∃ y0 y1 y2 y3 y4 y5 n, n < fuel ∧ x.1 = .agg [y0.1, y1.1, y2.1, y3.1, y4.1, y5.1] ∧ DataW.trod enc P w base spare held n f0.type ((cs.drop f0.offset).take (P.cellsOf f0.type)) = some y0 ∧ DataW.trod enc P w base spare held n f1.type ((cs.drop f1.offset).take (P.cellsOf f1.type)) = some y1 ∧ DataW.trod enc P w base spare held n f2.type ((cs.drop f2.offset).take (P.cellsOf f2.type)) = some y2 ∧ DataW.trod enc P w base spare held n f3.type ((cs.drop f3.offset).take (P.cellsOf f3.type)) = some y3 ∧ DataW.trod enc P w base spare held n f4.type ((cs.drop f4.offset).take (P.cellsOf f4.type)) = some y4 ∧ DataW.trod enc P w base spare held n f5.type ((cs.drop f5.offset).take (P.cellsOf f5.type)) = some y5 := by
  obtain ⟨xs, n, hn, rfl, hl, hlen, hf⟩ := DataW.trod_struct ht h
  match xs, hlen with
  | [y0, y1, y2, y3, y4, y5], _ => exact ⟨y0, y1, y2, y3, y4, y5, n, by omega, by simp, by simpa using hf 0 f0 rfl, by simpa using hf 1 f1 rfl, by simpa using hf 2 f2 rfl, by simpa using hf 3 f3 rfl, by simpa using hf 4 f4 rfl, by simpa using hf 5 f5 rfl⟩
theorem open_slD {α : Type} [Inhabited α] {enc' : α → List Value} {k : Nat} {t e : TypeId} (ht : Tryz.prog.underlying t = some (.slice e)) (hc : Tryz.prog.cellsOf e = k) (hk : 0 < k) {H : Type} {enc : TypeId × Value → H} {W : World} {base : Nat} {sp : Nat → Bool} {held : Bool} {fuel : Nat} {P : α → DataW H → Prop}
    (hdec : ∀ (n : Nat), n < fuel → ∀ (cs : List Value) (x : DataW H × List MemPlace), DataW.trod enc Tryz.prog W base sp held n e cs = some x → cs.length = k → ∃ y : α, (∀ c, c < k → cs[c]? = some ((enc' y)[c]!)) ∧ P y x.1)
    {v : Value} {x : DataW H × List MemPlace} (h : DataW.trod enc Tryz.prog W base sp held fuel t [v] = some x) :
    ∃ (q : Option Addr) (c : Nat) (l : List α), v = .slice q l.length c ∧ SlOf enc' k W q c l ∧ (l = [] ∨ ∃ D E, x.1 = .slice D E ∧ D.length = l.length ∧ ∀ (j : Nat) y d, l[j]? = some y → D[j]? = some d → P y d) := by
  rcases DataW.trod_slice ht h with ⟨h1, _⟩ | ⟨a', len, cap, elems, rest, n, hfu, h1, hx, hb, hlc, hcm, hlen, hel, _, _⟩
  · simp only [List.cons.injEq, and_true] at h1
    exact ⟨Option.none, 0, [], h1, SlOf.none _, Or.inl rfl⟩
  · simp only [List.cons.injEq, and_true] at h1
    by_cases h0 : len = 0
    · subst h0
      exact ⟨some a', cap, [], h1, ⟨(fun h => by cases h), Nat.zero_le _, hcm, LsOf.nil _ _⟩, Or.inl rfl⟩
    rw [hc] at hel
    have hth : ∀ i, i < len → ∃ y : α, (∀ c, c < k → W.cell? ((a'.add (i * k)).add c) = some ((enc' y)[c]!)) ∧ ∀ d, elems[i]? = some d → P y d.1 := fun i hi => by
      have h3 := hel i hi
      obtain ⟨d, hd⟩ : ∃ d, elems[i]? = some d := ⟨elems[i]'(by omega), List.getElem?_eq_getElem (by omega)⟩
      rw [hd] at h3
      obtain ⟨cs', hcs, htr⟩ := Option.bind_eq_some_iff.1 h3
      obtain ⟨_, hl, hcell⟩ := World.cells?_some hcs
      obtain ⟨y, hy, hP⟩ := hdec n (by omega) _ _ htr hl
      exact ⟨y, fun c hc' => by rw [hcell c (by omega)]; exact hy c hc', fun d' hd' => by rw [hd] at hd'; cases hd'; exact hP⟩
    obtain ⟨f, hf⟩ := Go.Deep.choose_lt hth
    have hc0 := (hf 0 (by omega)).1 0 hk
    have e0 : (a'.add (0 * k)).add 0 = a' := by simp [Addr.add]
    rw [e0] at hc0
    obtain ⟨hs, hb'⟩ := cell_spot hc0
    obtain ⟨b, off, spot⟩ := a'
    simp only at hs hb'
    subst hs
    refine ⟨some ⟨b, off, Option.none⟩, cap, (List.range len).map f, by simpa using h1, ⟨(fun h => by cases h), by simpa using hlc, hcm, fun _ => ⟨b, off, rfl, hb', fun j u hj => ?_⟩⟩, Or.inr ⟨_, _, congrArg Prod.fst hx, by simp [hlen], fun j y d hj hd => ?_⟩⟩
    · obtain ⟨y, hy, rfl⟩ := flat_get hk hj
      obtain ⟨hjl, rfl⟩ := range_at hy
      have h7 := (hf (j / k) (by omega)).1 (j % k) (Nat.mod_lt _ hk)
      simp only [add_plain] at h7
      rw [Nat.add_assoc, show j / k * k + j % k = j from by rw [Nat.mul_comm]; exact Nat.div_add_mod j k] at h7
      exact h7
    · obtain ⟨hjl, rfl⟩ := range_at hj
      rw [List.getElem?_map] at hd
      obtain ⟨d', hd', rfl⟩ := Option.map_eq_some_iff.1 hd
      exact (hf j hjl).2 d' hd'
theorem bulk_sl {H : Type} {d : DataW H} {α : Type} {l : List α} (g : l = [] ∨ ∃ D E, d = .slice D E ∧ D.length = l.length) : l.length ≤ Rows.uptoBulk d := by
  rcases g with rfl | ⟨D, E, rfl, hl⟩
  · simp
  · have := bulk_len D; simp only [Rows.uptoBulk]; omega
set_option maxRecDepth 100000 in
theorem open_op {H : Type} {enc : TypeId × Value → H} {W : World} {base : Nat} {sp : Nat → Bool} {held : Bool} {fuel : Nat} {cs : List Value} {x : DataW H × List MemPlace} (h : DataW.trod enc Tryz.prog W base sp held fuel 42 cs = some x) (hl : cs.length = 6) :
    ∃ v : Ov, cs = encO v ∧ ∃ o : Od, OdIn W v o ∧ odW o + 1 ≤ Rows.uptoBulk x.1 := by
  obtain ⟨y0, y1, y2, y3, y4, y5, n, hn, hx, h0, h1, h2, h3, h4, h5⟩ := trod_six Tryz.underlying42 h
  match cs, hl with
  | [c0, c1, c2, c3, c4, c5], _ =>
    simp only [Tryz.cells3, Tryz.cells35, Tryz.cells39, Tryz.cells40, List.drop, List.take] at h0 h1 h2 h3 h4 h5
    obtain ⟨kd, e0, _, _⟩ := DataW.trod_int Tryz.underlying3 h0
    obtain ⟨pc, cc, ps, e1, s1, g1⟩ := open_sl (enc' := encC) Tryz.underlying35 Tryz.cells63 (by decide) dec_ch h1
    obtain ⟨nn, e2, _, _⟩ := DataW.trod_int Tryz.underlying3 h2
    obtain ⟨mm, e3, _, _⟩ := DataW.trod_int Tryz.underlying3 h3
    obtain ⟨pi, ci, is, e4, s4, g4⟩ := open_sl (enc' := encI) Tryz.underlying39 Tryz.cells3 (by decide) dec_int h4
    obtain ⟨pb, cb, bs, e5, s5, g5⟩ := open_sl (enc' := encB) Tryz.underlying40 Tryz.cells5 (by decide) dec_byte h5
    simp only [List.cons.injEq, and_true] at e0 e2 e3
    subst e0 e1 e2 e3 e4 e5
    refine ⟨⟨kd, pc, ps.length, cc, nn, mm, pi, is.length, ci, pb, bs.length, cb⟩, rfl, ⟨kd, ps, nn, mm, is, bs⟩, ⟨⟨rfl, rfl, rfl, rfl, rfl, rfl⟩, s1, s4, s5⟩, ?_⟩
    rw [hx]
    have b1 := bulk_sl g1
    have b4 := bulk_sl g4
    have b5 := bulk_sl g5
    have b0 := bulk_one y0.1
    simp only [Rows.uptoBulk, Rows.uptoBulkAll, odW]
    omega
theorem bulk_ods {H : Type} : ∀ (l : List Od) (D : List (DataW H)), D.length = l.length → (∀ (j : Nat) y d, l[j]? = some y → D[j]? = some d → odW y + 1 ≤ Rows.uptoBulk d) → odsW l ≤ Rows.uptoBulkAll D := by
  intro l
  induction l with
  | nil => intro D _ _; simp [odsW]
  | cons x l ih =>
    intro D hl hP
    cases D with
    | nil => simp at hl
    | cons d D =>
      have h0 := hP 0 x d rfl rfl
      have h1 := ih D (by simpa using hl) (fun j y e hj he => hP (j + 1) y e (by simpa using hj) (by simpa using he))
      simp only [odsW, Rows.uptoBulkAll]
      omega
theorem open_ops {H : Type} {enc : TypeId × Value → H} {W : World} {base : Nat} {sp : Nat → Bool} {held : Bool} {fuel : Nat} {v : Value} {x : DataW H × List MemPlace} (h : DataW.trod enc Tryz.prog W base sp held fuel 22 [v] = some x) :
    ∃ q c ls, v = .slice q ls.length c ∧ OpsOf W q c ls ∧ odsW ls ≤ Rows.uptoBulk x.1 := by
  obtain ⟨qk, ck, vs, e2, s3, g3⟩ := open_slD (enc' := encO) (P := fun u d => ∃ l : Od, OdIn W u l ∧ odW l + 1 ≤ Rows.uptoBulk d) Tryz.underlying22 Tryz.cells42 (by decide) (fun m hm cs x hx hl => by
    obtain ⟨u, hv, l, h1, h2⟩ := open_op hx hl
    refine ⟨u, fun c hc => ?_, l, h1, h2⟩
    rw [hv]
    have hlen : c < (encO u).length := by simp [encO]; omega
    rw [List.getElem?_eq_getElem hlen, getElem!_pos (encO u) c hlen]) h
  rcases g3 with rfl | ⟨D, E, hD, hlD, hP⟩
  · exact ⟨qk, ck, [], e2, ⟨[], s3, rfl, fun j v t hj _ => by simp at hj⟩, by simp [odsW]⟩
  · have hth : ∀ i, i < vs.length → ∃ t : Od, ∀ v d, vs[i]? = some v → D[i]? = some d → OdIn W v t ∧ odW t + 1 ≤ Rows.uptoBulk d := fun i hi => by
      obtain ⟨t, ht⟩ := hP i vs[i] (D[i]'(by omega)) (List.getElem?_eq_getElem hi) (List.getElem?_eq_getElem (by omega))
      exact ⟨t, fun v d hv hd => by
        rw [List.getElem?_eq_getElem hi] at hv
        rw [List.getElem?_eq_getElem (by omega)] at hd
        cases hv; cases hd; exact ht⟩
    obtain ⟨f, hf⟩ := Go.Deep.choose_lt hth
    refine ⟨qk, ck, (List.range vs.length).map f, by simpa using e2, ⟨vs, s3, by simp, fun j v t hj ht => ?_⟩, ?_⟩
    · obtain ⟨hjl, rfl⟩ := range_at ht
      exact (hf j hjl v (D[j]'(by omega)) hj (List.getElem?_eq_getElem (by omega))).1
    · have := bulk_ods ((List.range vs.length).map f) D (by simpa using hlD) (fun j y d hj hd => by
        obtain ⟨hjl, rfl⟩ := range_at hj
        exact (hf j hjl vs[j] d (List.getElem?_eq_getElem hjl) hd).2)
      rw [hD]
      simp only [Rows.uptoBulk]
      omega
set_option maxRecDepth 100000 in
theorem dec_trip {H : Type} {enc : TypeId × Value → H} {W : World} {base : Nat} {sp : Nat → Bool} {held : Bool} (fuel : Nat) (cs : List Value) (x : DataW H × List MemPlace) (h : DataW.trod enc Tryz.prog W base sp held fuel 90 cs = some x) (hl : cs.length = 3) : ∃ y : Int × Int × Int, ∀ c, c < 3 → cs[c]? = some ((encT y)[c]!) := by
  obtain ⟨xs, m, hm, hx, _, hlen, hf⟩ := DataW.trod_array Tryz.underlying90 h
  match cs, hl, xs, hlen with
  | [c0, c1, c2], _, [y0, y1, y2], _ =>
    have h0 := hf 0 (by decide)
    have h1 := hf 1 (by decide)
    have h2 := hf 2 (by decide)
    simp only [Tryz.cells3, Nat.zero_mul, Nat.one_mul, List.drop, List.take] at h0 h1 h2
    obtain ⟨a, e0, _, _⟩ := DataW.trod_int Tryz.underlying3 h0
    obtain ⟨b, e1, _, _⟩ := DataW.trod_int Tryz.underlying3 h1
    obtain ⟨c, e2, _, _⟩ := DataW.trod_int Tryz.underlying3 h2
    simp only [List.cons.injEq, and_true] at e0 e1 e2
    subst e0 e1 e2
    refine ⟨(a, b, c), fun k hk => ?_⟩
    have hk' : k = 0 ∨ k = 1 ∨ k = 2 := by omega
    rcases hk' with rfl | rfl | rfl <;> rfl
end Go.Proofs.YtfigjfmldpfjkaaGreat
namespace Go.Proofs.YtfigjfmldpfjkaaGreat
open Go.ChangeShapes Go.WideShapes Go.ChangeAt Go.RowKit Go.Joins

set_option maxRecDepth 100000 in
theorem open_opN {H : Type} {enc : TypeId × Value → H} {W : World} {base : Nat} {sp : Nat → Bool} {held : Bool} {fuel : Nat} {cs : List Value} {x : DataW H × List MemPlace} (h : DataW.trod enc Tryz.prog W base sp held fuel 42 cs = some x) (hl : cs.length = 6) :
    ∃ v : Ov, cs = encO v ∧ ∃ o : Od, (OdIn W v o ∧ o.n ≤ 9223372036854775807) ∧ odW o + 1 ≤ Rows.uptoBulk x.1 := by
  obtain ⟨y0, y1, y2, y3, y4, y5, n, hn, hx, h0, h1, h2, h3, h4, h5⟩ := trod_six Tryz.underlying42 h
  match cs, hl with
  | [c0, c1, c2, c3, c4, c5], _ =>
    simp only [Tryz.cells3, Tryz.cells35, Tryz.cells39, Tryz.cells40, List.drop, List.take] at h0 h1 h2 h3 h4 h5
    obtain ⟨kd, e0, _, _⟩ := DataW.trod_int Tryz.underlying3 h0
    obtain ⟨pc, cc, ps, e1, s1, g1⟩ := open_sl (enc' := encC) Tryz.underlying35 Tryz.cells63 (by decide) dec_ch h1
    obtain ⟨nn, e2, _, wf2⟩ := DataW.trod_int Tryz.underlying3 h2
    obtain ⟨mm, e3, _, _⟩ := DataW.trod_int Tryz.underlying3 h3
    obtain ⟨pi, ci, is, e4, s4, g4⟩ := open_sl (enc' := encI) Tryz.underlying39 Tryz.cells3 (by decide) dec_int h4
    obtain ⟨pb, cb, bs, e5, s5, g5⟩ := open_sl (enc' := encB) Tryz.underlying40 Tryz.cells5 (by decide) dec_byte h5
    simp only [List.cons.injEq, and_true] at e0 e2 e3
    subst e0 e1 e2 e3 e4 e5
    refine ⟨⟨kd, pc, ps.length, cc, nn, mm, pi, is.length, ci, pb, bs.length, cb⟩, rfl, ⟨kd, ps, nn, mm, is, bs⟩, ⟨⟨⟨rfl, rfl, rfl, rfl, rfl, rfl⟩, s1, s4, s5⟩, by simp [Lit.wf, IntKind.min, IntKind.max, IntKind.signed, IntKind.bits] at wf2; show nn ≤ _; omega⟩, ?_⟩
    rw [hx]
    have b1 := bulk_sl g1
    have b4 := bulk_sl g4
    have b5 := bulk_sl g5
    have b0 := bulk_one y0.1
    simp only [Rows.uptoBulk, Rows.uptoBulkAll, odW]
    omega
theorem open_opsN {H : Type} {enc : TypeId × Value → H} {W : World} {base : Nat} {sp : Nat → Bool} {held : Bool} {fuel : Nat} {v : Value} {x : DataW H × List MemPlace} (h : DataW.trod enc Tryz.prog W base sp held fuel 22 [v] = some x) :
    ∃ q c ls, v = .slice q ls.length c ∧ (OpsOf W q c ls ∧ ∀ o ∈ ls, o.n ≤ 9223372036854775807) ∧ odsW ls ≤ Rows.uptoBulk x.1 := by
  obtain ⟨qk, ck, vs, e2, s3, g3⟩ := open_slD (enc' := encO) (P := fun u d => ∃ l : Od, (OdIn W u l ∧ l.n ≤ 9223372036854775807) ∧ odW l + 1 ≤ Rows.uptoBulk d) Tryz.underlying22 Tryz.cells42 (by decide) (fun m hm cs x hx hl => by
    obtain ⟨u, hv, l, h1, h2⟩ := open_opN hx hl
    refine ⟨u, fun c hc => ?_, l, h1, h2⟩
    rw [hv]
    have hlen : c < (encO u).length := by simp [encO]; omega
    rw [List.getElem?_eq_getElem hlen, getElem!_pos (encO u) c hlen]) h
  rcases g3 with rfl | ⟨D, E, hD, hlD, hP⟩
  · exact ⟨qk, ck, [], e2, ⟨⟨[], s3, rfl, fun j v t hj _ => by simp at hj⟩, fun o ho => by simp at ho⟩, by simp [odsW]⟩
  · have hth : ∀ i, i < vs.length → ∃ t : Od, ∀ v d, vs[i]? = some v → D[i]? = some d → (OdIn W v t ∧ t.n ≤ 9223372036854775807) ∧ odW t + 1 ≤ Rows.uptoBulk d := fun i hi => by
      obtain ⟨t, ht⟩ := hP i vs[i] (D[i]'(by omega)) (List.getElem?_eq_getElem hi) (List.getElem?_eq_getElem (by omega))
      exact ⟨t, fun v d hv hd => by
        rw [List.getElem?_eq_getElem hi] at hv
        rw [List.getElem?_eq_getElem (by omega)] at hd
        cases hv; cases hd; exact ht⟩
    obtain ⟨f, hf⟩ := Go.Deep.choose_lt hth
    refine ⟨qk, ck, (List.range vs.length).map f, by simpa using e2, ⟨⟨vs, s3, by simp, fun j v t hj ht => ?_⟩, fun o ho => ?_⟩, ?_⟩
    · obtain ⟨hjl, rfl⟩ := range_at ht
      exact (hf j hjl v (D[j]'(by omega)) hj (List.getElem?_eq_getElem (by omega))).1.1
    · obtain ⟨j, hj⟩ := List.mem_iff_getElem?.1 ho
      obtain ⟨hjl, rfl⟩ := range_at hj
      exact (hf j hjl vs[j] (D[j]'(by omega)) (List.getElem?_eq_getElem hjl) (List.getElem?_eq_getElem (by omega))).1.2
    · have := bulk_ods ((List.range vs.length).map f) D (by simpa using hlD) (fun j y d hj hd => by
        obtain ⟨hjl, rfl⟩ := range_at hj
        exact (hf j hjl vs[j] d (List.getElem?_eq_getElem hjl) hd).2)
      rw [hD]
      simp only [Rows.uptoBulk]
      omega
end Go.Proofs.YtfigjfmldpfjkaaGreat

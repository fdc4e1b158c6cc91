/- The statement DiskPlays. -/
import Derived.Test.YtonhagoeajhacaaE0
import Derived.Test.YtonhagoeajhacaaE1
import Derived.Test.YtonhagoeajhacaaE2
import Derived.Test.YtonhagoeajhacaaE3
import Derived.Test.YtonhagoeajhacaaE4
import Derived.Test.YtonhagoeajhacaaE5
import Derived.Test.YtonhagoeajhacaaE6
import Derived.Test.YtonhagoeajhacaaE7
import Derived.Test.YtonhagoeajhacaaJi
namespace Go.Proofs.Ytonhagoeajhacaa
open Go.RowKit Go.Sort Go.Shelf

theorem do_any {A : Nat} {B P : Nat → Prop} {w : World} {d g : Nat} {s : Dk} {r : Rk} {Z : Nat} (hj : J B P w d g s r) (hr : Rel s r Z) (hZ : Z ≤ 400000000) (hn : s.n ≤ 400) (ha : s.acts ≤ 400) (hl : r.fs.length ≤ 400) (hA : ∀ i, i < A → B i) (hAg : A ≤ g) (kd : Int) (nm tt : ByteArray) (pb : Option Addr) (cb : Nat) (bs : List UInt8) (n m : Int) (pi : Option Addr) (ci : Nat) (is : List Int) (sb : SlIn encB 1 (· < A) w pb cb bs) (si : SlIn encI 1 (· < A) w pi ci is) (hbl : bs.length ≤ 100000000) (hil : is.length ≤ 100000000) (hnn : n ≤ 9223372036854775807) :
    Calls Try.prog 6 #[.pointer (some ⟨d, 0, none⟩), .pointer (some ⟨g, 0, none⟩), .agg #[.int .i64 kd, .string nm, .string tt, .slice pb bs.length cb, .int .i64 n, .int .i64 m, .slice pi is.length ci]] w fun e w' => DoR A w s r (Z + bs.length) e w' := by
  by_cases k1 : kd = 1
  · exact do_1 hj hr hZ hn ha hl hA hAg kd nm tt pb cb bs n m pi ci is sb si hbl hil hnn k1
  by_cases k2 : kd = 2
  · exact do_2 hj hr hZ hn ha hl hA hAg kd nm tt pb cb bs n m pi ci is sb si hbl hil hnn k2
  by_cases k3 : kd = 3
  · exact do_3 hj hr hZ hn ha hl hA hAg kd nm tt pb cb bs n m pi ci is sb si hbl hil hnn k3
  by_cases k4 : kd = 4
  · exact do_4 hj hr hZ hn ha hl hA hAg kd nm tt pb cb bs n m pi ci is sb si hbl hil hnn k4
  by_cases k5 : kd = 5
  · exact do_5 hj hr hZ hn ha hl hA hAg kd nm tt pb cb bs n m pi ci is sb si hbl hil hnn k5
  by_cases k6 : kd = 6
  · exact do_6 hj hr hZ hn ha hl hA hAg kd nm tt pb cb bs n m pi ci is sb si hbl hil hnn k6
  by_cases k7 : kd = 7
  · exact do_7 hj hr hZ hn ha hl hA hAg kd nm tt pb cb bs n m pi ci is sb si hbl hil hnn k7
  exact do_0 hj hr hZ hn ha hl hA hAg kd nm tt pb cb bs n m pi ci is sb si hbl hil hnn k1 k2 k3 k4 k5 k6 k7
theorem sl_in {α : Type} [Inhabited α] {enc : α → List Value} {k : Nat} {w : World} {q : Option Addr} {c : Nat} {l : List α} (h : SlOf enc k w q c l) : SlIn enc k (· < w.heap.size) w q c l := ⟨h, fun h0 a ha => by
  obtain ⟨b, off, hq, hb, _⟩ := h.2.2.2 h0
  rw [ha] at hq
  injection hq with hq
  rw [hq]
  exact hb⟩
theorem mem_odW {l : List Od} {o : Od} (h : o ∈ l) : o.is.length ≤ odsW l := by
  induction l with
  | nil => simp at h
  | cons a l ih =>
    simp only [odsW, odW]
    rcases List.mem_cons.1 h with rfl | h
    · omega
    · have := ih h; omega
/-- The loop's state. -/
structure Lp (w : World) (ops : List Od) (k : Nat) (d g : Nat) (wr : World) : Prop where
  ex : ∃ (B P : Nat → Prop) (s : Dk) (r : Rk), J B P wr d g s r ∧ Rel s r (bsN ops k) ∧ s.n ≤ k ∧ s.acts ≤ k ∧ r.fs.length ≤ k ∧ (∀ i, i < w.heap.size → B i)
  ge : w.heap.size ≤ g
  bel : Below w.heap.size w wr
theorem Lp.start {w w1 w2 w3 : World} {ops : List Od} (b1 : Below w.heap.size w w1) (hd : DkAt (· < w1.heap.size) w2 (w1.heap.size + 1) empty) (b2 : Below w1.heap.size w1 w2) (b3 : Below w2.heap.size w2 w3) (hb : w3.heap[w2.heap.size]? = some (.cells #[.slice none 0 0, .int .i64 0, .bool false, .int .i64 0, .int .i64 0] 29 (0, 0))) : Lp w ops 0 (w1.heap.size + 1) w2.heap.size w3 := by
  have h1 := b1.size
  have h2 := b2.size
  have h3 : w2.heap.size < w3.heap.size := (Array.getElem?_eq_some_iff.1 hb).1
  refine ⟨⟨fun i => i < w1.heap.size ∨ i = w2.heap.size, fun _ => False, empty, ⟨[], 0, false, 0, 0⟩, ⟨fun i hi => ?_, ?_, Or.inr rfl, fun i hi => hi.elim, none, 0, ⟨fun h => h, by simp, hb, ⟨SlOf.none _, fun h => absurd h (by simp)⟩, fun x hx => by simp at hx⟩⟩, ⟨⟨fun nm fl => ?_, List.Pairwise.nil, fun x hx => by simp at hx⟩, rfl, rfl, fun _ => ⟨rfl, rfl⟩⟩, Nat.le_refl _, Nat.le_refl _, Nat.le_refl _, fun i hi => Or.inl (by omega)⟩, by omega, below_sub b1 (below_sub b2 b3)⟩
  · rcases hi with hi | hi <;> omega
  · refine (hd.more fun i hi => ?_).below b3
    rcases hi with hi | hi
    · exact Or.inl hi
    · exact Or.inr (by omega)
  · constructor
    · intro h; cases h
    · rintro ⟨x, hx, _⟩; simp at hx
theorem Lp.next {w Y w' : World} {ops : List Od} {k : Nat} {s : Dk} {r : Rk} {o : Od} {e : Ending} (ho : ops[k]? = some o) (hn : s.n ≤ k) (ha : s.acts ≤ k) (hl : r.fs.length ≤ k) (bY : Below w.heap.size w Y) (h : DoR w.heap.size Y s r (bsN ops k + o.bs.length) e w') : ∃ d' g', e = .returned (.tuple #[.pointer (some ⟨d', 0, none⟩), .pointer (some ⟨g', 0, none⟩), .bool true]) ∧ Lp w ops (k + 1) d' g' w' := by
  obtain ⟨B', P', d', g', s', r', h1, h2, h3, h4, h5, h6, h7, h8⟩ := h
  have c1 := h4.n
  have c2 := h4.acts
  exact ⟨d', g', h1, ⟨B', P', s', r', h2, by rw [bsN_snoc ho]; exact h3, by omega, by omega, by omega, h6⟩, h7, bY.trans h8⟩
set_option maxRecDepth 100000 in
theorem plays_long (q0 : Option Addr) (k0 n0 : Nat) (w : World) (h : 300 < n0) :
    Calls Try.prog 3 #[.slice q0 n0 k0] w fun e w' => e = .returned (.bool true) ∧ Below w.heap.size w w' := by
  have hfx := Old.fixed_any w
  have hN := fun (W : World) => new_any W
  have j1 : (300 : Int) < (n0 : Int) := by omega
  go_enter Try.func3, Try.ntmps3
  go_wp2_with (first
    | (go_at_call 4; refine hfx.mono ?_; rintro e w1 ⟨rfl, b1⟩; have B1 := hide b1; clear b1)
    | (go_at_call 5; refine (hN w1).mono ?_; rintro e w2 ⟨rfl, d2, b2⟩; have B2 := hide (below_sub (unhide B1) b2); clear d2 b2))
  go_ret
  exact ⟨rfl, (unhide B2).alloc (unhide B2).size _⟩
set_option maxHeartbeats 8000000 in
set_option maxRecDepth 100000 in
theorem plays_law (q0 : Option Addr) (k0 : Nat) (ops : List Od) (w : World) (h0 : OpsOf w q0 k0 ops) (hnn : ∀ o ∈ ops, o.n ≤ 9223372036854775807) (hw : odsW ops ≤ 4000000) (hl : ops.length ≤ 300) :
    Calls Try.prog 3 #[.slice q0 ops.length k0] w fun e w' => e = .returned (.bool true) ∧ Below w.heap.size w w' := by
  have hfx := Old.fixed_any w
  have hN := fun (W : World) => new_any W
  have j1 : ¬ (300 : Int) < (ops.length : Int) := by omega
  have H0 := hide h0
  have HNN := hide hnn
  clear h0 hnn
  go_enter Try.func3, Try.ntmps3
  go_wp2_with (first
    | (go_at_call 4; refine hfx.mono ?_; rintro e w1 ⟨rfl, b1⟩; have B1 := hide b1; clear b1)
    | (go_at_call 5; refine (hN w1).mono ?_; rintro e w2 ⟨rfl, d2, b2⟩; have D2 := hide d2; have B2 := hide b2; clear d2 b2))
  have LP0 := hide (Lp.start (ops := ops) (unhide B1) (unhide D2) (unhide B2) ((Below.refl _ _).alloc (Nat.le_refl _) (.cells #[.slice none 0 0, .int .i64 0, .bool false, .int .i64 0, .int .i64 0] 29)) (heap_alloc_new _ _))
  go_loopw [3, 4, 5, 24] (fun v3 v4 v5 v24 wr => ∃ (k d g : Nat), k ≤ ops.length ∧ v24 = .int .i64 (k : Int) ∧ v3 = .pointer (some ⟨d, 0, none⟩) ∧ v4 = .pointer (some ⟨g, 0, none⟩) ∧ Hid (Lp w ops k d g wr)) (fun _ _ _ v24 _ => ops.length - (intOf v24).toNat)
  case atStart => exact ⟨0, _, _, Nat.zero_le _, rfl, rfl, rfl, LP0⟩
  case round =>
    obtain ⟨k, d, g, hkl, rfl, rfl, rfl, HL⟩ := hrel
    by_cases hlt : k < ops.length
    · obtain ⟨o, ho, _⟩ := get_at hlt
      obtain ⟨b, off, v, hq, hod, z0, z1, z2, z3, z4, z5, z6⟩ := (unhide H0).at ho (unhide HL).bel
      obtain ⟨⟨e1, e2, e3, e4, e5, e6, e7⟩, sb, si⟩ := hod
      have ki0 : (0 : Int) ≤ (k : Int) := by omega
      have ki1 : (k : Int) < (ops.length : Int) := by omega
      have hbl := bsN_le ops (k + 1)
      rw [bsN_snoc ho] at hbl
      have hil : o.is.length ≤ 4000000 := by
        have h1 := mem_odW (List.mem_of_getElem? ho)
        omega
      have hn9 : v.n ≤ 9223372036854775807 := by rw [e4]; exact unhide HNN o (List.mem_of_getElem? ho)
      obtain ⟨B, P, s, r, hj, hrel, hn, ha, hfl, hA⟩ := (unhide HL).ex
      have hge := (unhide HL).ge
      obtain ⟨Y, hY⟩ : ∃ Y, wr.alloc (.cells #[.int .i64 v.kind, .string v.nm, .string v.to, .slice v.pb o.bs.length v.cb, .int .i64 v.n, .int .i64 v.m, .slice v.pi o.is.length v.ci] 33) = Y := ⟨_, rfl⟩
      have bY : Below wr.heap.size wr Y := by rw [← hY]; exact (Below.refl _ _).alloc (Nat.le_refl _) _
      have kY : Y.heap[wr.heap.size]? = some (.cells #[.int .i64 v.kind, .string v.nm, .string v.to, .slice v.pb o.bs.length v.cb, .int .i64 v.n, .int .i64 v.m, .slice v.pi o.is.length v.ci] 33 (0, 0)) := by rw [← hY]; exact heap_alloc_new _ _
      have bwY := below_sub (unhide HL).bel bY
      have hdo := do_any (hj.below bY) hrel (by omega) (by omega) (by omega) (by omega) hA hge v.kind v.nm v.to v.pb v.cb o.bs v.n v.m v.pi v.ci o.is ((sl_in sb).kept bwY.size fun i hi _ => bwY.block i hi) ((sl_in si).kept bwY.size fun i hi _ => bwY.block i hi) (by omega) (by omega) hn9
      have hnx := fun (e : Ending) (w' : World) => Lp.next (e := e) (w' := w') ho hn ha hfl bwY
      have HNX := hide hnx
      have y0 : Y.cell? ⟨wr.heap.size, 0, none⟩ = some (.int .i64 v.kind) := (cell_of_block kY 0).trans rfl
      have y1 : Y.cell? ⟨wr.heap.size, 1, none⟩ = some (.string v.nm) := (cell_of_block kY 1).trans rfl
      have y2 : Y.cell? ⟨wr.heap.size, 2, none⟩ = some (.string v.to) := (cell_of_block kY 2).trans rfl
      have y3 : Y.cell? ⟨wr.heap.size, 3, none⟩ = some (.slice v.pb o.bs.length v.cb) := (cell_of_block kY 3).trans rfl
      have y4 : Y.cell? ⟨wr.heap.size, 4, none⟩ = some (.int .i64 v.n) := (cell_of_block kY 4).trans rfl
      have y5 : Y.cell? ⟨wr.heap.size, 5, none⟩ = some (.int .i64 v.m) := (cell_of_block kY 5).trans rfl
      have y6 : Y.cell? ⟨wr.heap.size, 6, none⟩ = some (.slice v.pi o.is.length v.ci) := (cell_of_block kY 6).trans rfl
      rw [e6] at z3
      rw [e7] at z6
      subst hq
      clear ho e1 e2 e3 e4 e5 e6 e7 sb si hbl hil hn9 hj hrel hn ha hfl hA hge bY kY bwY hnx
      go_wp2_with (go_at_call 6; refine hdo.mono ?_; rintro e w4 hE; obtain ⟨d', g', rfl, lp'⟩ := unhide HNX e w4 hE; have LP' := hide lp'; clear hE lp')
      go_roundw
      case rel => exact ⟨k + 1, d', g', by omega, by go_num, rfl, rfl, LP'⟩
      case measure => simp [intOf]; omega
    · obtain rfl : k = ops.length := by omega
      have ki1 : ¬ (ops.length : Int) < (ops.length : Int) := by omega
      go_wp2
      go_ret
      exact ⟨rfl, (unhide HL).bel⟩
end Go.Proofs.Ytonhagoeajhacaa

/- disk.grow: bytes behind a file's end. -/
import Derived.Test.YtonhagoeajhacaaPutC
namespace Go.Proofs.Ytonhagoeajhacaa
open Go.RowKit Go.Sort Go.Shelf

theorem own_block (q : Option Addr) (n c : Nat) : (Value.slice q n c).ownBlock = q.map (·.block) := by cases q <;> rfl
theorem wpList_appW {ops : Array Oper} {rest : List Oper} {o : Oper} {a : Act} {w : World} {Q : Exit → Act → World → Prop} (hgd : o.guard = none) (s x : Operand)
    (ho : o.op = .call { callee := .builtin .append, args := #[s, x], argTypes := #[30, 30] }) (B : Nat) (q : Option Addr) (cap : Nat) (l : List UInt8) (p : Option Addr) (c : Nat) (m : List UInt8) (n n' N : Nat) (hn : l.length = n) (hn' : m.length = n') (hN : n + n' = N)
    (es : a.eval s = .slice q n cap) (ex : a.eval x = .slice p n' c) (hown : OwnK encB 5 1 B w q cap l) (hs : SrcK encB 1 w p c m) (hm : N ≤ maxLen) (hb : N ≤ 140737488355328) (hB : B ≤ w.heap.size)
    (h : ∀ q' cap' w', OwnK encB 5 1 B w' q' cap' (l ++ m) → w.grownBy w' (q.map (·.block)) → (q'.map (·.block) = q.map (·.block) ∨ ∀ g, q'.map (·.block) = some g → w.heap.size ≤ g) → wpList Try.prog ops Q rest (a.put o.dst (.slice q' N cap')) w') : wpList Try.prog ops Q (o :: rest) a w := by
  subst hn hn' hN
  obtain ⟨i0, hi, hz0, hz1, hz2⟩ := info_parts Try.info5
  refine wpList_plain hgd fun K hK => ?_
  cases p with
  | none =>
    obtain ⟨h0, rfl⟩ := hs.1 rfl
    obtain rfl : m = [] := List.length_eq_zero_iff.1 h0
    have hr := run_append_owned_none (P := Try.prog) (w := w) B 30 o.type 5 i0 1 Try.underlying30 hi _ _ _ hown
    unfold Oper.wp execOp
    simp only [ho, resolve, invoke, builtin, Sem.run_bind, Sem.run_pure, Result.andThen_ok, List.map_toArray, List.map_cons, List.map_nil, List.length_nil, es, ex, hr]
    exact hK _ _ (h q cap w (by simpa using hown) (grown_refl _ _) (Or.inl rfl))
  | some ad =>
    obtain ⟨v', w', hr, ho2, hg, _, hat⟩ := run_append_own_at (P := Try.prog) w B 30 o.type 5 i0 (.int .u8 0) 1 1 Try.underlying30 hi hz0 hz1 hz2 rfl (by decide) _ _ _ hown ad m.length c (flatK encB 1 m.toArray).toList (by simp) (hs.2 ad rfl) (rowB.one m) hm (by omega) hB
    obtain ⟨q', cap', rfl, _⟩ := OwnK.shape ho2
    rw [own_block] at hg
    rw [own_block, own_block] at hat
    unfold Oper.wp execOp
    simp only [ho, resolve, invoke, builtin, Sem.run_bind, Sem.run_pure, Result.andThen_ok, List.map_toArray, List.map_cons, List.map_nil, es, ex, hr]
    refine hK _ _ (h q' cap' w' ?_ hg ?_)
    · unfold OwnK
      rw [flat_app encB 1 (by decide), List.length_append]
      exact ho2
    · rcases hat with h1 | h1
      · exact Or.inl h1
      · exact Or.inr fun g hg => by rw [h1] at hg; injection hg with hg; omega
/-- The file's row has grown; its box is written. -/
theorem refile_app {B : Nat → Prop} {w w1 : World} {g m : Nat} {s : Dk} {h : ByteArray → Nat} {q : ByteArray → Option Addr} {c : ByteArray → Nat} (hd : DkIn B w g s m h q c) {nm : ByteArray} {fl : Fl} (hf : s.get nm = some fl) {q' : Option Addr} {cap' : Nat} {data : List UInt8}
    (ho : OwnK encB 5 1 0 w1 q' cap' (fl.bytes ++ data)) (hg : w.grownBy w1 ((q nm).map (·.block))) (hat : q'.map (·.block) = (q nm).map (·.block) ∨ ∀ k, q'.map (·.block) = some k → w.heap.size ≤ k) (hB : Sub B w) :
    w1.heap[h nm]? = some (.cells #[.slice (q nm) fl.bytes.length (c nm), .int .i64 (fl.lasts : Int)] 67 (0, 0)) ∧ ∀ N, (fl.bytes ++ data).length = N →
      DkIn B (w1.setCell ⟨h nm, 0, none⟩ (.slice q' N cap')) g { s with get := upd s.get nm (some ⟨fl.bytes ++ data, fl.lasts⟩) } m h (upF q nm q') (upF c nm cap') ∧ Kpt B w (w1.setCell ⟨h nm, 0, none⟩ (.slice q' N cap')) := by
  have f0 := hd.file nm fl hf
  have hne : ∀ p, q nm = some p → p.block ≠ h nm := fun p hp e => by
    obtain ⟨cur, h1⟩ := own_cells f0.2.2.1 hp
    rw [e, f0.2.1] at h1
    injection h1 with h1; injection h1 with _ h1; cases h1
  have hb1 : w1.heap[h nm]? = w.heap[h nm]? := hg.block _ f0.lt (by
    intro e
    cases hq : q nm with
    | none => rw [hq] at e; cases e
    | some p => rw [hq] at e; injection e with e; exact hne p hq e.symm)
  have hbx := hb1.trans f0.2.1
  refine ⟨hbx, fun N hN => ?_⟩
  subst hN
  have hg2 := grown_set w1 (h nm) 0 (.slice q' (fl.bytes ++ data).length cap')
  have hb2 := heap_setCell_same w1 (h nm) 0 _ 67 (.slice q' (fl.bytes ++ data).length cap') hbx
  have hne' : ∀ p, q' = some p → p.block ≠ h nm := fun p hp e => by
    obtain ⟨cur, h1⟩ := own_cells ho hp
    rw [e, hbx] at h1
    injection h1 with h1; injection h1 with _ h1; cases h1
  have hoff : ∀ p, q' = some p → ¬ B p.block := fun p hp => by
    rw [hp] at hat
    rcases hat with h1 | h1
    · cases hq : q nm with
      | none => rw [hq] at h1; cases h1
      | some p0 => rw [hq] at h1; injection h1 with h1; simp only at h1; rw [h1]; exact f0.1.2 p0 hq
    · intro hb; have := hB _ hb; have := h1 _ rfl; simp only at this; omega
  refine ⟨hd.refile hf ?_ ⟨⟨f0.1.1, hoff⟩, hb2, own_other ho hg2 hne', by have := f0.2.2.2; simp; omega⟩ ?_, ?_⟩
  · intro i hi h1 h2
    refine (hg2.block i (Nat.lt_of_lt_of_le hi hg.size) (by intro e; injection e with e; exact h1 e)).trans (hg.block i hi ?_)
    intro e
    cases hq : q nm with
    | none => rw [hq] at e; cases e
    | some p => rw [hq] at e; injection e with e; exact h2 p hq e
  · intro p' hp'
    rw [hp'] at hat
    rcases hat with h1 | h1
    · cases hq : q nm with
      | none => rw [hq] at h1; cases h1
      | some p => rw [hq] at h1; injection h1 with h1; exact Or.inl ⟨p, rfl, h1.symm⟩
    · exact Or.inr (h1 _ rfl)
  · refine ⟨hg2.os.trans hg.os, hg2.tape.trans hg.tape, hg2.output.trans hg.output, Nat.le_trans hg.size hg2.size, fun i hi his => ?_⟩
    refine (hg2.block i (by have := hg.size; omega) (by intro e; injection e with e; exact f0.1.1 (e ▸ hi))).trans (hg.block i his ?_)
    intro e
    cases hq : q nm with
    | none => rw [hq] at e; cases e
    | some p => rw [hq] at e; injection e with e; simp only at e; exact f0.1.2 p hq (e ▸ hi)
set_option maxHeartbeats 1000000 in
set_option maxRecDepth 100000 in
theorem grow_old {B : Nat → Prop} {w : World} {g m : Nat} {s : Dk} {h : ByteArray → Nat} {q : ByteArray → Option Addr} {c : ByteArray → Nat} (hd : DkIn B w g s m h q c) (hB : Sub B w) {nm : ByteArray} (hs : nm.size ≤ 32) {fl : Fl} (hf : s.get nm = some fl) (p : Option Addr) (k : Nat) (data : List UInt8) (hdt : SlOf encB 1 w p k data) (hl : fl.bytes.length + data.length ≤ 140737488355328) :
    Calls Try.prog 30 #[.pointer (some ⟨g, 0, none⟩), .string nm, .slice p data.length k] w fun e w' => (∃ v, e = .returned v) ∧ DkAt B w' g { s with get := upd s.get nm (some ⟨fl.bytes ++ data, fl.lasts⟩) } ∧ Kpt B w w' := by
  have hlk := hd.map.look (nm := nm) (by unfold maxLen; omega)
  rw [hf] at hlk
  simp only [Option.map_some, ptr] at hlk
  obtain ⟨⟨c0, c1, c2, c3, c4⟩, _⟩ := cells5 hd.box
  have f0 := hd.file nm fl hf
  obtain ⟨⟨d0, d1⟩, _⟩ := cells2 f0.2.1
  have HO := hide f0.2.2.1
  have HS := hide hdt
  have hre := fun (q' : Option Addr) (cap' : Nat) (w1 : World) (ho : OwnK encB 5 1 0 w1 q' cap' (fl.bytes ++ data)) (hg : w.grownBy w1 ((q nm).map (·.block))) (hat : q'.map (·.block) = (q nm).map (·.block) ∨ ∀ k, q'.map (·.block) = some k → w.heap.size ≤ k) => refile_app hd hf ho hg hat hB
  obtain ⟨N, hN⟩ : ∃ N, fl.bytes.length + data.length = N := ⟨_, rfl⟩
  have hN2 : (fl.bytes ++ data).length = N := by rw [List.length_append, hN]
  have HN := hide hN
  have HN2 := hide hN2
  rw [hN] at hl
  have HR := hide hre
  clear hd f0 hdt hre hN hN2
  go_enter Try.func30, Try.ntmps30
  go_wp2_with (at_builtin; refine wpList_appW rfl _ _ rfl 0 (q nm) (c nm) fl.bytes p k data fl.bytes.length data.length N rfl rfl (unhide HN) rfl rfl (unhide HO) (unhide HS).src (by unfold maxLen; omega) (by omega) (Nat.zero_le _) ?_; intro q2 c2' w2 o2 g2 hat; obtain ⟨hbx, hend⟩ := unhide HR q2 c2' w2 o2 g2 hat; obtain ⟨⟨x0, x1⟩, z0, z1⟩ := cells2 hbx; have HE := hide (hend N (unhide HN2)); clear o2 g2 hat hbx hend)
  go_end0
  exact ⟨⟨_, rfl⟩, ⟨_, _, _, _, (unhide HE).1⟩, (unhide HE).2⟩
theorem upd_upd {α : Type} (f : ByteArray → Option α) (nm : ByteArray) (x y : Option α) : upd (upd f nm x) nm y = upd f nm y := by
  funext k
  by_cases e : k = nm
  · subst e; rw [upd_same, upd_same]
  · rw [upd_ne _ _ e, upd_ne _ _ e, upd_ne _ _ e]
/-- A slice stays while a map turns. -/
theorem sl_map {α : Type} [Inhabited α] {enc : α → List Value} {ek : Nat} (hek : 0 < ek) {w w' : World} {m : Nat} {es : Array MapEntry} {cl : Nat} {q : Option Addr} {c : Nat} {l : List α} (h : SlOf enc ek w q c l) (hm : w.heap[m]? = some (.map es cl)) (hg : w.grownBy w' (some m)) : SlOf enc ek w' q c l := by
  refine ⟨h.1, h.2.1, h.2.2.1, fun h0 => ?_⟩
  obtain ⟨b, off, hq, hb, hA⟩ := h.2.2.2 h0
  have hne : b ≠ m := fun e => by
    subst e
    obtain ⟨x, hx, _⟩ := get_at h0
    have h1 := hA _ _ (flat_at (enc := enc) (k := ek) hx 0 hek)
    unfold World.cell? at h1
    rw [hm] at h1
    cases h1
  have he := hg.block b hb (by intro e; injection e with e; exact hne e)
  exact ⟨b, off, hq, Nat.lt_of_lt_of_le hb hg.size, fun j u hj => (World.cell?_of_block (w := w) (a := ⟨b, off + j, none⟩) he).trans (hA j u hj)⟩
set_option maxHeartbeats 1000000 in
set_option maxRecDepth 100000 in
theorem grow_new {B : Nat → Prop} {w : World} {g m : Nat} {s : Dk} {h : ByteArray → Nat} {q : ByteArray → Option Addr} {c : ByteArray → Nat} (hd : DkIn B w g s m h q c) (hB : Sub B w) {nm : ByteArray} (hs : nm.size ≤ 32) (hf : s.get nm = none) (hn : s.n < maxLen) (p : Option Addr) (k : Nat) (data : List UInt8) (hdt : SlOf encB 1 w p k data) (hl : data.length ≤ 140737488355328) :
    Calls Try.prog 30 #[.pointer (some ⟨g, 0, none⟩), .string nm, .slice p data.length k] w fun e w' => (∃ v, e = .returned v) ∧ DkAt B w' g { s with get := upd s.get nm (some ⟨data, 0⟩), n := s.n + 1 } ∧ Kpt B w w' := by
  have hlk := hd.map.look (nm := nm) (by unfold maxLen; omega)
  rw [hf] at hlk
  simp only [Option.map_none, ptr] at hlk
  obtain ⟨⟨c0, c1, c2, c3, c4⟩, _⟩ := cells5 hd.box
  obtain ⟨Z, hZ⟩ : ∃ Z, w.alloc (.cells #[.slice none 0 0, .int .i64 0] 67) = Z := ⟨_, rfl⟩
  have bZ : Below w.heap.size w Z := by rw [← hZ]; exact (Below.refl _ _).alloc (Nat.le_refl _) _
  have kZ : Z.heap[w.heap.size]? = some (.cells #[.slice none 0 0, .int .i64 0] 67 (0, 0)) := by rw [← hZ]; exact heap_alloc_new _ _
  have hdZ := hd.below bZ
  have hpu := put_any hdZ.box hdZ.map hn nm hs w.heap.size
  have hend : ∀ w1 w2, Below Z.heap.size Z w1 → FM w2 m (s.n + 1) (upd (fun k => (s.get k).map fun _ => h k) nm (some w.heap.size)) → w1.grownBy w2 (some m) → DkIn B w2 g { s with get := upd s.get nm (some ⟨[], 0⟩), n := s.n + 1 } m (upF h nm w.heap.size) (upF q nm none) (upF c nm 0) ∧ Kpt B w w2 := fun w1 w2 h1 h2 h3 => by
    have hlt : w.heap.size < Z.heap.size := (Array.getElem?_eq_some_iff.1 kZ).1
    have hk1 := (h1.block _ hlt).trans kZ
    refine ⟨(hdZ.below h1).put h3 h2 (fl0 := ⟨[], 0⟩) (q0 := none) (c0 := 0) ⟨⟨fun hb => by have := hB _ hb; omega, fun p hp => by cases hp⟩, hk1, OwnK.nil _ _, Nat.le_refl _⟩ ?_, ?_⟩
    · intro k fl _ hk
      have := (hd.file k fl hk).lt
      exact ⟨by omega, fun p p' _ h => by cases h⟩
    · have h5 := below_sub bZ h1
      exact (Kpt.of (B := B) h5).trans (grown_le h3 hd.bm (Sub.trans hB h5.size))
  have HE := hide hend
  have HMZ := hide hdZ.map.is_map
  have HMlt := hide hdZ.map.lt
  have HS := hide (hdt.below bZ)
  clear hd hdZ hdt hend kZ bZ
  go_enter Try.func30, Try.ntmps30
  go_wp2_with (first
    | (go_at_call 36; refine hpu.mono ?_; rintro e w2 ⟨⟨v, rfl⟩, w1, b1, f2, g2⟩; have E := unhide HE w1 w2 b1 f2 g2; have f0 := E.1.file nm ⟨[], 0⟩ (upd_same _ _ _); rw [upF_same, upF_same, upF_same] at f0; obtain ⟨⟨x0, x1⟩, z0, z1⟩ := cells2 f0.2.1; have HO := hide f0.2.2.1; have HD := hide E.1; have HBw := hide E.2; obtain ⟨es, cl, hmm⟩ := unhide HMZ; have HS2 : Hid (SlOf encB 1 w2 p k data) := hide (sl_map (by decide) ((unhide HS).below b1) ((b1.block m (unhide HMlt)).trans hmm) g2); clear E f0 b1 f2 g2 hmm)
    | (at_builtin; refine wpList_appW rfl _ _ rfl 0 none 0 [] p k data 0 data.length data.length rfl rfl (by omega) rfl rfl (unhide HO) (unhide HS2).src (by unfold maxLen; omega) (by omega) (Nat.zero_le _) ?_; intro q3 c3' w3 o3 g3 hat; have R := refile_app (unhide HD) (upd_same _ _ _) (q' := q3) (cap' := c3') (data := data) (w1 := w3) o3 (by rw [upF_same]; exact g3) (by rw [upF_same]; exact hat) (Sub.trans hB (unhide HBw).size); obtain ⟨hbx, hend2⟩ := R; have hend3 := hend2 data.length rfl; rw [upF_same, upF_same, upF_same] at hbx; rw [upF_same] at hend3; obtain ⟨⟨y0, y1⟩, u0, u1⟩ := cells2 hbx; have HE3 := hide hend3; clear o3 g3 hat hbx hend2 hend3))
  go_end0
  have h9 := unhide HE3
  simp only [upd_upd, List.nil_append] at h9
  exact ⟨⟨_, rfl⟩, ⟨_, _, _, _, h9.1⟩, (unhide HBw).trans h9.2⟩
end Go.Proofs.Ytonhagoeajhacaa

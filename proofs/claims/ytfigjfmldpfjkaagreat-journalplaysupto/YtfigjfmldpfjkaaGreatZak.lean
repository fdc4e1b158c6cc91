/- The reference's disk: Sync. -/
import Derived.Test.YtfigjfmldpfjkaaGreatR6
import Derived.Test.YtfigjfmldpfjkaaGreatZai
import Derived.Test.YtfigjfmldpfjkaaGreatLA
import Derived.Test.YtfigjfmldpfjkaaGreatJ6
import Derived.Test.YtfigjfmldpfjkaaGreatZad
namespace Go.Proofs.YtfigjfmldpfjkaaGreat
open Go.RowKit Go.Sort Go.Shelf

set_option maxHeartbeats 2000000 in
set_option maxRecDepth 100000 in
theorem rsync_yes {P : Nat → Prop} {w : World} {g c : Nat} {r : Rk} {q : Option Addr} (h : RIn P w g r q c) (nm : ByteArray) (hl : r.fs.length ≤ 1000000) (hs : ∀ x ∈ r.fs, x.nm.size ≤ 32) (he : refE r nm nm true = 0) (h1 : r.named ≠ 1) (ha : r.acts ≤ 4611686018427387904) {i : Nat} {x : Rf} (hx : r.fs[i]? = some x) (hn : x.nm = nm) (hb : ∀ j y, j < i → r.fs[j]? = some y → y.nm ≠ nm) :
    Calls Tryz.prog 66 #[.pointer (some ⟨g, 0, none⟩), .string nm] w fun e w' => e = .returned (.int .i64 0) ∧ REnd P w g { spent r with fs := putR r.fs (lastR x) } w' := by
  subst hn
  have hact := act_yes h x.nm x.nm hl he h1 ha
  have hil : i < r.fs.length := (List.getElem?_eq_some_iff.1 hx).1
  have i0 : (0 : Int) ≤ (i : Int) := by omega
  have i1 : (i : Int) < (r.fs.length : Int) := by omega
  have hpf : ∀ W, RIn P W g (spent r) q c → Calls Tryz.prog 62 #[.pointer (some ⟨g, 0, none⟩), .agg #[.string x.nm, .slice x.p x.bs.length x.c, .int .i64 (x.bs.length : Int)]] W fun e w' => (∃ v, e = .returned v) ∧ (∃ q' c', RIn (fun i => P i ∨ W.heap.size ≤ i) w' g { spent r with fs := putR r.fs (lastR x) } q' c') ∧ W.grownBy w' (some g) := fun W hW => rput_any hW (lastR x) (hW.file x (List.mem_of_getElem? hx)) hl hs
  obtain ⟨r1, hr1⟩ : ∃ r1, spent r = r1 := ⟨_, rfl⟩
  obtain ⟨r2, hr2⟩ : ∃ r2, ({ spent r with fs := putR r.fs (lastR x) } : Rk) = r2 := ⟨_, rfl⟩
  have hfs : r1.fs = r.fs := by rw [← hr1]; rfl
  rw [hr2] at hpf ⊢
  rw [hr1] at hact hpf
  rw [← hfs] at hx hb hil i1 hl
  have HX := hide hx
  have HBB := hide hb
  have HH := hide h
  clear h hx hb he hr1 hr2 hfs hs
  go_enter Tryz.func66, Tryz.ntmps66
  go_wp2_with (first
    | (go_at_call 85; refine hact.mono ?_; rintro e w1 ⟨rfl, i1', g1⟩; have I1 := hide i1'; have G1 := hide g1; obtain ⟨⟨c0, c1, c2, c3, c4⟩, _⟩ := cells5 i1'.box; obtain ⟨b, off, hq, hbl, d0, d1, d2⟩ := fileAt i1'.row.1 (unhide HX); subst hq; have bZ : Below w1.heap.size w1 (w1.alloc (.cells #[.string x.nm, .slice x.p x.bs.length x.c, .int .i64 (x.bs.length : Int)] 105)) := (Below.refl _ _).alloc (Nat.le_refl _) _; have hput := hpf _ (i1'.below bZ); have BZ := hide bZ; clear i1' g1 bZ)
    | (go_at_call 61; refine (at_yes (unhide I1) x.nm (unhide HX) rfl (unhide HBB) (by omega)).mono ?_; rintro e w2 ⟨rfl, hw2⟩; obtain rfl := hw2.symm)
    | (go_at_call 62; refine hput.mono ?_; rintro e w3 ⟨⟨v, rfl⟩, ⟨q3, c3', i3⟩, g3⟩; have I3 := hide i3; have G3 := hide g3; clear i3 g3))
  go_ret
  refine ⟨rfl, REnd.mk (unhide HH) (unhide I3) (fun j hj => ?_) (grown_mid (unhide G1) (unhide BZ) (unhide G3))⟩
  rcases hj with hj | hj
  · exact Or.inl hj
  · exact Or.inr (Nat.le_trans (unhide G1).size (Nat.le_trans (unhide BZ).size hj))
end Go.Proofs.YtfigjfmldpfjkaaGreat
namespace Go.Proofs.YtfigjfmldpfjkaaGreat
open Go.RowKit Go.Sort Go.Shelf

def DkEnd (B : Nat → Prop) (w : World) (g : Nat) (s' : Dk) (w' : World) : Prop := DkAt B w' g s' ∧ Kpt B w w'
theorem DkEnd.same {B : Nat → Prop} {w w' : World} {g : Nat} {s : Dk} (hd : DkAt B w g s) (hb : Below w.heap.size w w') : DkEnd B w g s w' := ⟨hd.below hb, Kpt.of hb⟩
theorem app_det {B : Nat → Prop} {w : World} {g : Nat} {s : Dk} (hd : DkAt B w g s) (hB : Sub B w) (ha : s.acts ≤ 1000000) (hn : s.n ≤ 1000000) (hf : ∀ nm fl, s.get nm = some fl → fl.bytes.length ≤ 30000000000000) (nm : ByteArray) (p : Option Addr) (k : Nat) (data : List UInt8) (hdt : SlOf encB 1 w p k data) (hl : data.length ≤ 30000000000000) :
    Calls Tryz.prog 29 #[.pointer (some ⟨g, 0, none⟩), .string nm, .slice p data.length k] w fun e w' => e = .returned (.int .i64 (appE s nm)) ∧ DkEnd B w g (appS s nm data) w' := by
  have hsz : ∀ fl, s.get nm = some fl → fl.bytes.length + data.length ≤ 140737488355328 := fun fl h => by have := hf nm fl h; omega
  unfold appE appS
  by_cases h0 : ckE s.off [nm] = 0
  · obtain ⟨ho, hk⟩ := ck_0 h0
    by_cases h1 : s.named = 1
    · rw [if_pos h0, if_pos h0, if_pos h1, if_pos h1]
      exact append_down hd hB ho hk h1 (by unfold maxLen; omega) p k data hdt hsz (by omega)
    · rw [if_pos h0, if_pos h0, if_neg h1, if_neg h1]
      exact append_yes hd hB ho hk h1 (by omega) (by unfold maxLen; omega) p k data hdt hsz (by omega)
  · rw [if_neg h0, if_neg h0]
    refine (append_no hd h0 p k data.length).mono ?_
    rintro e w' ⟨rfl, hb⟩
    exact ⟨rfl, DkEnd.same hd hb⟩
theorem syn_det {B : Nat → Prop} {w : World} {g : Nat} {s : Dk} (hd : DkAt B w g s) (hB : Sub B w) (ha : s.acts ≤ 1000000) (nm : ByteArray) :
    Calls Tryz.prog 37 #[.pointer (some ⟨g, 0, none⟩), .string nm] w fun e w' => e = .returned (.int .i64 (synE s nm)) ∧ DkEnd B w g (synS s nm) w' := by
  unfold synE synS
  by_cases h0 : errE s nm = 0
  · obtain ⟨ho, hk, fl, hf⟩ := err_0 h0
    by_cases h1 : s.named = 1
    · rw [if_pos h0, if_pos h0, if_pos h1, if_pos h1]
      exact sync_down hd hB ho hk hf h1
    · rw [if_pos h0, if_pos h0, if_neg h1, if_neg h1, hf]
      exact sync_yes hd hB ho hk hf h1 (by omega)
  · rw [if_neg h0, if_neg h0]
    refine (sync_no hd h0).mono ?_
    rintro e w' ⟨rfl, hb⟩
    exact ⟨rfl, DkEnd.same hd hb⟩
theorem rem_det {B : Nat → Prop} {w : World} {g : Nat} {s : Dk} (hd : DkAt B w g s) (hB : Sub B w) (ha : s.acts ≤ 1000000) (nm : ByteArray) :
    Calls Tryz.prog 43 #[.pointer (some ⟨g, 0, none⟩), .string nm] w fun e w' => e = .returned (.int .i64 (synE s nm)) ∧ DkEnd B w g (remS s nm) w' := by
  unfold synE remS
  by_cases h0 : errE s nm = 0
  · obtain ⟨ho, hk, fl, hf⟩ := err_0 h0
    by_cases h1 : s.named = 1
    · rw [if_pos h0, if_pos h0, if_pos h1, if_pos h1]
      exact remove_down hd hB ho hk hf h1
    · rw [if_pos h0, if_pos h0, if_neg h1, if_neg h1]
      exact remove_yes hd hB ho hk hf h1 (by omega)
  · rw [if_neg h0, if_neg h0]
    refine (remove_no hd h0).mono ?_
    rintro e w' ⟨rfl, hb⟩
    exact ⟨rfl, DkEnd.same hd hb⟩
theorem ren_det {B : Nat → Prop} {w : World} {g : Nat} {s : Dk} (hd : DkAt B w g s) (hB : Sub B w) (ha : s.acts ≤ 1000000) (hn : s.n ≤ 1000000) (nm to : ByteArray) :
    Calls Tryz.prog 75 #[.pointer (some ⟨g, 0, none⟩), .string nm, .string to] w fun e w' => e = .returned (.int .i64 (renE s nm to)) ∧ DkEnd B w g (renS s nm to) w' := by
  unfold renE renS
  by_cases h0 : errR s nm to = 0
  · obtain ⟨ho, hk, hk2, fl, hf⟩ := errR_0 h0
    by_cases h1 : s.named = 1
    · rw [if_pos h0, if_pos h0, if_pos h1, if_pos h1]
      exact rename_down hd hB ho hk hk2 hf h1
    · rw [if_pos h0, if_pos h0, if_neg h1, if_neg h1, hf]
      exact rename_yes hd hB ho hk hk2 hf h1 (by omega) (by unfold maxLen; omega)
  · rw [if_neg h0, if_neg h0]
    by_cases h1 : ckE s.off [nm, to] = 0
    · have h2 : s.off = false ∧ nameOk nm = true ∧ nameOk to = true := by
        rw [ck_two] at h1
        cases ho : s.off <;> cases hk : nameOk nm <;> cases hk2 : nameOk to <;> simp [ho, hk, hk2] at h1 ⊢
      have h3 : s.get nm = none := by
        unfold errR at h0
        cases hf : s.get nm with
        | none => rfl
        | some fl => exfalso; apply h0; rw [h2.1, h2.2.1, h2.2.2, hf]; rfl
      have h4 : errR s nm to = 41 := by unfold errR; rw [h2.1, h2.2.1, h2.2.2, h3]; rfl
      rw [h4]
      refine (rename_no2 hd h2.1 h2.2.1 h2.2.2 h3).mono ?_
      rintro e w' ⟨rfl, hb⟩
      exact ⟨rfl, DkEnd.same hd hb⟩
    · have h4 : errR s nm to = ckE s.off [nm, to] := by
        rw [ck_two] at h1 ⊢
        unfold errR
        cases ho : s.off <;> cases hk : nameOk nm <;> cases hk2 : nameOk to <;> simp [ho, hk, hk2] at h1 ⊢
      rw [h4]
      refine (rename_no1 hd h1).mono ?_
      rintro e w' ⟨rfl, hb⟩
      exact ⟨rfl, DkEnd.same hd hb⟩
theorem arm_det {B : Nat → Prop} {w : World} {g : Nat} {s : Dk} (hd : DkAt B w g s) (hB : Sub B w) (n p : Int) (hn : n ≤ 9223372036854775807) :
    Calls Tryz.prog 10 #[.pointer (some ⟨g, 0, none⟩), .int .i64 n, .int .i64 p] w fun e w' => e = .returned (.int .i64 (armE s)) ∧ DkEnd B w g (armS s n p) w' := by
  unfold armE armS
  by_cases ho : s.off = true
  · rw [if_pos ho, if_pos ho]
    refine (arm_no hd n p ho).mono ?_
    rintro e w' ⟨rfl, rfl⟩
    exact ⟨rfl, DkEnd.same hd (Below.refl _ _)⟩
  · rw [if_neg ho, if_neg ho]
    exact arm_yes hd hB n p hn (by simpa using ho)
/-- The document's calls. -/
def RfEnd (P : Nat → Prop) (w : World) (g : Nat) (s' : Dk) (Z N : Nat) (w' : World) : Prop := ∃ r', Rel s' r' Z ∧ r'.fs.length ≤ N ∧ REnd P w g r' w'
theorem RfEnd.of {P : Nat → Prop} {w w' : World} {g : Nat} {r' : Rk} {s' : Dk} {Z N : Nat} (hE : REnd P w g r' w') (h : Rel s' r' Z) (hN : r'.fs.length ≤ N) : RfEnd P w g s' Z N w' := ⟨r', h, hN, hE⟩
def grF (o : Option Fl) (dt : List UInt8) : Fl := match o with
  | some fl => ⟨fl.bytes ++ dt, fl.lasts⟩
  | none => ⟨dt, 0⟩
theorem grow_get (s : Dk) (nm : ByteArray) (dt : List UInt8) : (growS s nm dt).get = upd s.get nm (some (grF (s.get nm) dt)) ∧ (growS s nm dt).acts = s.acts ∧ (growS s nm dt).off = s.off ∧ (growS s nm dt).named = s.named ∧ (growS s nm dt).part = s.part := by
  unfold growS grF
  cases s.get nm <;> exact ⟨rfl, rfl, rfl, rfl, rfl⟩
theorem grow_rel {s : Dk} {fs : List Rf} {Z d : Nat} (h : RelF s.get fs Z) {nm : ByteArray} (hk : nameOk nm = true) {dt : List UInt8} (hd : dt.length ≤ d) {f : Rf} (hn : f.nm = nm) (hf : flOf f = grF (s.get nm) dt) : RelF (growS s nm dt).get (putR fs f) (Z + d) := by
  rw [(grow_get s nm dt).1, ← hf, ← hn]
  refine (h.mono (Nat.le_add_right Z d)).put f ⟨by rw [hn]; exact hk, ?_⟩
  have e1 : f.bs = (grF (s.get nm) dt).bytes := congrArg Fl.bytes hf
  have e2 : f.la = (grF (s.get nm) dt).lasts := congrArg Fl.lasts hf
  rw [e1, e2]
  unfold grF
  cases hg : s.get nm with
  | none => exact ⟨Nat.zero_le _, by show dt.length ≤ _; omega⟩
  | some fl =>
    obtain ⟨_, o2, o3⟩ := h.fit hg
    exact ⟨by show fl.lasts ≤ (fl.bytes ++ dt).length; rw [List.length_append]; omega, by show (fl.bytes ++ dt).length ≤ _; rw [List.length_append]; omega⟩
theorem Rel.at {s : Dk} {r : Rk} {Z : Nat} (h : Rel s r Z) {nm : ByteArray} {fl : Fl} (hf : s.get nm = some fl) : ∃ (i : Nat) (x : Rf), r.fs[i]? = some x ∧ x.nm = nm ∧ (∀ (j : Nat) (y : Rf), j < i → r.fs[j]? = some y → y.nm ≠ nm) ∧ flOf x = fl := by
  obtain ⟨i, x, h1, h2, h3⟩ := has_yes (show hasN r.fs nm = true by rw [h.f.has nm, hf]; rfl)
  refine ⟨i, x, h1, h2, h3, ?_⟩
  have := (h.f.get nm (flOf x)).2 ⟨x, List.mem_of_getElem? h1, h2, rfl⟩
  rw [hf] at this
  injection this with this
  exact this.symm
theorem Rel.small {s : Dk} {r : Rk} {Z : Nat} (h : Rel s r Z) : ∀ x ∈ r.fs, x.nm.size ≤ 32 := fun x hx => name_size (h.f.ok x hx).1
theorem RfEnd.same {P : Nat → Prop} {w : World} {g c : Nat} {r : Rk} {q : Option Addr} {s : Dk} {Z Z' N : Nat} (h : RIn P w g r q c) (hr : Rel s r Z) (hz : Z ≤ Z') (hN : r.fs.length ≤ N) : RfEnd P w g s Z' N w := ⟨r, hr.mono hz, hN, REnd.refl h⟩
theorem take_min {dt : List UInt8} {a : Int} {m : Nat} (hm : min (max a 0) (dt.length : Int) = (m : Int)) : dt.take m = dt.take (max a 0).toNat := by
  rw [List.take_eq_take_min, show m = min (max a 0).toNat dt.length by omega]
  conv => rhs; rw [List.take_eq_take_min]
  congr 1
  omega
theorem rapp_det {P : Nat → Prop} {w : World} {g c : Nat} {r : Rk} {q : Option Addr} {s : Dk} {Z : Nat} (h : RIn P w g r q c) (hr : Rel s r Z) (hl : r.fs.length ≤ 1000) (ha : s.acts ≤ 1000000) (hZ : Z ≤ 30000000000000) (nm : ByteArray) (p : Option Addr) (k : Nat) (data : List UInt8) (hd : SlOf encB 1 w p k data) (hpg : 0 < data.length → ∀ a, p = some a → a.block ≠ g) (hdl : data.length ≤ 30000000000000) :
    Calls Tryz.prog 30 #[.pointer (some ⟨g, 0, none⟩), .string nm, .slice p data.length k] w fun e w' => e = .returned (.int .i64 (appE s nm)) ∧ RfEnd P w g (appS s nm data) (Z + data.length) (r.fs.length + 1) w' := by
  have hac : r.acts ≤ 4611686018427387904 := by rw [hr.acts]; omega
  unfold appE appS
  by_cases h0 : ckE s.off [nm] = 0
  · obtain ⟨ho, hk⟩ := ck_0 h0
    obtain ⟨pn, pp⟩ := hr.pw ho
    have he : refE r nm nm false = 0 := by rw [hr.ck, h0]
    by_cases h1 : s.named = 1
    · rw [if_pos h0, if_pos h0, if_pos h1, if_pos h1]
      obtain ⟨m, hm⟩ : ∃ m : Nat, min (max r.part 0) (data.length : Int) = (m : Int) := ⟨(min (max r.part 0) (data.length : Int)).toNat, by omega⟩
      have hmt : data.take m = data.take (max s.part 0).toNat := by rw [← pp]; exact take_min hm
      have hml : (data.take m).length ≤ data.length := by rw [List.length_take]; omega
      cases hf : s.get nm with
      | some fl =>
        obtain ⟨i, x, hx, hn, hb, hfl⟩ := hr.at hf
        refine (rappend_down h nm p k data hd hpg (by omega) hr.small he (by rw [pn]; exact h1) hdl hx hn hb (by have := (hr.f.ok x (List.mem_of_getElem? hx)).2.2; omega) m hm).mono ?_
        rintro e w' ⟨rfl, q5, c5, hE⟩
        obtain ⟨_, g2, g3, g4, g5⟩ := grow_get { s with off := true } nm (data.take m)
        rw [← hmt]
        refine ⟨rfl, RfEnd.of hE ⟨?_, ?_, ?_, ?_⟩ (len_put _ _)⟩
        · refine grow_rel (s := { s with off := true }) hr.f hk hml hn ?_
          show (⟨x.bs ++ data.take m, x.la⟩ : Fl) = grF (s.get nm) _; rw [hf, ← hfl]; rfl
        · rw [g2]; exact hr.acts
        · rw [g3]
        · rw [g3]; intro e; cases e
      | none =>
        have hnone : ∀ y ∈ r.fs, y.nm ≠ nm := has_no (by rw [hr.f.has nm, hf]; rfl)
        refine (rappend_newdown h nm p k data hd hpg (by omega) hr.small he (by rw [pn]; exact h1) hdl hnone m hm).mono ?_
        rintro e w' ⟨rfl, q5, c5, hE⟩
        obtain ⟨_, g2, g3, g4, g5⟩ := grow_get { s with off := true } nm (data.take m)
        rw [← hmt]
        refine ⟨rfl, RfEnd.of hE ⟨?_, ?_, ?_, ?_⟩ (len_put _ _)⟩
        · refine grow_rel (s := { s with off := true }) hr.f hk hml rfl ?_
          show (⟨data.take m, 0⟩ : Fl) = grF (s.get nm) _; rw [hf]; rfl
        · rw [g2]; exact hr.acts
        · rw [g3]
        · rw [g3]; intro e; cases e
    · rw [if_pos h0, if_pos h0, if_neg h1, if_neg h1]
      obtain ⟨_, g2, g3, g4, g5⟩ := grow_get { s with named := s.named - 1, acts := s.acts + 1 } nm data
      cases hf : s.get nm with
      | some fl =>
        obtain ⟨i, x, hx, hn, hb, hfl⟩ := hr.at hf
        refine (rappend_yes h nm p k data hd hpg (by omega) hr.small he (by rw [pn]; exact h1) hac hdl hx hn hb (by have := (hr.f.ok x (List.mem_of_getElem? hx)).2.2; omega)).mono ?_
        rintro e w' ⟨rfl, q5, c5, hE⟩
        refine ⟨rfl, RfEnd.of hE ⟨?_, ?_, ?_, ?_⟩ (len_put _ _)⟩
        · refine grow_rel (s := { s with named := s.named - 1, acts := s.acts + 1 }) hr.f hk (Nat.le_refl _) hn ?_
          show (⟨x.bs ++ data, x.la⟩ : Fl) = grF (s.get nm) _; rw [hf, ← hfl]; rfl
        · rw [g2]; show r.acts + 1 = s.acts + 1; rw [hr.acts]
        · rw [g3]; exact hr.off
        · rw [g4, g5]; intro _; exact ⟨by show r.named - 1 = s.named - 1; rw [pn], pp⟩
      | none =>
        have hnone : ∀ y ∈ r.fs, y.nm ≠ nm := has_no (by rw [hr.f.has nm, hf]; rfl)
        refine (rappend_new h nm p k data hd hpg (by omega) hr.small he (by rw [pn]; exact h1) hac hdl hnone).mono ?_
        rintro e w' ⟨rfl, q5, c5, hE⟩
        refine ⟨rfl, RfEnd.of hE ⟨?_, ?_, ?_, ?_⟩ (len_put _ _)⟩
        · refine grow_rel (s := { s with named := s.named - 1, acts := s.acts + 1 }) hr.f hk (Nat.le_refl _) rfl ?_
          show (⟨data, 0⟩ : Fl) = grF (s.get nm) _; rw [hf]; rfl
        · rw [g2]; show r.acts + 1 = s.acts + 1; rw [hr.acts]
        · rw [g3]; exact hr.off
        · rw [g4, g5]; intro _; exact ⟨by show r.named - 1 = s.named - 1; rw [pn], pp⟩
  · rw [if_neg h0, if_neg h0]
    refine (rappend_no h nm p k data.length (by omega) (by rw [hr.ck]; exact h0)).mono ?_
    rintro e w' ⟨rfl, rfl⟩
    exact ⟨by rw [hr.ck], RfEnd.same h hr (Nat.le_add_right _ _) (Nat.le_succ _)⟩
theorem rsyn_det {P : Nat → Prop} {w : World} {g c : Nat} {r : Rk} {q : Option Addr} {s : Dk} {Z : Nat} (h : RIn P w g r q c) (hr : Rel s r Z) (hl : r.fs.length ≤ 1000) (ha : s.acts ≤ 1000000) (nm : ByteArray) :
    Calls Tryz.prog 66 #[.pointer (some ⟨g, 0, none⟩), .string nm] w fun e w' => e = .returned (.int .i64 (synE s nm)) ∧ RfEnd P w g (synS s nm) Z (r.fs.length + 1) w' := by
  have hac : r.acts ≤ 4611686018427387904 := by rw [hr.acts]; omega
  unfold synE synS
  by_cases h0 : errE s nm = 0
  · obtain ⟨ho, hk, fl, hf⟩ := err_0 h0
    obtain ⟨pn, pp⟩ := hr.pw ho
    have he : refE r nm nm true = 0 := by rw [hr.err, h0]
    by_cases h1 : s.named = 1
    · rw [if_pos h0, if_pos h0, if_pos h1, if_pos h1]
      refine (rsync_down h nm (by omega) he (by rw [pn]; exact h1)).mono ?_
      rintro e w' ⟨rfl, hE⟩
      exact ⟨rfl, RfEnd.of hE ⟨hr.f, hr.acts, rfl, fun e => by cases e⟩ (Nat.le_succ _)⟩
    · rw [if_pos h0, if_pos h0, if_neg h1, if_neg h1, hf]
      obtain ⟨i, x, hx, hn, hb, hfl⟩ := hr.at hf
      obtain ⟨o1, o2, o3⟩ := hr.f.ok x (List.mem_of_getElem? hx)
      refine (rsync_yes h nm (by omega) hr.small he (by rw [pn]; exact h1) hac hx hn hb).mono ?_
      rintro e w' ⟨rfl, hE⟩
      refine ⟨rfl, RfEnd.of hE ⟨?_, by show r.acts + 1 = s.acts + 1; rw [hr.acts], hr.off, fun _ => ⟨by show r.named - 1 = s.named - 1; rw [pn], pp⟩⟩ (len_put _ _)⟩
      have := hr.f.put (lastR x) ⟨o1, Nat.le_refl _, o3⟩
      rw [show (lastR x).nm = nm from hn, show flOf (lastR x) = lastF fl by rw [← hfl]; rfl] at this
      exact this
  · rw [if_neg h0, if_neg h0]
    refine (rsync_no h nm (by omega) (by rw [hr.err]; exact h0)).mono ?_
    rintro e w' ⟨rfl, rfl⟩
    exact ⟨by rw [hr.err], RfEnd.same h hr (Nat.le_refl _) (Nat.le_succ _)⟩
theorem rrem_det {P : Nat → Prop} {w : World} {g c : Nat} {r : Rk} {q : Option Addr} {s : Dk} {Z : Nat} (h : RIn P w g r q c) (hr : Rel s r Z) (hl : r.fs.length ≤ 1000) (ha : s.acts ≤ 1000000) (nm : ByteArray) :
    Calls Tryz.prog 48 #[.pointer (some ⟨g, 0, none⟩), .string nm] w fun e w' => e = .returned (.int .i64 (synE s nm)) ∧ RfEnd P w g (remS s nm) Z (r.fs.length + 1) w' := by
  have hac : r.acts ≤ 4611686018427387904 := by rw [hr.acts]; omega
  unfold synE remS
  by_cases h0 : errE s nm = 0
  · obtain ⟨ho, hk, fl, hf⟩ := err_0 h0
    obtain ⟨pn, pp⟩ := hr.pw ho
    have he : refE r nm nm true = 0 := by rw [hr.err, h0]
    by_cases h1 : s.named = 1
    · rw [if_pos h0, if_pos h0, if_pos h1, if_pos h1]
      refine (rremove_down h nm (by omega) he (by rw [pn]; exact h1)).mono ?_
      rintro e w' ⟨rfl, hE⟩
      exact ⟨rfl, RfEnd.of hE ⟨hr.f, hr.acts, rfl, fun e => by cases e⟩ (Nat.le_succ _)⟩
    · rw [if_pos h0, if_pos h0, if_neg h1, if_neg h1]
      refine (rremove_yes h nm (by omega) he (by rw [pn]; exact h1) hac).mono ?_
      rintro e w' ⟨rfl, hE⟩
      exact ⟨rfl, RfEnd.of hE ⟨hr.f.drop nm, by show r.acts + 1 = s.acts + 1; rw [hr.acts], hr.off, fun _ => ⟨by show r.named - 1 = s.named - 1; rw [pn], pp⟩⟩ (Nat.le_succ_of_le (drop_len _ _))⟩
  · rw [if_neg h0, if_neg h0]
    refine (rremove_no h nm (by omega) (by rw [hr.err]; exact h0)).mono ?_
    rintro e w' ⟨rfl, rfl⟩
    exact ⟨by rw [hr.err], RfEnd.same h hr (Nat.le_refl _) (Nat.le_succ _)⟩
theorem rren_det {P : Nat → Prop} {w : World} {g c : Nat} {r : Rk} {q : Option Addr} {s : Dk} {Z : Nat} (h : RIn P w g r q c) (hr : Rel s r Z) (hl : r.fs.length ≤ 1000) (ha : s.acts ≤ 1000000) (nm to : ByteArray) :
    Calls Tryz.prog 91 #[.pointer (some ⟨g, 0, none⟩), .string nm, .string to] w fun e w' => e = .returned (.int .i64 (renE s nm to)) ∧ RfEnd P w g (renS s nm to) Z (r.fs.length + 1) w' := by
  have hac : r.acts ≤ 4611686018427387904 := by rw [hr.acts]; omega
  unfold renE renS
  by_cases h0 : errR s nm to = 0
  · obtain ⟨ho, hk, hk2, fl, hf⟩ := errR_0 h0
    obtain ⟨pn, pp⟩ := hr.pw ho
    have he : refE r nm to true = 0 := by rw [hr.ren, h0]
    by_cases h1 : s.named = 1
    · rw [if_pos h0, if_pos h0, if_pos h1, if_pos h1]
      refine (rrename_down h nm to (by omega) he (by rw [pn]; exact h1)).mono ?_
      rintro e w' ⟨rfl, hE⟩
      exact ⟨rfl, RfEnd.of hE ⟨hr.f, hr.acts, rfl, fun e => by cases e⟩ (Nat.le_succ _)⟩
    · rw [if_pos h0, if_pos h0, if_neg h1, if_neg h1, hf]
      obtain ⟨i, x, hx, hn, hb, hfl⟩ := hr.at hf
      obtain ⟨o1, o2, o3⟩ := hr.f.ok x (List.mem_of_getElem? hx)
      refine (rrename_yes h nm to (by omega) hr.small he (by rw [pn]; exact h1) hac hx hn hb).mono ?_
      rintro e w' ⟨rfl, hE⟩
      refine ⟨rfl, RfEnd.of hE ⟨?_, by show r.acts + 1 = s.acts + 1; rw [hr.acts], hr.off, fun _ => ⟨by show r.named - 1 = s.named - 1; rw [pn], pp⟩⟩ (Nat.le_trans (len_put _ _) (Nat.succ_le_succ (drop_len _ _)))⟩
      have := (hr.f.drop nm).put { x with nm := to } ⟨hk2, o2, o3⟩
      rw [show flOf { x with nm := to } = fl by rw [← hfl]; rfl] at this
      exact this
  · rw [if_neg h0, if_neg h0]
    refine (rrename_no h nm to (by omega) (by rw [hr.ren]; exact h0)).mono ?_
    rintro e w' ⟨rfl, rfl⟩
    exact ⟨by rw [hr.ren], RfEnd.same h hr (Nat.le_refl _) (Nat.le_succ _)⟩
theorem rarm_det {P : Nat → Prop} {w : World} {g c : Nat} {r : Rk} {q : Option Addr} {s : Dk} {Z : Nat} (h : RIn P w g r q c) (hr : Rel s r Z) (n p : Int) (hn : n ≤ 9223372036854775807) :
    Calls Tryz.prog 27 #[.pointer (some ⟨g, 0, none⟩), .int .i64 n, .int .i64 p] w fun e w' => e = .returned (.int .i64 (armE s)) ∧ RfEnd P w g (armS s n p) Z (r.fs.length + 1) w' := by
  unfold armE armS
  by_cases ho : s.off = true
  · rw [if_pos ho, if_pos ho]
    refine (rarm_no h n p (by rw [hr.off]; exact ho)).mono ?_
    rintro e w' ⟨rfl, rfl⟩
    exact ⟨rfl, RfEnd.same h hr (Nat.le_refl _) (Nat.le_succ _)⟩
  · rw [if_neg ho, if_neg ho]
    refine (rarm_yes h n p hn (by rw [hr.off]; simpa using ho)).mono ?_
    rintro e w' ⟨rfl, h2, hg⟩
    exact ⟨rfl, RfEnd.of (REnd.same h h2 hg) ⟨hr.f, hr.acts, hr.off, fun _ => ⟨rfl, rfl⟩⟩ (Nat.le_succ _)⟩
end Go.Proofs.YtfigjfmldpfjkaaGreat
namespace Go.Proofs.YtfigjfmldpfjkaaGreat
open Go.RowKit Go.Sort Go.Shelf

def RelJ (s : JS) (r : Rk) (Z : Nat) : Prop := Rel (s.dk 0) r Z
theorem rel_n {s s' : Dk} {r : Rk} {Z : Nat} (h : Rel s r Z) (hg : s'.get = s.get) (ha : s'.acts = s.acts) (ho : s'.off = s.off) (hn : s'.named = s.named) (hp : s'.part = s.part) : Rel s' r Z := ⟨by rw [hg]; exact h.f, by rw [ha]; exact h.acts, by rw [ho]; exact h.off, by rw [ho, hn, hp]; exact h.pw⟩
theorem dk_rel {s : JS} {n : Nat} {r : Rk} {Z : Nat} (h : Rel (s.dk n) r Z) : RelJ s r Z := rel_n h rfl rfl rfl rfl rfl
theorem rel_tight {s : JS} {r : Rk} {Z Z' : Nat} (h : RelJ s r Z) (h1 : szO s.j ≤ Z') (h2 : szO s.f ≤ Z') : RelJ s r Z' := by
  refine ⟨⟨h.f.get, h.f.srt, fun x hx => ?_⟩, h.acts, h.off, h.pw⟩
  obtain ⟨o1, o2, _⟩ := h.f.ok x hx
  refine ⟨o1, o2, ?_⟩
  have hg : s.get x.nm = some (flOf x) := (h.f.get _ _).2 ⟨x, hx, rfl, rfl⟩
  by_cases e1 : x.nm = nJ
  · rw [e1, JS.get_J] at hg; rw [hg] at h1; exact h1
  · by_cases e2 : x.nm = nR
    · rw [e2, JS.get_R] at hg; rw [hg] at h2; exact h2
    · rw [JS.get_no s e1 e2] at hg; cases hg
theorem len2 {s : JS} {r : Rk} {Z : Nat} (h : RelJ s r Z) : r.fs.length ≤ 2 := by
  have h1 := names_unique (names_js s) h.f.names
  have h2 := congrArg List.length h1
  rw [List.length_map, List.length_append] at h2
  rw [← h2]
  cases s.f.isSome <;> cases s.j.isSome <;> decide
def RfJ (P : Nat → Prop) (w : World) (g : Nat) (s' : JS) (Z : Nat) (w' : World) : Prop := ∃ r', RelJ s' r' Z ∧ REnd P w g r' w'
theorem RfJ.of {P : Nat → Prop} {w w' : World} {g : Nat} {d : Dk} {s' : JS} {Z N n : Nat} (h : RfEnd P w g d Z N w') (hd : d = s'.dk n) : RfJ P w g s' Z w' := by
  obtain ⟨r', h1, _, h3⟩ := h
  rw [hd] at h1
  exact ⟨r', dk_rel h1, h3⟩
theorem ckJ (o : Bool) : ckE o [nJ] = if o then 40 else 0 := by rw [ck_one, okJ]; cases o <;> rfl
theorem ckR (o : Bool) : ckE o [nR] = if o then 40 else 0 := by rw [ck_one, okR]; cases o <;> rfl
theorem appJ_E (s : JS) (data : List UInt8) : appE (s.dk 0) nJ = (appJ s data).1 := by
  unfold appE
  show (if ckE s.off [nJ] = 0 then (if s.named = 1 then 40 else 0) else ckE s.off [nJ]) = _
  rw [ckJ]
  cases ho : s.off with
  | true => rw [appJ_off ho]; rfl
  | false =>
    by_cases h1 : s.named = 1
    · rw [appJ_down ho h1, if_pos h1]; rfl
    · rw [appJ_yes ho h1, if_neg h1]; rfl
theorem appJ_S (s : JS) (data : List UInt8) : ∃ n, appS (s.dk 0) nJ data = (appJ s data).2.dk n := by
  unfold appS
  show ∃ n, (if ckE s.off [nJ] = 0 then (if s.named = 1 then growS { s.dk 0 with off := true } nJ (data.take (max s.part 0).toNat) else growS { s.dk 0 with named := s.named - 1, acts := s.acts + 1 } nJ data) else s.dk 0) = _
  rw [ckJ]
  cases ho : s.off with
  | true => rw [appJ_off ho]; exact ⟨0, rfl⟩
  | false =>
    rw [if_pos (show (if false = true then (40 : Int) else 0) = 0 from rfl)]
    by_cases h1 : s.named = 1
    · rw [appJ_down ho h1, if_pos h1]
      obtain ⟨n, _, h2⟩ := growS_J s.down 0 (data.take (max s.part 0).toNat)
      exact ⟨n, h2⟩
    · rw [appJ_yes ho h1, if_neg h1]
      obtain ⟨n, _, h2⟩ := growS_J s.act 0 data
      refine ⟨n, Eq.trans ?_ h2⟩
      show growS ⟨s.get, 0, s.acts + 1, s.off, s.named - 1, s.part⟩ nJ data = growS ⟨s.get, 0, s.acts + 1, s.off, s.named - 1, s.part⟩ nJ data
      rfl
theorem appR_E (s : JS) (data : List UInt8) : appE (s.dk 0) nR = (appR s data).1 := by
  unfold appE
  show (if ckE s.off [nR] = 0 then (if s.named = 1 then 40 else 0) else ckE s.off [nR]) = _
  rw [ckR]
  cases ho : s.off with
  | true => rw [appR_off ho]; rfl
  | false =>
    by_cases h1 : s.named = 1
    · rw [appR_down ho h1, if_pos h1]; rfl
    · rw [appR_yes ho h1, if_neg h1]; rfl
theorem appR_S (s : JS) (data : List UInt8) : ∃ n, appS (s.dk 0) nR data = (appR s data).2.dk n := by
  unfold appS
  show ∃ n, (if ckE s.off [nR] = 0 then (if s.named = 1 then growS { s.dk 0 with off := true } nR (data.take (max s.part 0).toNat) else growS { s.dk 0 with named := s.named - 1, acts := s.acts + 1 } nR data) else s.dk 0) = _
  rw [ckR]
  cases ho : s.off with
  | true => rw [appR_off ho]; exact ⟨0, rfl⟩
  | false =>
    rw [if_pos (show (if false = true then (40 : Int) else 0) = 0 from rfl)]
    by_cases h1 : s.named = 1
    · rw [appR_down ho h1, if_pos h1]
      obtain ⟨n, _, h2⟩ := growS_R s.down 0 (data.take (max s.part 0).toNat)
      exact ⟨n, h2⟩
    · rw [appR_yes ho h1, if_neg h1]
      obtain ⟨n, _, h2⟩ := growS_R s.act 0 data
      exact ⟨n, h2⟩
theorem errJ (s : JS) : errE (s.dk 0) nJ = if s.off then 40 else if s.j.isSome then 0 else 41 := by
  unfold errE
  show (if s.off then 40 else if nameOk nJ then (if (s.get nJ).isSome then 0 else 41) else 1) = _
  rw [okJ, JS.get_J]; rfl
theorem errRr (s : JS) : errE (s.dk 0) nR = if s.off then 40 else if s.f.isSome then 0 else 41 := by
  unfold errE
  show (if s.off then 40 else if nameOk nR then (if (s.get nR).isSome then 0 else 41) else 1) = _
  rw [okR, JS.get_R]; rfl
theorem synJ_ES (s : JS) : synE (s.dk 0) nJ = (synJ s).1 ∧ synS (s.dk 0) nJ = (synJ s).2.dk 0 := by
  unfold synE synS
  rw [errJ]
  cases ho : s.off with
  | true => rw [synJ_off ho]; exact ⟨rfl, rfl⟩
  | false =>
    cases hf : s.j with
    | none => rw [synJ_no ho hf]; exact ⟨rfl, rfl⟩
    | some fl =>
      show (if (0 : Int) = 0 then (if s.named = 1 then 40 else 0) else 0) = _ ∧ (if (0 : Int) = 0 then (if s.named = 1 then ({ s.dk 0 with off := true } : Dk) else { s.dk 0 with get := upd s.get nJ ((s.get nJ).map lastF), named := s.named - 1, acts := s.acts + 1 }) else s.dk 0) = _
      rw [if_pos rfl, if_pos rfl, JS.get_J, hf]
      by_cases h1 : s.named = 1
      · rw [synJ_down ho hf h1, if_pos h1, if_pos h1]; exact ⟨rfl, rfl⟩
      · rw [synJ_yes ho hf h1, if_neg h1, if_neg h1]
        refine ⟨rfl, ?_⟩
        show (⟨upd s.get nJ (some (lastF fl)), 0, s.acts + 1, s.off, s.named - 1, s.part⟩ : Dk) = ⟨_, 0, s.acts + 1, s.off, s.named - 1, s.part⟩
        rw [upd_J]; rfl
theorem synR_ES (s : JS) : synE (s.dk 0) nR = (synR s).1 ∧ synS (s.dk 0) nR = (synR s).2.dk 0 := by
  unfold synE synS
  rw [errRr]
  cases ho : s.off with
  | true => rw [synR_off ho]; exact ⟨rfl, rfl⟩
  | false =>
    cases hf : s.f with
    | none => rw [synR_no ho hf]; exact ⟨rfl, rfl⟩
    | some fl =>
      show (if (0 : Int) = 0 then (if s.named = 1 then 40 else 0) else 0) = _ ∧ (if (0 : Int) = 0 then (if s.named = 1 then ({ s.dk 0 with off := true } : Dk) else { s.dk 0 with get := upd s.get nR ((s.get nR).map lastF), named := s.named - 1, acts := s.acts + 1 }) else s.dk 0) = _
      rw [if_pos rfl, if_pos rfl, JS.get_R, hf]
      by_cases h1 : s.named = 1
      · rw [synR_down ho hf h1, if_pos h1, if_pos h1]; exact ⟨rfl, rfl⟩
      · rw [synR_yes ho hf h1, if_neg h1, if_neg h1]
        refine ⟨rfl, ?_⟩
        show (⟨upd s.get nR (some (lastF fl)), 0, s.acts + 1, s.off, s.named - 1, s.part⟩ : Dk) = ⟨_, 0, s.acts + 1, s.off, s.named - 1, s.part⟩
        rw [upd_R]; rfl
theorem remR_ES {s : JS} {fl : Fl} (ho : s.off = false) (hf : s.f = some fl) : synE (s.dk 0) nR = (remR s).1 ∧ remS (s.dk 0) nR = (remR s).2.dk 0 := by
  unfold synE remS
  rw [errRr, ho, hf]
  show (if (0 : Int) = 0 then (if s.named = 1 then 40 else 0) else 0) = _ ∧ (if (0 : Int) = 0 then (if s.named = 1 then ({ s.dk 0 with off := true } : Dk) else { s.dk 0 with get := upd s.get nR none, named := s.named - 1, acts := s.acts + 1 }) else s.dk 0) = _
  rw [if_pos rfl, if_pos rfl]
  by_cases h1 : s.named = 1
  · rw [remR_down ho hf h1, if_pos h1, if_pos h1]; exact ⟨rfl, rfl⟩
  · rw [remR_yes ho hf h1, if_neg h1, if_neg h1]
    refine ⟨rfl, ?_⟩
    show (⟨upd s.get nR none, 0, s.acts + 1, s.off, s.named - 1, s.part⟩ : Dk) = ⟨_, 0, s.acts + 1, s.off, s.named - 1, s.part⟩
    rw [upd_R]; rfl
theorem renM_E (s : JS) : errR (s.dk 0) nR nJ = if s.off then 40 else if s.f.isSome then 0 else 41 := by
  unfold errR
  show (if s.off then 40 else if nameOk nR && nameOk nJ then (if (s.get nR).isSome then 0 else 41) else 1) = _
  rw [okR, okJ, JS.get_R]; rfl
theorem renM_ES (s : JS) : renE (s.dk 0) nR nJ = (renM s).1 ∧ ∃ n, renS (s.dk 0) nR nJ = (renM s).2.dk n := by
  unfold renE renS
  rw [renM_E]
  cases ho : s.off with
  | true => rw [renM_off ho]; exact ⟨rfl, 0, rfl⟩
  | false =>
    cases hf : s.f with
    | none => rw [renM_no ho hf]; exact ⟨rfl, 0, rfl⟩
    | some fl =>
      show (if (0 : Int) = 0 then (if s.named = 1 then 40 else 0) else 0) = _ ∧ ∃ n, (if (0 : Int) = 0 then (if s.named = 1 then ({ s.dk 0 with off := true } : Dk) else { s.dk 0 with get := upd (upd s.get nR none) nJ (s.get nR), n := 0 + 1, named := s.named - 1, acts := s.acts + 1 }) else s.dk 0) = _
      rw [if_pos rfl, if_pos rfl, JS.get_R, hf]
      by_cases h1 : s.named = 1
      · rw [renM_down ho hf h1, if_pos h1, if_pos h1]; exact ⟨rfl, 0, rfl⟩
      · rw [renM_yes ho hf h1, if_neg h1, if_neg h1]
        refine ⟨rfl, 1, ?_⟩
        show (⟨upd (upd s.get nR none) nJ (some fl), 1, s.acts + 1, s.off, s.named - 1, s.part⟩ : Dk) = ⟨_, 1, s.acts + 1, s.off, s.named - 1, s.part⟩
        rw [upd_R, upd_J]; rfl
/-- What a crash leaves of the document's. -/
theorem found_js2 (s : JS) (cs : List Int) : FoundG s.get (crashM s cs).get cs ((if s.f.isSome then [nR] else []) ++ (if s.j.isSome then [nJ] else [])) ((if s.f.isSome then [nR] else []) ++ (if s.j.isSome then [nJ] else [])).length := by
  refine ⟨fun j x fl hj hx hg => ?_, fun x hx => ?_⟩
  · cases hf : s.f with
    | none =>
      cases hj' : s.j with
      | none => rw [hf, hj'] at hx; simp at hx
      | some fj =>
        rw [hf, hj'] at hx
        cases j with
        | zero =>
          simp at hx
          subst hx
          rw [JS.get_J, hj'] at hg
          cases hg
          rw [JS.get_J]
          show (s.j.map fun fl => foundF fl (chAt cs (if s.f.isSome then 1 else 0))) = _
          rw [hj', hf]; rfl
        | succ j => simp at hx
    | some ff =>
      cases j with
      | zero =>
        rw [hf] at hx
        simp at hx
        subst hx
        rw [JS.get_R, hf] at hg
        cases hg
        rw [JS.get_R]
        show (s.f.map fun fl => foundF fl (chAt cs 0)) = _
        rw [hf]; rfl
      | succ j =>
        cases hj' : s.j with
        | none => rw [hf, hj'] at hx; simp at hx
        | some fj =>
          rw [hf, hj'] at hx
          cases j with
          | zero =>
            simp at hx
            subst hx
            rw [JS.get_J, hj'] at hg
            cases hg
            rw [JS.get_J]
            show (s.j.map fun fl => foundF fl (chAt cs (if s.f.isSome then 1 else 0))) = _
            rw [hj', hf]; rfl
          | succ j => simp at hx
  · rw [List.take_length] at hx
    by_cases e1 : x = nJ
    · subst e1
      rw [JS.get_J]
      cases hj : s.j with
      | none => show (s.j.map _) = none; rw [hj]; rfl
      | some fj => exact absurd (by rw [hj]; simp) hx
    · by_cases e2 : x = nR
      · subst e2
        rw [JS.get_R]
        cases hf : s.f with
        | none => show (s.f.map _) = none; rw [hf]; rfl
        | some ff => exact absurd (by rw [hf]; simp) hx
      · exact JS.get_no _ e1 e2
theorem relJ_crash {s : JS} {r : Rk} {Z : Nat} {cs : List Int} {L : List Rf} (h : RelJ s r Z) (hc : CrF r.fs cs L r.fs.length) : RelJ (crashM s cs) ⟨L, 0, false, 0, 0⟩ Z :=
  ⟨h.f.crash (names_js s) (found_js2 s cs) hc, rfl, rfl, fun _ => ⟨rfl, rfl⟩⟩
end Go.Proofs.YtfigjfmldpfjkaaGreat
namespace Go.Proofs.YtfigjfmldpfjkaaGreat
open Go.RowKit Go.Sort Go.Shelf

def rdB (s : Dk) (nm : ByteArray) : List UInt8 := if errE s nm = 0 then ((s.get nm).map Fl.bytes).getD [] else []
def lsN (s : Dk) (nm : ByteArray) : Nat := if errE s nm = 0 then ((s.get nm).map fun fl => fl.bytes.length - fl.lasts).getD 0 else 0
theorem rd_len {s : Dk} {r : Rk} {Z : Nat} (hr : Rel s r Z) (nm : ByteArray) : (rdB s nm).length ≤ Z ∧ lsN s nm ≤ Z := by
  unfold rdB lsN
  by_cases h0 : errE s nm = 0
  · obtain ⟨_, _, fl, hf⟩ := err_0 h0
    have := (hr.f.fit hf).2.2
    rw [if_pos h0, if_pos h0, hf]
    exact ⟨this, Nat.le_trans (Nat.sub_le _ _) this⟩
  · rw [if_neg h0, if_neg h0]; exact ⟨Nat.zero_le _, Nat.zero_le _⟩
theorem dread {B : Nat → Prop} {w : World} {g : Nat} {s : Dk} {r : Rk} {Z : Nat} (hd : DkAt B w g s) (hr : Rel s r Z) (hZ : Z ≤ 30000000000000) (nm : ByteArray) :
    Calls Tryz.prog 67 #[.pointer (some ⟨g, 0, none⟩), .string nm] w fun e w' => (∃ q c, e = .returned (.tuple #[.slice q (rdB s nm).length c, .int .i64 (errE s nm)]) ∧ OwnK encB 5 1 w.heap.size w' q c (rdB s nm)) ∧ Below w.heap.size w w' := by
  unfold rdB
  by_cases h0 : errE s nm = 0
  · obtain ⟨ho, hk, fl, hf⟩ := err_0 h0
    rw [if_pos h0, hf, h0]
    exact read_yes hd ho hk hf (by have := (hr.f.fit hf).2.2; omega)
  · rw [if_neg h0]
    refine (read_no hd h0).mono ?_
    rintro e w' ⟨rfl, hb⟩
    exact ⟨⟨none, 0, rfl, OwnK.nil _ _⟩, hb⟩
theorem rreadU {P : Nat → Prop} {w : World} {g c : Nat} {r : Rk} {q : Option Addr} {s : Dk} {Z : Nat} (h : RIn P w g r q c) (hr : Rel s r Z) (hl : r.fs.length ≤ 1000) (nm : ByteArray) :
    Calls Tryz.prog 49 #[.pointer (some ⟨g, 0, none⟩), .string nm] w fun e w' => (∃ q c, e = .returned (.tuple #[.slice q (rdB s nm).length c, .int .i64 (errE s nm)]) ∧ SlIn encB 1 P w q c (rdB s nm)) ∧ w' = w := by
  unfold rdB
  by_cases h0 : errE s nm = 0
  · obtain ⟨ho, hk, fl, hf⟩ := err_0 h0
    obtain ⟨i, x, hx, hn, hb, hfl⟩ := hr.at hf
    rw [if_pos h0, hf, h0, ← hfl]
    refine (rread_yes h nm (by omega) (by rw [hr.err, h0]) hx hn hb).mono ?_
    rintro e w' ⟨rfl, rfl⟩
    exact ⟨⟨x.p, x.c, rfl, h.file x (List.mem_of_getElem? hx)⟩, rfl⟩
  · rw [if_neg h0]
    refine (rread_no h nm (by omega) (by rw [hr.err]; exact h0)).mono ?_
    rintro e w' ⟨rfl, rfl⟩
    exact ⟨⟨none, 0, by rw [hr.err]; rfl, SlOf.none _, fun h => absurd h (by simp)⟩, rfl⟩
theorem dloose {B : Nat → Prop} {w : World} {g : Nat} {s : Dk} {r : Rk} {Z : Nat} (hd : DkAt B w g s) (hr : Rel s r Z) (hZ : Z ≤ 30000000000000) (nm : ByteArray) :
    Calls Tryz.prog 46 #[.pointer (some ⟨g, 0, none⟩), .string nm] w fun e w' => e = .returned (.int .i64 ((lsN s nm : Nat) : Int)) ∧ Below w.heap.size w w' := by
  unfold lsN
  by_cases h0 : errE s nm = 0
  · obtain ⟨ho, hk, fl, hf⟩ := err_0 h0
    rw [if_pos h0, hf]
    exact loose_yes hd ho hk hf (by have := (hr.f.fit hf).2.2; omega)
  · rw [if_neg h0]
    exact loose_no hd h0
theorem rlooseU {P : Nat → Prop} {w : World} {g c : Nat} {r : Rk} {q : Option Addr} {s : Dk} {Z : Nat} (h : RIn P w g r q c) (hr : Rel s r Z) (hl : r.fs.length ≤ 1000) (hZ : Z ≤ 30000000000000) (nm : ByteArray) :
    Calls Tryz.prog 51 #[.pointer (some ⟨g, 0, none⟩), .string nm] w fun e w' => e = .returned (.int .i64 ((lsN s nm : Nat) : Int)) ∧ Below w.heap.size w w' := by
  unfold lsN
  by_cases h0 : errE s nm = 0
  · obtain ⟨ho, hk, fl, hf⟩ := err_0 h0
    obtain ⟨i, x, hx, hn, hb, hfl⟩ := hr.at hf
    obtain ⟨o1, o2, o3⟩ := hr.f.ok x (List.mem_of_getElem? hx)
    rw [if_pos h0, hf, ← hfl]
    exact rloose_yes h nm (by omega) (by rw [hr.err, h0]) hx hn hb o2 (by omega)
  · rw [if_neg h0]
    refine (rloose_no h nm (by omega) (by rw [hr.err]; exact h0)).mono ?_
    rintro e w' ⟨rfl, rfl⟩
    exact ⟨rfl, Below.refl _ _⟩
end Go.Proofs.YtfigjfmldpfjkaaGreat
namespace Go.Proofs.YtfigjfmldpfjkaaGreat
open Go.RowKit Go.Sort Go.Shelf

section
variable {P : Nat → Prop} {w : World} {g c : Nat} {r : Rk} {q : Option Addr} {s : JS} {Z : Nat}
theorem rappJ (h : RIn P w g r q c) (hr : RelJ s r Z) (ha : s.acts ≤ 1000000) (hZ : Z ≤ 30000000000000) (p : Option Addr) (k : Nat) (data : List UInt8) (hd : SlOf encB 1 w p k data) (hpg : 0 < data.length → ∀ a, p = some a → a.block ≠ g) (hdl : data.length ≤ 30000000000000) :
    Calls Tryz.prog 30 #[.pointer (some ⟨g, 0, none⟩), .string nJ, .slice p data.length k] w fun e w' => e = .returned (.int .i64 (appJ s data).1) ∧ RfJ P w g (appJ s data).2 (Z + data.length) w' := by
  obtain ⟨n, hn⟩ := appJ_S s data
  have hl := len2 hr
  refine (rapp_det h hr (by omega) ha hZ nJ p k data hd hpg hdl).mono fun e w' ⟨h1, h2⟩ => ⟨by rw [h1, appJ_E s data], RfJ.of h2 hn⟩
theorem rappR (h : RIn P w g r q c) (hr : RelJ s r Z) (ha : s.acts ≤ 1000000) (hZ : Z ≤ 30000000000000) (p : Option Addr) (k : Nat) (data : List UInt8) (hd : SlOf encB 1 w p k data) (hpg : 0 < data.length → ∀ a, p = some a → a.block ≠ g) (hdl : data.length ≤ 30000000000000) :
    Calls Tryz.prog 30 #[.pointer (some ⟨g, 0, none⟩), .string nR, .slice p data.length k] w fun e w' => e = .returned (.int .i64 (appR s data).1) ∧ RfJ P w g (appR s data).2 (Z + data.length) w' := by
  obtain ⟨n, hn⟩ := appR_S s data
  have hl := len2 hr
  refine (rapp_det h hr (by omega) ha hZ nR p k data hd hpg hdl).mono fun e w' ⟨h1, h2⟩ => ⟨by rw [h1, appR_E s data], RfJ.of h2 hn⟩
theorem rsynJ (h : RIn P w g r q c) (hr : RelJ s r Z) (ha : s.acts ≤ 1000000) :
    Calls Tryz.prog 66 #[.pointer (some ⟨g, 0, none⟩), .string nJ] w fun e w' => e = .returned (.int .i64 (synJ s).1) ∧ RfJ P w g (synJ s).2 Z w' := by
  have hl := len2 hr
  refine (rsyn_det h hr (by omega) ha nJ).mono fun e w' ⟨h1, h2⟩ => ⟨by rw [h1, (synJ_ES s).1], RfJ.of h2 (synJ_ES s).2⟩
theorem rsynR (h : RIn P w g r q c) (hr : RelJ s r Z) (ha : s.acts ≤ 1000000) :
    Calls Tryz.prog 66 #[.pointer (some ⟨g, 0, none⟩), .string nR] w fun e w' => e = .returned (.int .i64 (synR s).1) ∧ RfJ P w g (synR s).2 Z w' := by
  have hl := len2 hr
  refine (rsyn_det h hr (by omega) ha nR).mono fun e w' ⟨h1, h2⟩ => ⟨by rw [h1, (synR_ES s).1], RfJ.of h2 (synR_ES s).2⟩
theorem rremR (h : RIn P w g r q c) (hr : RelJ s r Z) (ha : s.acts ≤ 1000000) {fl : Fl} (ho : s.off = false) (hf : s.f = some fl) :
    Calls Tryz.prog 48 #[.pointer (some ⟨g, 0, none⟩), .string nR] w fun e w' => e = .returned (.int .i64 (remR s).1) ∧ RfJ P w g (remR s).2 Z w' := by
  have hl := len2 hr
  refine (rrem_det h hr (by omega) ha nR).mono fun e w' ⟨h1, h2⟩ => ⟨by rw [h1, (remR_ES ho hf).1], RfJ.of h2 (remR_ES ho hf).2⟩
theorem rrenM (h : RIn P w g r q c) (hr : RelJ s r Z) (ha : s.acts ≤ 1000000) :
    Calls Tryz.prog 91 #[.pointer (some ⟨g, 0, none⟩), .string nR, .string nJ] w fun e w' => e = .returned (.int .i64 (renM s).1) ∧ RfJ P w g (renM s).2 Z w' := by
  have hl := len2 hr
  obtain ⟨h0, n, hn⟩ := renM_ES s
  refine (rren_det h hr (by omega) ha nR nJ).mono fun e w' ⟨h1, h2⟩ => ⟨by rw [h1, h0], RfJ.of h2 hn⟩
def armJ (s : JS) (n p : Int) : JS := if s.off then s else { s with named := (max n 0).toNat, part := p }
theorem armJ_S (s : JS) (n p : Int) : armS (s.dk 0) n p = (armJ s n p).dk 0 := by
  unfold armS armJ
  show (if s.off = true then s.dk 0 else { s.dk 0 with named := (max n 0).toNat, part := p }) = _
  by_cases h : s.off = true
  · rw [if_pos h, if_pos h]
  · rw [if_neg h, if_neg h]; rfl
theorem rarmJ (h : RIn P w g r q c) (hr : RelJ s r Z) (n p : Int) (hn : n ≤ 9223372036854775807) :
    Calls Tryz.prog 27 #[.pointer (some ⟨g, 0, none⟩), .int .i64 n, .int .i64 p] w fun e w' => e = .returned (.int .i64 (if s.off then 40 else 0)) ∧ RfJ P w g (armJ s n p) Z w' := by
  refine (rarm_det h hr n p hn).mono fun e w' ⟨h1, h2⟩ => ⟨h1, RfJ.of h2 (armJ_S s n p)⟩
theorem armJ_d {B : Nat → Prop} {d : Nat} (hd : JAt B w d s) (hB : Sub B w) (n p : Int) (hn : n ≤ 9223372036854775807) :
    Calls Tryz.prog 10 #[.pointer (some ⟨d, 0, none⟩), .int .i64 n, .int .i64 p] w fun e w' => e = .returned (.int .i64 (if s.off then 40 else 0)) ∧ JAt B w' d (armJ s n p) ∧ Kpt B w w' := by
  obtain ⟨m, hm, hd⟩ := hd
  unfold armJ
  by_cases ho : s.off = true
  · rw [if_pos ho, if_pos ho]
    refine (arm_no hd n p ho).mono ?_
    rintro e w' ⟨rfl, rfl⟩
    exact ⟨rfl, ⟨m, hm, hd⟩, Kpt.refl _ _⟩
  · rw [if_neg ho, if_neg ho]
    refine (arm_yes hd hB n p hn (show s.off = false by simpa using ho)).mono ?_
    rintro e w' ⟨rfl, h1, h2⟩
    exact ⟨rfl, ⟨m, hm, h1⟩, h2⟩
def rdJ (s : JS) (nm : ByteArray) : List UInt8 := rdB (s.dk 0) nm
def erJ (s : JS) (nm : ByteArray) : Int := errE (s.dk 0) nm
def lsJ (s : JS) (nm : ByteArray) : Nat := lsN (s.dk 0) nm
theorem rreadJ (h : RIn P w g r q c) (hr : RelJ s r Z) (nm : ByteArray) :
    Calls Tryz.prog 49 #[.pointer (some ⟨g, 0, none⟩), .string nm] w fun e w' => (∃ q c, e = .returned (.tuple #[.slice q (rdJ s nm).length c, .int .i64 (erJ s nm)]) ∧ SlIn encB 1 P w q c (rdJ s nm)) ∧ w' = w := rreadU h hr (by have := len2 hr; omega) nm
theorem rlooseJ (h : RIn P w g r q c) (hr : RelJ s r Z) (hZ : Z ≤ 30000000000000) (nm : ByteArray) :
    Calls Tryz.prog 51 #[.pointer (some ⟨g, 0, none⟩), .string nm] w fun e w' => e = .returned (.int .i64 ((lsJ s nm : Nat) : Int)) ∧ Below w.heap.size w w' := rlooseU h hr (by have := len2 hr; omega) hZ nm
theorem dreadJ {B : Nat → Prop} {d : Nat} (hd : JAt B w d s) (hr : RelJ s r Z) (hZ : Z ≤ 30000000000000) (nm : ByteArray) :
    Calls Tryz.prog 67 #[.pointer (some ⟨d, 0, none⟩), .string nm] w fun e w' => (∃ q c, e = .returned (.tuple #[.slice q (rdJ s nm).length c, .int .i64 (erJ s nm)]) ∧ OwnK encB 5 1 w.heap.size w' q c (rdJ s nm)) ∧ Below w.heap.size w w' := by
  obtain ⟨m, hm, hd⟩ := hd
  exact dread hd (rel_n hr rfl rfl rfl rfl rfl) hZ nm
theorem dlooseJ {B : Nat → Prop} {d : Nat} (hd : JAt B w d s) (hr : RelJ s r Z) (hZ : Z ≤ 30000000000000) (nm : ByteArray) :
    Calls Tryz.prog 46 #[.pointer (some ⟨d, 0, none⟩), .string nm] w fun e w' => e = .returned (.int .i64 ((lsJ s nm : Nat) : Int)) ∧ Below w.heap.size w w' := by
  obtain ⟨m, hm, hd⟩ := hd
  exact dloose hd (rel_n hr rfl rfl rfl rfl rfl) hZ nm
theorem rd_lenJ (hr : RelJ s r Z) (nm : ByteArray) : (rdJ s nm).length ≤ Z ∧ lsJ s nm ≤ Z := rd_len hr nm
end
end Go.Proofs.YtfigjfmldpfjkaaGreat

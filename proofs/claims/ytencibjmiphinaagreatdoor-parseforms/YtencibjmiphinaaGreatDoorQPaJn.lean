/- joined: operands with a sign between. -/
import Derived.Test.YtencibjmiphinaaGreatDoorQZam
namespace Go.Proofs.YtencibjmiphinaaGreatDoor
open Go.RowKit

theorem kd_snoc {B g c cap2 : Nat} {ks : List Nd} {us : List Nv} {q q2 : Option Addr} {w3 w4 w6 : World} {v : Nv} {x : Nd} (hu : us.length = ks.length) (ho : OwnK encV 29 8 B w3 q c us) (hf : OffP B (FromIn B ks us) (Value.slice q ks.length c).ownBlock w3) (hg : w3.grownBy w4 (some g)) (hgB : g < B) (hv : NdFrom w4 w3.heap.size v x) (hB : B ≤ w3.heap.size)
    (ho2 : OwnK encV 29 8 B w6 q2 cap2 (us ++ [v])) (hg2 : (w4.alloc (.cells #[.int .i64 v.kind, .string v.attr, .slice v.qi v.ni v.ci, .slice v.qw v.nw v.cw, .int .i64 v.lo, .int .i64 v.hi, .int .i64 v.op, .slice v.qk v.nk v.ck] 29)).grownBy w6 (Value.slice q ks.length c).ownBlock) (hor : (Value.slice q2 (ks.length + 1) cap2).ownBlock = (Value.slice q ks.length c).ownBlock ∨ (Value.slice q2 (ks.length + 1) cap2).ownBlock = some (w4.alloc (.cells #[.int .i64 v.kind, .string v.attr, .slice v.qi v.ni v.ci, .slice v.qw v.nw v.cw, .int .i64 v.lo, .int .i64 v.hi, .int .i64 v.op, .slice v.qk v.nk v.ck] 29)).heap.size) : Kd B (ks ++ [x]) q2 cap2 w6 := by
  have hlt := ho.ownLt hu
  have p1 := hf.far hg hgB
  have p2 : OffP B (fun W => NdFrom W w3.heap.size v x) (Value.slice q ks.length c).ownBlock w4 := OffP.from hv hB hlt
  have p3 := ((p1.and p2).below ((Below.refl w4.heap.size w4).alloc (Nat.le_refl _) (.cells #[.int .i64 v.kind, .string v.attr, .slice v.qi v.ni v.ci, .slice v.qw v.nw v.cw, .int .i64 v.lo, .int .i64 v.hi, .int .i64 v.op, .slice v.qk v.nk v.ck] 29))).step hg2 hor
  refine ⟨us ++ [v], by simp [hu], ho2, ?_⟩
  rw [List.length_append]
  exact p3.imp fun W h => h.1.snoc hu (h.2.mono hB)
/-- What is answered of operands. -/
theorem kd_many {B c : Nat} {ks : List Nd} {q : Option Addr} {w : World} (op : Int) (h : Kd B ks q c w) : NdFrom w B ⟨0, ⟨#[]⟩, none, 0, 0, none, 0, 0, 0, 0, op, q, ks.length, c⟩ (.mk 0 ⟨#[]⟩ [] [] 0 0 op ks) := by
  obtain ⟨us, hu, ho, hf⟩ := h
  exact NdFrom.make (ints := []) (words := []) (SlOf.none _) no_from (SlOf.none _) no_from ho.ls (fun a e => ho.ownGe hu a.block (by rw [e]; rfl)) hu hf.now
theorem kd_one {B c : Nat} {ks : List Nd} {q : Option Addr} {w : World} (h : Kd B ks q c w) (h1 : ks.length = 1) : ∃ x v b, ks = [x] ∧ q = some ⟨b, 0, none⟩ ∧ NdFrom w B v x ∧ w.cell? ⟨b, 0, none⟩ = some (.int .i64 v.kind) ∧ w.cell? ⟨b, 1, none⟩ = some (.string v.attr) ∧ w.cell? ⟨b, 2, none⟩ = some (.slice v.qi v.ni v.ci) ∧ w.cell? ⟨b, 3, none⟩ = some (.slice v.qw v.nw v.cw) ∧ w.cell? ⟨b, 4, none⟩ = some (.int .i64 v.lo) ∧ w.cell? ⟨b, 5, none⟩ = some (.int .i64 v.hi) ∧ w.cell? ⟨b, 6, none⟩ = some (.int .i64 v.op) ∧ w.cell? ⟨b, 7, none⟩ = some (.slice v.qk v.nk v.ck) := by
  obtain ⟨us, hu, ho, hf⟩ := h
  obtain ⟨x, rfl⟩ := List.length_eq_one_iff.1 h1
  obtain ⟨v, rfl⟩ := List.length_eq_one_iff.1 (hu.trans h1)
  obtain ⟨b, off, hq, hb, hc⟩ := ho.ls.2.2.2.at (j := 0) (x := v) rfl
  rcases ho.cases with ⟨rfl, h2, _⟩ | ⟨b', rfl, _⟩
  · cases hq
  · obtain ⟨rfl, rfl⟩ : b' = b ∧ off = 0 := by cases hq; exact ⟨rfl, rfl⟩
    have h8 := cells8 hc
    simp only [Nat.zero_mul, Nat.add_zero, Nat.zero_add] at h8
    exact ⟨x, v, b', rfl, rfl, hf.now 0 v x rfl rfl, h8⟩
set_option maxHeartbeats 4000000 in
theorem joined120 (g : Nat) (en : Int) (n : Nat) (f : List Tk → Rs Nd) (hn : n ≤ 1000000) (hF : ∀ (l' : List Tk) (W : World), l'.length ≤ n → Ps W g en l' → Calls Tryz.prog 120 #[.pointer (some ⟨g, 0, none⟩)] W fun e w' => NdR g en W (f l') e w') (hfl : ∀ l' x r, f l' = .ok x r → r.length + 1 ≤ l'.length) (l : List Tk) (hl : l.length ≤ n) (w : World) (hp : Ps w g en l) :
    Calls Tryz.prog 91 #[.pointer (some ⟨g, 0, none⟩), .int .i64 3, .string ⟨#[38]⟩, .func (.func 120) #[.pointer (some ⟨g, 0, none⟩)] #[]] w fun e w' => NdR g en w (chL 3 ⟨#[38]⟩ f l) e w' := by
  have hg := hp.lt
  have h0 := hp.z
  have hc1 := hF l _ hl h0.1
  cases ef : f l with
  | bad p =>
    have hx : chL 3 ⟨#[38]⟩ f l = .bad p := by simp only [chL, ef]
    rw [hx]
    have EF := hide ef
    have H0 := hide h0
    clear hp ef hx h0 hF hfl
    go_enter Tryz.func91, Tryz.ntmps91
    go_wp2_with (go_at_call 120; refine hc1.mono ?_; rintro e w1 hq; obtain ⟨rfl, hx⟩ := hq.bad (unhide EF); have X1 := hide hx; clear hx hq; simp only [refusal])
    exact ⟨rfl, rfl, gr_z (unhide X1)⟩
  | ok x r =>
    have hr := hfl l x r ef
    have HC := hide (Ch.first (s := ⟨#[38]⟩) ef)
    have EF := hide ef
    have H0 := hide h0
    have HF := hide hF
    have HFL := hide hfl
    clear hp ef h0 hF hfl
    go_enter Tryz.func91, Tryz.ntmps91
    go_wp2_with (go_at_call 120; refine hc1.mono ?_; rintro e w1 hq; obtain ⟨⟨v, rfl, hv⟩, hx⟩ := hq.ok (unhide EF); have X1 := hide hx; have HV := hide hv; clear hx hv hq; unfold Nv.val)
    have hs1 := (unhide X1).2.size
    simp at hs1
    have HK := hide (Kd.one (B := w.heap.size + 1) (by have := unhide HV; simpa using this) hs1)
    have HX := hide ((unhide X1).bel ((Below.refl _ _).alloc (Nat.le_refl _) (.cells #[.int .i64 v.kind, .string v.attr, .slice v.qi v.ni v.ci, .slice v.qw v.nw v.cw, .int .i64 v.lo, .int .i64 v.hi, .int .i64 v.op, .slice v.qk v.nk v.ck] 29)))
    clear X1 HV hc1 hs1
    go_loopw [9] (fun u wr => ∃ (ks : List Nd) (l1 : List Tk) (q : Option Addr) (c : Nat), u = .slice q ks.length c ∧ Kd (w.heap.size + 1) ks q c wr ∧ Nx g en l1 (w.alloc (.cells #[.int .i64 0, .string ⟨#[]⟩, .slice none 0 0, .slice none 0 0, .int .i64 0, .int .i64 0, .int .i64 0, .slice none 0 0] 29)) wr ∧ Ch ⟨#[38]⟩ f l x r ks l1 ∧ ks.length + l1.length ≤ n) (fun _ wr => lnAt g wr)
    case atStart => exact ⟨[x], r, _, _, rfl, unhide HK, unhide HX, unhide HC, by simp; omega⟩
    case round =>
      clear HK HX HC EF H0
      obtain ⟨ks, l1, q, c, rfl, hk, hx, hch, hlen⟩ := hrel
      have HK := hide hk
      have HX := hide hx
      have HC := hide hch
      have hws := hx.2.size
      simp at hws
      clear hk hx hch
      cases hs : skL ⟨#[38]⟩ l1 with
      | none =>
        have hsk := skip_no g en ⟨#[38]⟩ l1 wr (unhide HX).1 hs
        have HE := hide ((unhide HC).done (op := 3) hs)
        obtain ⟨z1, ⟨q0, q1, q2, q3, q4, q5, q6, q7⟩, qf⟩ := res8 (unhide HX).2 hg
        clear hs
        by_cases h1 : ks.length = 1
        · obtain ⟨x1, v1, b1, hks, hq, hv1, k0, k1, k2, k3, k4, k5, k6, k7⟩ := kd_one (unhide HK) h1
          subst hks hq
          have HV1 := hide hv1
          clear hv1 h1
          go_wp2_with (go_at_call 119; refine hsk.mono ?_; rintro e w3 ⟨rfl, rfl⟩)
          refine bodyPost_ret (v := v1.val) (by simp [results, Tryz.results91, go_sem, Nv.val, *]) rfl ?_
          rw [unhide HE]
          exact fin8 (unhide HX) hg (unhide HV1) (by omega)
        · have h2 : ¬ ((ks.length : Int) = 1) := by omega
          have hj : jnT 3 ks = .mk 0 ⟨#[]⟩ [] [] 0 0 3 ks := by
            unfold jnT
            split
            · simp at h1
            · rfl
          have HJ := hide hj
          clear hj h1
          go_wp2_with (go_at_call 119; refine hsk.mono ?_; rintro e w3 ⟨rfl, rfl⟩)
          refine bodyPost_ret (v := .agg #[.int .i64 0, .string ⟨#[]⟩, .slice none 0 0, .slice none 0 0, .int .i64 0, .int .i64 0, .int .i64 3, .slice q ks.length c]) (by simp [results, Tryz.results91, go_sem, *]) rfl ?_
          rw [unhide HE, unhide HJ]
          have h9 := fin8 (unhide HX) hg (kd_many 3 (unhide HK)) (by omega)
          simp only [Nv.val] at h9
          exact h9
      | some r2 =>
        have hsk := skip_yes g en ⟨#[38]⟩ l1 r2 wr (unhide HX).1 hs
        have e2 := skL_len hs
        have hr2 : r2.length ≤ n := by omega
        cases ef : f r2 with
        | bad p =>
          have HE := hide ((unhide HC).bad (op := 3) hs ef)
          have EF := hide ef
          clear hs ef e2
          go_wp2_with first
            | (go_at_call 119; refine hsk.mono ?_; rintro e w3 ⟨rfl, hx⟩; have X3 := hide ((unhide HX).trans hx); clear hx)
            | (go_at_call 120; refine (unhide HF r2 _ hr2 (unhide X3).1).mono ?_; rintro e w4 hq; obtain ⟨rfl, hx⟩ := hq.bad (unhide EF); have X4 := hide hx; clear hx hq; simp only [refusal])
          exact ⟨rfl, by rw [unhide HE]; exact ⟨rfl, gr_z ((unhide X3).2.trans (unhide X4))⟩⟩
        | ok x2 r3 =>
          have e3 := unhide HFL r2 x2 r3 ef
          have HC2 := hide ((unhide HC).more hs ef (by omega))
          have EF := hide ef
          have HLN := hide (unhide HX).1.ln
          have E2 := hide e2
          have E3 := hide e3
          have hbd : ks.length + 1 ≤ n := by omega
          have HLEN := hide hlen
          clear hs ef e2 e3 hlen
          go_wp2_with first
            | (go_at_call 119; refine hsk.mono ?_; rintro e w3 ⟨rfl, hx⟩; have X3 := hide ((unhide HX).trans hx); have HK3 := hide ((unhide HK).far hx.2 (by omega)); have hs3 := hx.2.size; have HS3 := hide hs3; clear hx hs3)
            | (go_at_call 120; refine (unhide HF r2 _ hr2 (unhide X3).1).mono ?_; rintro e w4 hq; obtain ⟨⟨v, rfl, hv⟩, hx⟩ := hq.ok (unhide EF); have X4 := hide ((unhide X3).trans hx); have G4 := hide hx.2; have HV := hide hv; have HS4 := hide hx.2.size; obtain ⟨us, hu, ho, hf⟩ := unhide HK3; have HU := hide hu; have HO := hide ho; have HFF := hide hf; clear hx hv hq hu ho hf; unfold Nv.val)
            | (at_builtin; refine wpList_appG rowV rfl _ _ rfl (w.heap.size + 1) q c us ⟨w4.heap.size, 0, none⟩ 1 [v] ks.length 1 (ks.length + 1) (unhide HU) rfl rfl rfl rfl (OwnK.below (own_far (unhide HO) (unhide G4) (by omega)) ((Below.refl _ _).alloc (Nat.le_refl _) (.cells #[.int .i64 v.kind, .string v.attr, .slice v.qi v.ni v.ci, .slice v.qw v.nw v.cw, .int .i64 v.lo, .int .i64 v.hi, .int .i64 v.op, .slice v.qk v.nk v.ck] 29))) (oneV (box_nw _ _)) (by unfold maxLen; omega) (by omega) (by have a1 := unhide HS3; have a2 := unhide HS4; simp; omega) ?_; intro q2 cap2 w6 hown2 hb2 hg2 hor2; have HO2 := hide hown2; have HB2 := hide hb2; have HG2 := hide hg2; have HR2 := hide hor2; clear hown2 hb2 hg2 hor2)
          have e2 := unhide E2
          have e3 := unhide E3
          have hlen := unhide HLEN
          have hx6 : Nx g en r3 (w.alloc (.cells #[.int .i64 0, .string ⟨#[]⟩, .slice none 0 0, .slice none 0 0, .int .i64 0, .int .i64 0, .int .i64 0, .slice none 0 0] 29)) w6 := Nx.low ((unhide X4).bel ((Below.refl _ _).alloc (Nat.le_refl _) (.cells #[.int .i64 v.kind, .string v.attr, .slice v.qi v.ni v.ci, .slice v.qw v.nw v.cw, .int .i64 v.lo, .int .i64 v.hi, .int .i64 v.op, .slice v.qk v.nk v.ck] 29))) (unhide HB2) (by simp) (by omega)
          have hk6 := kd_snoc (unhide HU) (unhide HO) (unhide HFF) (unhide G4) (by omega) (unhide HV) (by have a1 := unhide HS3; omega) (unhide HO2) (unhide HG2) (unhide HR2)
          exact ⟨⟨ks ++ [x2], r3, q2, cap2, by simp, hk6, hx6, unhide HC2, by simp; omega⟩, by rw [hx6.1.ln, unhide HLN]; omega⟩
set_option maxHeartbeats 4000000 in
theorem joined92 (g : Nat) (en : Int) (n : Nat) (f : List Tk → Rs Nd) (hn : n ≤ 1000000) (hF : ∀ (l' : List Tk) (W : World), l'.length ≤ n → Ps W g en l' → Calls Tryz.prog 92 #[.pointer (some ⟨g, 0, none⟩)] W fun e w' => NdR g en W (f l') e w') (hfl : ∀ l' x r, f l' = .ok x r → r.length + 1 ≤ l'.length) (l : List Tk) (hl : l.length ≤ n) (w : World) (hp : Ps w g en l) :
    Calls Tryz.prog 91 #[.pointer (some ⟨g, 0, none⟩), .int .i64 4, .string ⟨#[124]⟩, .func (.func 92) #[.pointer (some ⟨g, 0, none⟩)] #[]] w fun e w' => NdR g en w (chL 4 ⟨#[124]⟩ f l) e w' := by
  have hg := hp.lt
  have h0 := hp.z
  have hc1 := hF l _ hl h0.1
  cases ef : f l with
  | bad p =>
    have hx : chL 4 ⟨#[124]⟩ f l = .bad p := by simp only [chL, ef]
    rw [hx]
    have EF := hide ef
    have H0 := hide h0
    clear hp ef hx h0 hF hfl
    go_enter Tryz.func91, Tryz.ntmps91
    go_wp2_with (go_at_call 92; refine hc1.mono ?_; rintro e w1 hq; obtain ⟨rfl, hx⟩ := hq.bad (unhide EF); have X1 := hide hx; clear hx hq; simp only [refusal])
    exact ⟨rfl, rfl, gr_z (unhide X1)⟩
  | ok x r =>
    have hr := hfl l x r ef
    have HC := hide (Ch.first (s := ⟨#[124]⟩) ef)
    have EF := hide ef
    have H0 := hide h0
    have HF := hide hF
    have HFL := hide hfl
    clear hp ef h0 hF hfl
    go_enter Tryz.func91, Tryz.ntmps91
    go_wp2_with (go_at_call 92; refine hc1.mono ?_; rintro e w1 hq; obtain ⟨⟨v, rfl, hv⟩, hx⟩ := hq.ok (unhide EF); have X1 := hide hx; have HV := hide hv; clear hx hv hq; unfold Nv.val)
    have hs1 := (unhide X1).2.size
    simp at hs1
    have HK := hide (Kd.one (B := w.heap.size + 1) (by have := unhide HV; simpa using this) hs1)
    have HX := hide ((unhide X1).bel ((Below.refl _ _).alloc (Nat.le_refl _) (.cells #[.int .i64 v.kind, .string v.attr, .slice v.qi v.ni v.ci, .slice v.qw v.nw v.cw, .int .i64 v.lo, .int .i64 v.hi, .int .i64 v.op, .slice v.qk v.nk v.ck] 29)))
    clear X1 HV hc1 hs1
    go_loopw [9] (fun u wr => ∃ (ks : List Nd) (l1 : List Tk) (q : Option Addr) (c : Nat), u = .slice q ks.length c ∧ Kd (w.heap.size + 1) ks q c wr ∧ Nx g en l1 (w.alloc (.cells #[.int .i64 0, .string ⟨#[]⟩, .slice none 0 0, .slice none 0 0, .int .i64 0, .int .i64 0, .int .i64 0, .slice none 0 0] 29)) wr ∧ Ch ⟨#[124]⟩ f l x r ks l1 ∧ ks.length + l1.length ≤ n) (fun _ wr => lnAt g wr)
    case atStart => exact ⟨[x], r, _, _, rfl, unhide HK, unhide HX, unhide HC, by simp; omega⟩
    case round =>
      clear HK HX HC EF H0
      obtain ⟨ks, l1, q, c, rfl, hk, hx, hch, hlen⟩ := hrel
      have HK := hide hk
      have HX := hide hx
      have HC := hide hch
      have hws := hx.2.size
      simp at hws
      clear hk hx hch
      cases hs : skL ⟨#[124]⟩ l1 with
      | none =>
        have hsk := skip_no g en ⟨#[124]⟩ l1 wr (unhide HX).1 hs
        have HE := hide ((unhide HC).done (op := 4) hs)
        obtain ⟨z1, ⟨q0, q1, q2, q3, q4, q5, q6, q7⟩, qf⟩ := res8 (unhide HX).2 hg
        clear hs
        by_cases h1 : ks.length = 1
        · obtain ⟨x1, v1, b1, hks, hq, hv1, k0, k1, k2, k3, k4, k5, k6, k7⟩ := kd_one (unhide HK) h1
          subst hks hq
          have HV1 := hide hv1
          clear hv1 h1
          go_wp2_with (go_at_call 119; refine hsk.mono ?_; rintro e w3 ⟨rfl, rfl⟩)
          refine bodyPost_ret (v := v1.val) (by simp [results, Tryz.results91, go_sem, Nv.val, *]) rfl ?_
          rw [unhide HE]
          exact fin8 (unhide HX) hg (unhide HV1) (by omega)
        · have h2 : ¬ ((ks.length : Int) = 1) := by omega
          have hj : jnT 4 ks = .mk 0 ⟨#[]⟩ [] [] 0 0 4 ks := by
            unfold jnT
            split
            · simp at h1
            · rfl
          have HJ := hide hj
          clear hj h1
          go_wp2_with (go_at_call 119; refine hsk.mono ?_; rintro e w3 ⟨rfl, rfl⟩)
          refine bodyPost_ret (v := .agg #[.int .i64 0, .string ⟨#[]⟩, .slice none 0 0, .slice none 0 0, .int .i64 0, .int .i64 0, .int .i64 4, .slice q ks.length c]) (by simp [results, Tryz.results91, go_sem, *]) rfl ?_
          rw [unhide HE, unhide HJ]
          have h9 := fin8 (unhide HX) hg (kd_many 4 (unhide HK)) (by omega)
          simp only [Nv.val] at h9
          exact h9
      | some r2 =>
        have hsk := skip_yes g en ⟨#[124]⟩ l1 r2 wr (unhide HX).1 hs
        have e2 := skL_len hs
        have hr2 : r2.length ≤ n := by omega
        cases ef : f r2 with
        | bad p =>
          have HE := hide ((unhide HC).bad (op := 4) hs ef)
          have EF := hide ef
          clear hs ef e2
          go_wp2_with first
            | (go_at_call 119; refine hsk.mono ?_; rintro e w3 ⟨rfl, hx⟩; have X3 := hide ((unhide HX).trans hx); clear hx)
            | (go_at_call 92; refine (unhide HF r2 _ hr2 (unhide X3).1).mono ?_; rintro e w4 hq; obtain ⟨rfl, hx⟩ := hq.bad (unhide EF); have X4 := hide hx; clear hx hq; simp only [refusal])
          exact ⟨rfl, by rw [unhide HE]; exact ⟨rfl, gr_z ((unhide X3).2.trans (unhide X4))⟩⟩
        | ok x2 r3 =>
          have e3 := unhide HFL r2 x2 r3 ef
          have HC2 := hide ((unhide HC).more hs ef (by omega))
          have EF := hide ef
          have HLN := hide (unhide HX).1.ln
          have E2 := hide e2
          have E3 := hide e3
          have hbd : ks.length + 1 ≤ n := by omega
          have HLEN := hide hlen
          clear hs ef e2 e3 hlen
          go_wp2_with first
            | (go_at_call 119; refine hsk.mono ?_; rintro e w3 ⟨rfl, hx⟩; have X3 := hide ((unhide HX).trans hx); have HK3 := hide ((unhide HK).far hx.2 (by omega)); have hs3 := hx.2.size; have HS3 := hide hs3; clear hx hs3)
            | (go_at_call 92; refine (unhide HF r2 _ hr2 (unhide X3).1).mono ?_; rintro e w4 hq; obtain ⟨⟨v, rfl, hv⟩, hx⟩ := hq.ok (unhide EF); have X4 := hide ((unhide X3).trans hx); have G4 := hide hx.2; have HV := hide hv; have HS4 := hide hx.2.size; obtain ⟨us, hu, ho, hf⟩ := unhide HK3; have HU := hide hu; have HO := hide ho; have HFF := hide hf; clear hx hv hq hu ho hf; unfold Nv.val)
            | (at_builtin; refine wpList_appG rowV rfl _ _ rfl (w.heap.size + 1) q c us ⟨w4.heap.size, 0, none⟩ 1 [v] ks.length 1 (ks.length + 1) (unhide HU) rfl rfl rfl rfl (OwnK.below (own_far (unhide HO) (unhide G4) (by omega)) ((Below.refl _ _).alloc (Nat.le_refl _) (.cells #[.int .i64 v.kind, .string v.attr, .slice v.qi v.ni v.ci, .slice v.qw v.nw v.cw, .int .i64 v.lo, .int .i64 v.hi, .int .i64 v.op, .slice v.qk v.nk v.ck] 29))) (oneV (box_nw _ _)) (by unfold maxLen; omega) (by omega) (by have a1 := unhide HS3; have a2 := unhide HS4; simp; omega) ?_; intro q2 cap2 w6 hown2 hb2 hg2 hor2; have HO2 := hide hown2; have HB2 := hide hb2; have HG2 := hide hg2; have HR2 := hide hor2; clear hown2 hb2 hg2 hor2)
          have e2 := unhide E2
          have e3 := unhide E3
          have hlen := unhide HLEN
          have hx6 : Nx g en r3 (w.alloc (.cells #[.int .i64 0, .string ⟨#[]⟩, .slice none 0 0, .slice none 0 0, .int .i64 0, .int .i64 0, .int .i64 0, .slice none 0 0] 29)) w6 := Nx.low ((unhide X4).bel ((Below.refl _ _).alloc (Nat.le_refl _) (.cells #[.int .i64 v.kind, .string v.attr, .slice v.qi v.ni v.ci, .slice v.qw v.nw v.cw, .int .i64 v.lo, .int .i64 v.hi, .int .i64 v.op, .slice v.qk v.nk v.ck] 29))) (unhide HB2) (by simp) (by omega)
          have hk6 := kd_snoc (unhide HU) (unhide HO) (unhide HFF) (unhide G4) (by omega) (unhide HV) (by have a1 := unhide HS3; omega) (unhide HO2) (unhide HG2) (unhide HR2)
          exact ⟨⟨ks ++ [x2], r3, q2, cap2, by simp, hk6, hx6, unhide HC2, by simp; omega⟩, by rw [hx6.1.ln, unhide HLN]; omega⟩
end Go.Proofs.YtencibjmiphinaaGreatDoor

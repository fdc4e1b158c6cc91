/- The law PostOrder returns true. -/
import Derived.Test.YtelgpmjafaopmaaFixed
namespace Go.Proofs.Ytelgpmjafaopmaa
open Go.RowKit Go.Sort Go.Shelf

theorem u64_nat (x : Int) : ∃ u : Nat, IntKind.u64.wrap x = (u : Int) := by
  refine ⟨(IntKind.u64.wrap x).toNat, ?_⟩
  have e : (2 : Int) ^ IntKind.u64.bits = 18446744073709551616 := by decide
  have : 0 ≤ IntKind.u64.wrap x := by
    have h2 : (0 : Int) ≤ x % 18446744073709551616 := Int.emod_nonneg _ (by decide)
    simpa [IntKind.wrap, IntKind.signed, e] using h2
  omega
theorem slof_dropA {w : World} {b off cap : Nat} {l : List Pt} (h : SlOf encP 2 w (some ⟨b, off, none⟩) cap l) {k : Nat} (hl : k < l.length) : SlOf encP 2 w (some ⟨b, off + k * 2, none⟩) (cap - k) (l.drop k) := slof_drop h rfl hl
theorem step_appK {ops : Array Oper} {o : Oper} {a : Act} {w : World} {K : Act → World → Prop} {Q : Exit → Act → World → Prop} {E : Prop} (hgd : o.guard = none) (s x : Operand)
    (ho : o.op = .call { callee := .builtin .append, args := #[s, x], argTypes := #[28, 28] }) (B : Nat) (q : Option Addr) (cap : Nat) (l : List Pt) (p : Option Addr) (c : Nat) (m : List Pt) (n n' N : Nat) (hn : l.length = n) (hn' : m.length = n') (hN : n + n' = N)
    (es : a.eval s = .slice q n cap) (ex : a.eval x = .slice p n' c) (hown : OwnK encP 43 2 B w q cap l) (hs : SrcK encP 2 w p c m) (hm : N ≤ maxLen) (hb : N * 16 ≤ 140737488355328) (hB : B ≤ w.heap.size)
    (h : ∀ q' cap' w', OwnK encP 43 2 B w' q' cap' (l ++ m) → Below B w w' → Stays w w' q q' → K (a.put o.dst (.slice q' N cap')) w') :
    if Region.wanted o (yielded ops a.tmps) = true then Oper.wp Try.prog o a w K Q else E := by
  have hw : Region.wanted o (yielded ops a.tmps) = true := by simp [Region.wanted, hgd]
  rw [if_pos hw]
  subst hn hn' hN
  obtain ⟨q', cap', w', hr, h2, h3, h4⟩ := run_appK o.type w B q cap l p c m hown hs hm hb hB
  unfold Oper.wp execOp
  simp only [ho, resolve, invoke, builtin, Sem.run_bind, Sem.run_pure, Result.andThen_ok, List.map_toArray, List.map_cons, List.map_nil, es, ex, hr]
  exact h q' cap' w' h2 h3 h4
/-- Two rows in blocks of their own. -/
def Sep (q q1 : Option Addr) : Prop := ∀ a a1, q = some a → q1 = some a1 → a.block ≠ a1.block
theorem Lst.app {w w' : World} {B L B1 : Nat} {q q1 q1' : Option Addr} {cap cap1 : Nat} {l l1 : List Pt} (h : Lst w B L q cap l) (ho1 : OwnK encP 43 2 B1 w q1 cap1 l1) (hs : Stays w w' q1 q1') (hsep : Sep q q1) : Lst w' B L q cap l ∧ Sep q q1' := by
  have hlt : ∀ a, q = some a → a.block < w.heap.size := fun a e => by
    have := World.ownsRow.lt h.2 a.block (by rw [own_block, e]; rfl)
    exact this.2
  refine ⟨⟨(hs.1.block L h.lt ?_).trans h.1, World.ownsRow.kept h.2 hs.1 ?_⟩, ?_⟩
  · rcases ho1.2 with ⟨h1, _⟩ | ⟨g, _, cur, hv, _, hblk, _⟩
    · injection h1 with h1; subst h1; simp
    · injection hv with h1
      subst h1
      intro e
      simp at e
      subst e
      rw [h.1] at hblk
      simp at hblk
  · rw [own_block]
    cases hq : q with
    | none => exact Or.inl rfl
    | some a =>
      refine Or.inr fun e => ?_
      cases hq1 : q1 with
      | none => rw [hq1] at e; simp at e
      | some a1 => rw [hq1] at e; simp at e; exact hsep a a1 hq hq1 e
  · rcases hs.2 with e | ⟨_, e | ⟨g', e, hg⟩⟩
    · rw [e]; exact hsep
    · intro a a1 _ h1; rw [e] at h1; cases h1
    · intro a a1 ha h1
      rw [e] at h1
      cases h1
      have := hlt a ha
      show a.block ≠ g'
      omega
theorem lenB (L : Nat) (q : Option Addr) (n cap : Nat) (w : World) (c0 : w.cell? ⟨L, 0, none⟩ = some (.slice q n cap)) :
    Calls Try.prog 13 #[.pointer (some ⟨L, 0, none⟩)] w fun e w' => e = .returned (.int .i64 (n : Nat)) ∧ w' = w := by
  go_enter Try.func13, Try.ntmps13
  go_wp2
  go_ret
  exact ⟨rfl, rfl⟩
/-- What Add on one list leaves of another's box. -/
theorem box_turned {w w1 : World} {B L B2 L2 : Nat} {q q' q2 : Option Addr} {cap cap2 : Nat} {l l2 : List Pt} (h : Lst w B L q cap l) (h2 : Lst w B2 L2 q2 cap2 l2) (hs : Stays w w1 q q') (hne : L ≠ L2) (v : Value) : (w1.setCell ⟨L, 0, none⟩ v).cell? ⟨L2, 0, none⟩ = some (.slice q2 l2.length cap2) := by
  have hne2 : some L2 ≠ q.map (·.block) := by
    rcases h.2.2 with ⟨h1, _⟩ | ⟨g, _, cur, hv, _, hblk, _⟩
    · injection h1 with h1; subst h1; simp
    · injection hv with h1
      subst h1
      intro e
      simp at e
      subst e
      rw [h2.1] at hblk
      simp at hblk
  have h3 := (hs.1.block L2 h2.lt hne2).trans h2.1
  have h4 : (w1.setCell ⟨L, 0, none⟩ v).heap[L2]? = some (.cells #[.slice q2 l2.length cap2] 66 (0, 0)) := (Below.heap_setCell _ _ _ _ (by exact Ne.symm hne)).trans h3
  unfold World.cell?; simp [h4]
/-- What Add on a list leaves of another row. -/
theorem row_turned {w w1 : World} {B L B2 : Nat} {q q' q2 : Option Addr} {cap cap2 : Nat} {l l2 : List Pt} (h : Lst w B L q cap l) (h2 : OwnK encP 43 2 B2 w q2 cap2 l2) (hs : Stays w w1 q q') (hsep : Sep q2 q) (v : Value) : OwnK encP 43 2 B2 (w1.setCell ⟨L, 0, none⟩ v) q2 cap2 l2 := by
  have h3 : OwnK encP 43 2 B2 w1 q2 cap2 l2 := by
    refine World.ownsRow.kept h2 hs.1 ?_
    rw [own_block]
    cases hq : q2 with
    | none => exact Or.inl rfl
    | some a =>
      refine Or.inr fun e => ?_
      cases hq1 : q with
      | none => rw [hq1] at e; simp at e
      | some a1 => rw [hq1] at e; simp at e; exact hsep a a1 hq hq1 e
  have hL : w1.heap[L]? = some (.cells #[.slice q l.length cap] 66 (0, 0)) := (hs.1.block L h.lt h.ne).trans h.1
  refine World.ownsRow.kept h3 (grown_set w1 L 0 v) ?_
  rcases h3.2 with ⟨h4, _⟩ | ⟨g, _, cur, hv, _, hblk, _⟩
  · rw [h4]; exact Or.inl rfl
  · refine Or.inr ?_
    rw [hv]
    intro e
    simp [Value.ownBlock] at e
    subst e
    rw [hL] at hblk
    simp at hblk
set_option maxHeartbeats 4000000 in
set_option maxRecDepth 100000 in
theorem postOrder_some (p : Option Addr) (c : Nat) (posts : List Pt) (pm : Option Addr) (cm : Nat) (more : List Pt) (turn : Int) (w : World) (hs : SlOf encP 2 w p c posts) (hm : SlOf encP 2 w pm cm more) (hz : posts.length ≤ 1048576) (hzm : more.length ≤ 1048576) (h0 : 0 < posts.length) :
    Calls Try.prog 5 #[.slice p posts.length c, .slice pm more.length cm, .int .i64 turn] w fun e w' => e = .returned (.bool true) ∧ Below w.heap.size w w' := by
  have mixed : Try.prog.follows .mixedOrders = true := by kernel_rfl
  have hfx := fixed_any w
  have hp0 : (0 : Int) < (posts.length : Int) := by omega
  obtain ⟨u, hu⟩ := u64_nat turn
  have hne : ¬ (posts.length : Int) = 0 := by omega
  have hne2 : ¬ posts.length = 0 := by omega
  obtain ⟨k, hk, hk1⟩ : ∃ k : Nat, (u : Int) % (posts.length : Int) = (k : Int) ∧ k < posts.length := ⟨u % posts.length, by omega, Nat.mod_lt _ h0⟩
  have k0 : (0 : Int) ≤ (k : Int) := by omega
  have k1 : (k : Int) < (posts.length : Int) := by omega
  have k2 : (k : Int) ≤ (posts.length : Int) := by omega
  have hpl : (posts.length : Int) ≤ 1048576 := by omega
  have hks := wrap_nat k (by omega)
  obtain ⟨b, off, hq, hbl, _⟩ := hs.2.2.2 h0
  have hcl := hs.2.1
  have k3 : (posts.length : Int) ≤ (c : Int) := by omega
  have nck : ¬ c = k := by omega
  subst hq
  obtain ⟨n2, hn2⟩ : ∃ n2, posts.length - k = n2 := ⟨_, rfl⟩
  obtain ⟨c2, hc2⟩ : ∃ c2, c - k = c2 := ⟨_, rfl⟩
  have hd := slof_dropA hs hk1
  have hdl : (posts.drop k).length = n2 := by rw [List.length_drop]; exact hn2
  rw [hc2] at hd
  have HD := hide hd
  have HDL := hide hdl
  have HS := hide hs
  have HM := hide hm
  clear hs hm hd hdl
  go_enter Try.func5, Try.ntmps5
  go_wp2_with (first
    | (go_at_call 7; refine hfx.mono ?_; rintro e w2 ⟨rfl, hb2⟩; have HB2 := hide hb2; clear hb2))
  have hn1 : ∀ W, Below w2.heap.size w2 W → Calls Try.prog 8 #[.slice (some ⟨b, off, none⟩) posts.length c] W fun e w' => (∃ L q cap, e = .returned (.pointer (some ⟨L, 0, none⟩)) ∧ W.heap.size ≤ L ∧ Lst w' W.heap.size L q cap (ris posts)) ∧ Below W.heap.size W w' := fun W hb => newL (some ⟨b, off, none⟩) c posts (by omega) W (((unhide HS).below (unhide HB2)).below hb)
  have hn3 : ∀ W, Below w2.heap.size w2 W → Calls Try.prog 8 #[.slice pm more.length cm] W fun e w' => (∃ L q cap, e = .returned (.pointer (some ⟨L, 0, none⟩)) ∧ W.heap.size ≤ L ∧ Lst w' W.heap.size L q cap (ris more)) ∧ Below W.heap.size W w' := fun W hb => newL pm cm more (by omega) W (((unhide HM).below (unhide HB2)).below hb)
  have hn2 : ∀ (W : World) (q5 : Option Addr) (cap5 B5 : Nat), OwnK encP 43 2 B5 W q5 cap5 (posts.drop k ++ posts) → Calls Try.prog 8 #[.slice q5 (n2 + posts.length) cap5] W fun e w' => (∃ L q cap, e = .returned (.pointer (some ⟨L, 0, none⟩)) ∧ W.heap.size ≤ L ∧ Lst w' W.heap.size L q cap (ris posts)) ∧ Below W.heap.size W w' := fun W q5 cap5 B5 ho => by
    have hle : (posts.drop k ++ posts).length = n2 + posts.length := by rw [List.length_append, unhide HDL]
    have := newL q5 cap5 (posts.drop k ++ posts) (by rw [hle]; omega) W ho.ls
    rw [hle, show ris (posts.drop k ++ posts) = ris posts from ris_ext fun x => by
      rw [List.mem_append]
      exact ⟨fun h => h.elim (fun h => List.mem_of_mem_drop h) id, Or.inr⟩] at this
    exact this
  have hsz2 := (unhide HB2).size
  go_region_held3 (fun _ => True) (trivial) (first
    | (go_at_call 8; refine (hn3 _ (unhide HB6)).mono ?_; rintro e w7 ⟨⟨Lc, qc, capc, rfl, hLcB, hlc⟩, hb7⟩; have HLac : Hid (La ≠ Lc) := hide (by have := (unhide HLa6).lt; omega); have HLc := hide hlc; have HLa := hide ((unhide HLa6).below hb7); have HLb := hide ((unhide HLb6).below hb7); have HB7 := hide ((unhide HB6).trans (hb7.mono (unhide HB6).size)); clear hlc hb7)
    | (go_at_call 8; refine (hn2 _ q5 cap5 _ (unhide HO5)).mono ?_; rintro e w6 ⟨⟨Lb, qb, capb, rfl, hLbB, hlb⟩, hb6⟩; have HLab : Hid (La ≠ Lb) := hide (by have := (unhide HLa5).lt; omega); have HLb6 := hide hlb; have HLa6 := hide ((unhide HLa5).below hb6); have HB6 := hide ((unhide HB5).trans (hb6.mono (unhide HB5).size)); clear hlb hb6)
    | (refine step_appK (by rfl) _ _ (by rfl) w2.heap.size q4 cap4 (posts.drop k) (some ⟨b, off, none⟩) c posts n2 posts.length (n2 + posts.length) (unhide HDL) rfl rfl (by rfl) (by rfl) (unhide HO4) (((unhide HS).below (unhide HB2)).below (unhide HB4)).src (by unfold maxLen; omega) (by omega) (unhide HB4).size ?_; intro q5 cap5 w5 ho5 hb5 hs5; have HO5 := hide ho5; have HLa5 := hide ((unhide HLa4).app (unhide HO4) hs5 (unhide HSep4)).1; have HB5 := hide ((unhide HB4).trans hb5); clear ho5 hb5 hs5)
    | (refine step_appK (by rfl) _ _ (by rfl) w2.heap.size (some ⟨w3.heap.size, 0, none⟩) 0 [] (some ⟨b, off + k * 2, none⟩) c2 (posts.drop k) 0 n2 n2 rfl (unhide HDL) (by simp) (by rfl) (by rfl) (OwnK.made w2.heap.size w3 (unhide HB3).size) ((((unhide HD).below (unhide HB2)).below (unhide HB3)).below ((Below.refl _ _).alloc (Nat.le_refl _) _)).src (by unfold maxLen; omega) (by omega) (by have := (unhide HB3).size; simp; omega) ?_; intro q4 cap4 w4 ho4 hb4 hs4; have hla := ((unhide HLa3).below ((Below.refl _ _).alloc (Nat.le_refl _) (.cells #[] 43))).app (OwnK.made w2.heap.size w3 (unhide HB3).size) hs4 (unhide HSep3); have HO4 := hide ho4; have HLa4 := hide hla.1; have HSep4 := hide hla.2; have HB4 := hide (((unhide HB3).alloc (unhide HB3).size _).trans hb4); clear ho4 hb4 hs4 hla)
    | (refine step_appK (by rfl) _ _ (by rfl) w2.heap.size (some ⟨w2.heap.size, 0, none⟩) 0 [] (some ⟨b, off + k * 2, none⟩) c2 (posts.drop k) 0 n2 n2 rfl (unhide HDL) (by simp) (by rfl) (by rfl) (unhide HO0) (((unhide HD).below (unhide HB2)).below (unhide HB3)).src (by unfold maxLen; omega) (by omega) (unhide HB3).size ?_; intro q4 cap4 w4 ho4 hb4 hs4; have hla := (unhide HLa3).app (unhide HO0) hs4 (unhide HSep3); have HO4 := hide ho4; have HLa4 := hide hla.1; have HSep4 := hide hla.2; have HB4 := hide ((unhide HB3).trans hb4); clear ho4 hb4 hs4 hla)
    | (go_at_call 8; (with_reducible refine (hn1 w2.drew (Below.refl _ _).drew).mono ?_); rintro e w3 ⟨⟨La, qa, capa, rfl, hLaB, hla⟩, hb3⟩; have HLa3 := hide hla; have HB3 := hide (below_undrew hb3); have HSep3 : Hid (Sep qa (some ⟨w3.heap.size, 0, none⟩)) := hide (fun a a1 e1 e2 => by cases e2; have := World.ownsRow.lt hla.2 a.block (by rw [own_block, e1]; rfl); show a.block ≠ w3.heap.size; omega); clear hla hb3)
    | (go_at_call 8; (with_reducible refine (hn1 (w2.alloc (.cells #[] 43)).drew ((Below.refl _ _).alloc (Nat.le_refl _) _).drew).mono ?_); rintro e w3 ⟨⟨La, qa, capa, rfl, hLaB, hla⟩, hb3⟩; have hb3' := below_undrew hb3; have HLa3 := hide hla; have HO0 := hide ((OwnK.made (enc := encP) (e := 43) (k := 2) w2.heap.size w2 (Nat.le_refl _)).below hb3'); have HB3 := hide (((Below.refl _ w2).alloc (Nat.le_refl _) (.cells #[] 43)).trans (hb3'.mono (by simp))); have HSep3 : Hid (Sep qa (some ⟨w2.heap.size, 0, none⟩)) := hide (fun a a1 e1 e2 => by cases e2; have := (World.ownsRow.lt hla.2 a.block (by rw [own_block, e1]; rfl)).1; simp at this; show a.block ≠ w2.heap.size; omega); clear hla hb3 hb3'))
  all_goals
    have HLA := hide (show Lst w7 w2.heap.size La qa capa (ris posts) from ⟨(unhide HLa).1, (unhide HLa).2.mono (by simp)⟩)
    have hLA : w2.heap.size ≤ La := Nat.le_trans (by simp) hLaB
    have hsz7 := (unhide HB7).size
    have hrp := ris_len posts
    have hrm := ris_len more
    have hst := str_ris posts
    have HST := hide hst
    have hral := ris_app_len hst more
    have hral2 := ris_app_len hst (ris more)
    rw [ris_app] at hral2
    have HRA := hide (ris_app (ris posts) more)
    have hstl := str_ris (ris posts ++ more)
    obtain ⟨la, hla0⟩ : ∃ la, ris posts = la := ⟨_, rfl⟩
    obtain ⟨lc, hlc0⟩ : ∃ lc, ris more = lc := ⟨_, rfl⟩
    rw [hla0] at HLA HLb hrp hral hral2 HRA hstl HST
    rw [hlc0] at HLc hrm hral2 HRA
    obtain ⟨lal, hlal⟩ : ∃ lal, ris (la ++ more) = lal := ⟨_, rfl⟩
    have HLAL := hide hlal
    rw [hlal] at hral hral2 HRA hstl
    obtain ⟨n, hn⟩ : ∃ n, lal.length - la.length = n := ⟨_, rfl⟩
    have hnw : IntKind.i64.wrap ((lal.length : Int) - (la.length : Int)) = (n : Int) := by
      rw [show (lal.length : Int) - (la.length : Int) = (n : Int) by omega]; exact wrap_nat n (by omega)
    have hnn : ((n : Int) == (n : Int)) = true := by simp
    have hnle : (n : Int) ≤ (lc.length : Int) := by omega
    have hlb : (lal.length : Int) ≤ 100000000000000 := by omega
    have hall1 : ∀ (W : World) (B L : Nat) (q : Option Addr) (cap : Nat), Lst W B L q cap la → Calls Try.prog 11 #[.pointer (some ⟨L, 0, none⟩)] W fun e w' => (∃ q' cap', e = .returned (.slice q' la.length cap') ∧ OwnK encP 43 2 W.heap.size w' q' cap' la) ∧ Below W.heap.size W w' := fun W B L q cap h => allL B L q cap la W (by omega) h
    have hall2 : ∀ (W : World) (B L : Nat) (q : Option Addr) (cap : Nat), Lst W B L q cap lal → Calls Try.prog 11 #[.pointer (some ⟨L, 0, none⟩)] W fun e w' => (∃ q' cap', e = .returned (.slice q' lal.length cap') ∧ OwnK encP 43 2 W.heap.size w' q' cap' lal) ∧ Below W.heap.size W w' := fun W B L q cap h => allL B L q cap lal W (by omega) h
    have hsame1 : ∀ (W : World) (q q' : Option Addr) (c c' : Nat), SlOf encP 2 W q c la → SlOf encP 2 W q' c' la → Calls Try.prog 12 #[.slice q la.length c, .slice q' la.length c'] W fun e w' => e = .returned (.bool true) ∧ Below W.heap.size W w' := fun W q q' c c' h h' => by
      have := sameP q c la q' c' la W h h' (by omega)
      rw [decide_eq_true rfl] at this
      exact this
    have hsame2 : ∀ (W : World) (q q' : Option Addr) (c c' : Nat), SlOf encP 2 W q c lal → SlOf encP 2 W q' c' lal → Calls Try.prog 12 #[.slice q lal.length c, .slice q' lal.length c'] W fun e w' => e = .returned (.bool true) ∧ Below W.heap.size W w' := fun W q q' c c' h h' => by
      have := sameP q c lal q' c' lal W h h' (by omega)
      rw [decide_eq_true rfl] at this
      exact this
    have hmerge : ∀ (W : World) (B1 B2 : Nat) (q1 q2 : Option Addr) (cap1 cap2 : Nat), Lst W B1 La q1 cap1 la → Lst W B2 Lc q2 cap2 lc → Calls Try.prog 15 #[.slice (some ⟨W.heap.size, 0, none⟩) 2 2] (W.alloc (.cells #[.pointer (some ⟨La, 0, none⟩), .pointer (some ⟨Lc, 0, none⟩)] 25)) fun e w' => (∃ q' cap', e = .returned (.slice q' lal.length cap') ∧ OwnK encP 43 2 W.heap.size w' q' cap' lal) ∧ Below W.heap.size W w' := fun W B1 B2 q1 q2 cap1 cap2 h1 h2 => by
      have hb0 : Below W.heap.size W (W.alloc (.cells #[.pointer (some ⟨La, 0, none⟩), .pointer (some ⟨Lc, 0, none⟩)] 25)) := (Below.refl _ _).alloc (Nat.le_refl _) _
      have hl1 := h1.below hb0
      have hl2 := h2.below hb0
      have hblk := World.alloc_heap_new W (.cells #[.pointer (some ⟨La, 0, none⟩), .pointer (some ⟨Lc, 0, none⟩)] 25)
      have hcl : ∀ j, (W.alloc (.cells #[.pointer (some ⟨La, 0, none⟩), .pointer (some ⟨Lc, 0, none⟩)] 25)).cell? ⟨W.heap.size, j, none⟩ = (#[.pointer (some ⟨La, 0, none⟩), .pointer (some ⟨Lc, 0, none⟩)] : Array Value)[j]? := fun j => cell_of_row _ _ _ _ 25 (0, 0) hblk
      have e1 : allOf [(La, la), (Lc, lc)] = la ++ lc := by simp [allOf]
      have := mergeL (some ⟨W.heap.size, 0, none⟩) 2 [(La, la), (Lc, lc)] (W.alloc (.cells #[.pointer (some ⟨La, 0, none⟩), .pointer (some ⟨Lc, 0, none⟩)] 25)) (fun j x hj => by
          match j, hj with
          | 0, hj =>
            simp at hj; subst hj
            exact ⟨W.heap.size, 0, rfl, by simp, by rw [Nat.zero_add, hcl]; rfl, q1, cap1, hl1.lt, hl1.cell, hl1.2.ls⟩
          | 1, hj =>
            simp at hj; subst hj
            exact ⟨W.heap.size, 0, rfl, by simp, by rw [Nat.zero_add, hcl]; rfl, q2, cap2, hl2.lt, hl2.cell, hl2.2.ls⟩
          | j + 2, hj => simp at hj) (by show 2 ≤ 100000000000000; decide) (by rw [e1, List.length_append]; omega)
      rw [e1, unhide HRA] at this
      exact this.mono fun e w' ⟨⟨q', cap', he, ho⟩, hb⟩ => ⟨⟨q', cap', he, ho.mono (by simp)⟩, hb0.trans (hb.mono (by simp))⟩
    have hadd : ∀ (W : World) (q : Option Addr) (cap : Nat), Lst W w2.heap.size La q cap la → Below w2.heap.size w2 W → Calls Try.prog 21 #[.pointer (some ⟨La, 0, none⟩), .slice pm more.length cm] W fun e w' => e = .returned (.int .i64 (n : Nat)) ∧ Turned w2.heap.size La W q lal w' := fun W q cap h hb => by
      have := addL w2.heap.size La q cap la pm cm more W h (unhide HST) (((unhide HM).below (unhide HB2)).below hb) hb.size (by omega)
      rw [unhide HLAL, hn] at this
      exact this
    clear hfx hn1 hn2 hn3 hu hk hks hn hlal hla0 hlc0 hst
    go_wp2_with (first
      | (go_at_call 11; refine (hall2 _ _ La q11 cap11 (unhide HLa11)).mono ?_; rintro e w12 ⟨⟨q12, cap12, rfl, ho12⟩, hb12⟩; have HO12 := hide ho12; have HM12 := hide ((unhide HO11).below hb12); have HCb := hide ((hb12.cell (p := ⟨Lb, 0, none⟩) (block_lt_of_cell (unhide HCb11))).trans (unhide HCb11)); have HCc := hide ((hb12.cell (p := ⟨Lc, 0, none⟩) (block_lt_of_cell (unhide HCc11))).trans (unhide HCc11)); have HB12 := hide ((unhide HB11).trans (hb12.mono (unhide HB11).size)); clear ho12 hb12)
      | (go_at_call 21; refine (hadd _ qa capa (unhide HLA10) (unhide HB10)).mono ?_; rintro e w11 ⟨rfl, q11, cap11, w1, hs, hb1, ho, hw⟩; have HLa11 := hide (show Lst w11 w2.heap.size La q11 cap11 lal from hw ▸ ((unhide HLA10).put hs ho).2); have HO11 := hide (show OwnK encP 43 2 _ w11 q10 cap10 lal from hw ▸ row_turned (unhide HLA10) (unhide HO10) hs (unhide HSep10) _); have HCb11 := hide (show w11.cell? ⟨Lb, 0, none⟩ = some (.slice qb la.length capb) from hw ▸ box_turned (unhide HLA10) (unhide HLb10) hs (unhide HLab) _); have HCc11 := hide (show w11.cell? ⟨Lc, 0, none⟩ = some (.slice qc lc.length capc) from hw ▸ box_turned (unhide HLA10) (unhide HLc10) hs (unhide HLac) _); have HB11 := hide (show Below w2.heap.size w2 w11 from hw ▸ ((unhide HB10).trans hb1).setCell (p := ⟨La, 0, none⟩) hLA _); clear hs hb1 ho hw)
      | (go_at_call 15; refine (hmerge _ _ _ qa qc capa capc (unhide HLA9b) (unhide HLc9b)).mono ?_; rintro e w10 ⟨⟨q10, cap10, rfl, ho10⟩, hb10⟩; have HO10 := hide ho10; have HLA10 := hide ((unhide HLA9b).below hb10); have HLb10 := hide ((unhide HLb9b).below hb10); have HLc10 := hide ((unhide HLc9b).below hb10); have HB10 := hide ((unhide HB9b).trans (hb10.mono (unhide HB9b).size)); have HSep10 : Hid (Sep q10 qa) := hide (fun a a1 e1 e2 => by have h1 := (World.ownsRow.lt ho10 a.block (by rw [own_block, e1]; rfl)).1; have h2 := (World.ownsRow.lt (unhide HLA9b).2 a1.block (by rw [own_block, e2]; rfl)).2; omega); clear ho10 hb10)
      | (go_at_call 12; refine (hsame1 _ q8 q9 cap8 cap9 (unhide HO8b) (unhide HO9)).mono ?_; rintro e w9b ⟨rfl, hb9b⟩; have HLA9b := hide ((unhide HLA9).below hb9b); have HLb9b := hide ((unhide HLb9).below hb9b); have HLc9b := hide ((unhide HLc9).below hb9b); have HB9b := hide ((unhide HB9).trans (hb9b.mono (unhide HB9).size)); clear hb9b)
      | (go_at_call 11; refine (hall1 _ _ Lb qb capb (unhide HLb8)).mono ?_; rintro e w9 ⟨⟨q9, cap9, rfl, ho9⟩, hb9⟩; have HO9 := hide ho9.ls; have HO8b := hide ((unhide HO8).below hb9); have HLA9 := hide ((unhide HLA8).below hb9); have HLb9 := hide ((unhide HLb8).below hb9); have HLc9 := hide ((unhide HLc8).below hb9); have HB9 := hide ((unhide HB8).trans (hb9.mono (unhide HB8).size)); clear ho9 hb9)
      | (go_at_call 11; refine (hall1 _ _ La qa capa (unhide HLA)).mono ?_; rintro e w8 ⟨⟨q8, cap8, rfl, ho8⟩, hb8⟩; have HO8 := hide ho8.ls; have HLA8 := hide ((unhide HLA).below hb8); have HLb8 := hide ((unhide HLb).below hb8); have HLc8 := hide ((unhide HLc).below hb8); have HB8 := hide ((unhide HB7).trans (hb8.mono hsz7)); clear ho8 hb8))
    clear hall1 hall2 hsame1 hmerge hadd
    go_loopw [68] (fun s wr => ∃ i : Nat, i ≤ lal.length ∧ s = .int .i64 i ∧ Below w12.heap.size w12 wr) (fun s _ => lal.length - (intOf s).toNat)
    case atStart => exact ⟨0, Nat.zero_le _, rfl, Below.refl _ _⟩
    case round =>
      obtain ⟨i, hi, rfl, hbw⟩ := hrel
      have HBw := hide hbw
      by_cases hlt : i < lal.length
      · have ki0 : (0 : Int) ≤ (i : Int) := by omega
        have ki1 : (i : Int) < (lal.length : Int) := by omega
        by_cases hi0 : i = 0
        · subst hi0
          have g1 : decide ((0 : Int) < 0) = false := by decide
          clear hbw hstl
          go_wp2
          refine wp_region_quiet_below (by assumption) (by kernel_rfl) ?_
          repeat (go_big_quiet_step (fail))
          refine wpQuiet_nil ?_
          intro w13 hw'
          obtain ⟨⟨dq, osq⟩, hw''⟩ := hw'
          have b13 := below_regrown wr dq osq
          dsimp only at hw''
          rw [← hw''] at b13
          have HB13 := hide b13
          clear hw'' b13
          go_wp2
          go_roundw
          case rel => exact ⟨0 + 1, by omega, by go_num, (unhide HBw).trans ((unhide HB13).mono (unhide HBw).size)⟩
          case measure => simp [intOf]; omega
        · obtain ⟨j, rfl⟩ : ∃ j, i = j + 1 := ⟨i - 1, by omega⟩
          obtain ⟨y, hy, _⟩ := get_at (l := lal) (k := j) (by omega)
          obtain ⟨x, hx, _⟩ := get_at (l := lal) (k := j + 1) hlt
          have hyx := (lt_def y x).1 (hstl.at (by omega) hy hx)
          obtain ⟨b1, o1, hq1, _, c0, c1⟩ := postAt ((unhide HO12).ls.below hbw) hx
          obtain ⟨b2, o2, hq2, _, d0, d1⟩ := postAt ((unhide HO12).ls.below hbw) hy
          have hqq := hq1.symm.trans hq2
          obtain ⟨rfl, rfl⟩ : b1 = b2 ∧ o1 = o2 := by injection hqq with hqq; injection hqq with h1 h2 _; exact ⟨h1, h2⟩
          have r0 := cell_regrown c0
          have r1 := cell_regrown c1
          have r2 := cell_regrown d0
          have r3 := cell_regrown d1
          have j0 : (0 : Int) ≤ (j : Int) := by omega
          have j1 : (j : Int) < (lal.length : Int) := by omega
          have js := wrap_nat j (by omega)
          have g1 : decide ((0 : Int) < (j : Int) + 1) = true := decide_eq_true (by omega)
          have jt : ((j : Int) + 1).toNat = j + 1 := by omega
          have kj0 : (0 : Int) ≤ (j : Int) + 1 := by omega
          have kj1 : (j : Int) + 1 < (lal.length : Int) := by omega
          have hlx : decide (x.1 < y.1) = false := decide_eq_false (by omega)
          subst hq1
          clear hbw hstl hx hy c0 c1 d0 d1 hq2 hqq
          rcases hyx with hyx | ⟨hyx, hy2, hx2⟩
          · have hxe : (x.1 == y.1) = false := by rw [beq_eq_false_iff_ne]; omega
            clear hyx
            go_wp2
            refine wp_region_quiet_below (by assumption) (by kernel_rfl) ?_
            repeat (go_big_quiet_step (fail))
            refine wpQuiet_nil ?_
            intro w13 hw'
            obtain ⟨⟨dq, osq⟩, hw''⟩ := hw'
            have b13 := below_regrown wr dq osq
            dsimp only at hw''
            rw [← hw''] at b13
            have HB13 := hide b13
            clear hw'' b13 r0 r1 r2 r3
            go_wp2
            go_roundw
            case rel => exact ⟨j + 1 + 1, by omega, by go_num, (unhide HBw).trans ((unhide HB13).mono (unhide HBw).size)⟩
            case measure => simp [intOf]; omega
          · have hxe : (x.1 == y.1) = true := by rw [beq_iff_eq]; omega
            rw [hx2] at r1
            rw [hy2] at r3
            clear hyx hx2 hy2
            go_wp2
            refine wp_region_quiet_below (by assumption) (by kernel_rfl) ?_
            repeat (go_big_quiet_step (fail))
            refine wpQuiet_nil ?_
            intro w13 hw'
            obtain ⟨⟨dq, osq⟩, hw''⟩ := hw'
            have b13 := below_regrown wr dq osq
            dsimp only at hw''
            rw [← hw''] at b13
            have HB13 := hide b13
            clear hw'' b13 r0 r1 r2 r3
            go_wp2
            go_roundw
            case rel => exact ⟨j + 1 + 1, by omega, by go_num, (unhide HBw).trans ((unhide HB13).mono (unhide HBw).size)⟩
            case measure => simp [intOf]; omega
      · have ki1 : ¬ (i : Int) < (lal.length : Int) := by omega
        have hs2 := hsame2 wr q10 q12 cap10 cap12 ((unhide HM12).ls.below hbw) ((unhide HO12).ls.below hbw)
        clear hbw hstl hsame2
        go_wp2_with (first
          | (go_at_call 13; (with_reducible refine (lenB Lc qc lc.length capc _ (unhide HCc13)).mono ?_); rintro e w14 ⟨rfl, rfl⟩)
          | (go_at_call 13; (with_reducible refine (lenB Lb qb la.length capb _ (unhide HCb13)).mono ?_); rintro e w14 ⟨rfl, rfl⟩)
          | (go_at_call 12; refine hs2.mono ?_; rintro e w13 ⟨rfl, hb13⟩; have HCb13 := hide ((((unhide HBw).trans (hb13.mono (unhide HBw).size)).cell (p := ⟨Lb, 0, none⟩) (block_lt_of_cell (unhide HCb))).trans (unhide HCb)); have HCc13 := hide ((((unhide HBw).trans (hb13.mono (unhide HBw).size)).cell (p := ⟨Lc, 0, none⟩) (block_lt_of_cell (unhide HCc))).trans (unhide HCc)); have HB13 := hide ((unhide HB12).trans (((unhide HBw).trans (hb13.mono (unhide HBw).size)).mono (unhide HB12).size)); clear hb13))
        go_ret
        exact ⟨rfl, (unhide HB2).trans ((unhide HB13).mono hsz2)⟩
end Go.Proofs.Ytelgpmjafaopmaa

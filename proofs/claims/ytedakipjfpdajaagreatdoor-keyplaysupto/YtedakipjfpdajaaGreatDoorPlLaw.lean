/- KeyPlays's law: Of and Event are the document's, what is handed in stays, each answer is new memory. -/
import Derived.Test.YtedakipjfpdajaaGreatDoorPlE
import Derived.Test.YtedakipjfpdajaaGreatDoorOverG
import Derived.Test.YtedakipjfpdajaaGreatDoorZao
namespace Go.Proofs.YtedakipjfpdajaaGreatDoor
open Go.RowKit Go.Sort Go.Shelf

theorem own_geK {B c : Nat} {w : World} {q : Option Addr} {l : List Ky} (h : OwnK encK 46 5 B w q c l) {a : Addr} (e : q = some a) : B ≤ a.block := by
  rcases h.2 with ⟨h1, _⟩ | ⟨g, cap', cur, hv, hB, hblk, _⟩
  · injection h1 with h1; rw [e] at h1; cases h1
  · injection hv with h1
    rw [e] at h1; cases h1
    exact hB
theorem sl_grown {w w' : World} {r : Option Nat} {q : Option Addr} {c : Nat} {l : List Ky} (h : SlOf encK 5 w q c l) (hg : w.grownBy w' r) (hr : ∀ a, q = some a → some a.block ≠ r) : SlOf encK 5 w' q c l := by
  refine ⟨h.1, h.2.1, h.2.2.1, fun h0 => ?_⟩
  obtain ⟨b, off, hq, hb, hc⟩ := h.2.2.2 h0
  refine ⟨b, off, hq, Nat.lt_of_lt_of_le hb hg.size, fun j u hj => ?_⟩
  have hcell := hc j u hj
  have hbk := hg.block b hb (hr _ hq)
  unfold World.cell? at hcell ⊢
  rw [hbk]; exact hcell
theorem own_grown {B c : Nat} {w w' : World} {r : Option Nat} {q : Option Addr} {l : List Ky} (h : OwnK encK 46 5 B w q c l) (hg : w.grownBy w' r) (hr : ∀ a, q = some a → some a.block ≠ r) : OwnK encK 46 5 B w' q c l := by
  refine ⟨h.1, ?_⟩
  rcases h.2 with h2 | ⟨g, cap', cur, hv, hB, hblk, rest⟩
  · exact Or.inl h2
  · refine Or.inr ⟨g, cap', cur, hv, hB, ?_, rest⟩
    rw [hg.block g (Array.getElem?_eq_some_iff.1 hblk).1 (by injection hv with h1; exact hr _ h1)]
    exact hblk
theorem below_grown {w w1 w2 : World} {r : Option Nat} (h : Below w.heap.size w w1) (hg : w1.grownBy w2 r) (hr : ∀ k, r = some k → w.heap.size ≤ k) : Below w.heap.size w w2 :=
  ⟨hg.os.trans h.os, hg.tape.trans h.tape, hg.output.trans h.output, Nat.le_trans h.size hg.size, fun k hk => (hg.block k (Nat.lt_of_lt_of_le hk h.size) (fun e => by have := hr k e.symm; omega)).trans (h.block k hk)⟩
/-- Two lists of keys made behind a world, apart. -/
def Two (W V : World) (q7 : Option Addr) (c7 : Nat) (q8 : Option Addr) (c8 : Nat) (K : List Ky) : Prop := OwnK encK 46 5 W.heap.size V q7 c7 K ∧ OwnK encK 46 5 W.heap.size V q8 c8 K ∧ Below W.heap.size W V ∧ ∀ x y, q7 = some x → q8 = some y → y.block ≠ x.block
set_option maxHeartbeats 8000000 in
set_option maxRecDepth 100000 in
theorem keyPlays_law (kind : Int) (attr : ByteArray) (qi : Option Addr) (ci : Nat) (ints : List Int) (qw : Option Addr) (cw : Nat) (words : List ByteArray) (lo hi : Int) (qe : Option Addr) (ce : Nat) (ev : List Pr) (w : World) (hG : G w) (h1 : SlOf encI 1 w qi ci ints) (h2 : SlOf encS 1 w qw cw words) (h3 : SlOf encR 4 w qe ce ev) (l1 : ints.length * 8 + 64 ≤ 140737488355328) (l2 : words.length * 16 + 64 ≤ 140737488355328) (l3 : ev.length * 3696 + 112 ≤ 140737488355328) (hf : ∀ x ∈ ev, x.name.size ≤ maxLen) :
    Calls Tryz.prog 3 #[.agg #[.int .i64 kind, .string attr, .slice qi ints.length ci, .slice qw words.length cw, .int .i64 lo, .int .i64 hi], .slice qe ev.length ce] w fun e w' => e = .returned (.bool true) ∧ Below w.heap.size w w' := by
  have mixed : Tryz.prog.follows .mixedOrders = true := by kernel_rfl
  obtain ⟨X, HX⟩ : ∃ X, w.alloc (.cells #[.int .i64 kind, .string attr, .slice qi ints.length ci, .slice qw words.length cw, .int .i64 lo, .int .i64 hi] 25) = X := ⟨_, rfl⟩
  have bX : Below w.heap.size w X := by rw [← HX]; exact (Below.refl _ _).alloc (Nat.le_refl _) _
  have x8 : X.heap[w.heap.size]? = some (.cells #[.int .i64 kind, .string attr, .slice qi ints.length ci, .slice qw words.length cw, .int .i64 lo, .int .i64 hi] 25 (0, 0)) := by rw [← HX]; exact World.alloc_heap_new _ _
  have hlt0 : w.heap.size < X.heap.size := (Array.getElem?_eq_some_iff.1 x8).1
  have fL1 := (of_facts kind attr ints words lo hi).1
  have fE : ((fstR ev).flatMap evKeys).length * 56 + 112 ≤ 140737488355328 := by
    have := ev_len (fstR ev)
    have := fstR_len ev
    omega
  have hMp := fun (W : World) (hW : Below w.heap.size w W) => memPred_any kind attr ints words lo hi qi ci qw cw W (h1.below hW) (h2.below hW) l1 l2
  have hMe := fun (W : World) (hW : Below w.heap.size w W) => memP qe ce ev W (h3.below hW) (by omega)
  have hRo := fun (W : World) (hW : Below w.heap.size w W) => refOf_any kind attr qi ci ints qw cw words lo hi W (h1.below hW) (h2.below hW) (by omega) (by omega)
  have hRe := fun (W : World) (hW : Below w.heap.size w W) => refEvent_any qe ce ev W (by omega) (h3.below hW) hf
  simp only [event_ris] at hRe
  have hOf := fun (W : World) (g1 k1 g2 k2 : Nat) (s1 : SlOf encI 1 W (some ⟨g1, 0, none⟩) k1 ints) (s2 : SlOf encS 1 W (some ⟨g2, 0, none⟩) k2 words) (hW : Below w.heap.size w W) => of_any kind attr (some ⟨g1, 0, none⟩) k1 ints (some ⟨g2, 0, none⟩) k2 words lo hi W s1 s2 (by omega) (by omega) (hG.below' hW)
  have hEv := fun (W : World) (g3 k3 : Nat) (s : SlOf encR 4 W (some ⟨g3, 0, none⟩) k3 ev) => event_of (some ⟨g3, 0, none⟩) ev.length k3 W (fstR ev) (by have := fstR_len ev; omega) (firsts_any (some ⟨g3, 0, none⟩) k3 ev W (by omega) s)
  obtain ⟨K, hK⟩ : ∃ K, keysOf kind attr ints words lo hi = K := ⟨_, rfl⟩
  obtain ⟨E, hE⟩ : ∃ E, (fstR ev).flatMap evKeys = E := ⟨_, rfl⟩
  rw [hK] at fL1
  rw [hE] at fE
  simp only [hK] at hOf hRo
  simp only [hE] at hEv hRe
  have hSk := fun (W : World) (qa : Option Addr) (ca : Nat) (qb : Option Addr) (cb : Nat) (ha : SlOf encK 5 W qa ca K) (hb : SlOf encK 5 W qb cb K) => sameP qa ca K qb cb K W ha hb (by omega)
  have hSe := fun (W : World) (qa : Option Addr) (ca : Nat) (qb : Option Addr) (cb : Nat) (ha : SlOf encK 5 W qa ca E) (hb : SlOf encK 5 W qb cb E) => sameP qa ca E qb cb E W ha hb (by omega)
  simp only [decide_true] at hSk hSe
  have hfX := fixedK X (hG.below' bX)
  have m1 : ints.length ≤ 100000000000000 := by omega
  have m2 : words.length ≤ 100000000000000 := by omega
  have m3 : ev.length ≤ 100000000000000 := by omega
  have H1 := hide h1
  have H2 := hide h2
  have H3 := hide h3
  have X8 := hide x8
  have BX := hide bX
  have HOF := hide hOf
  have HEV := hide hEv
  have HMP := hide hMp
  have HME := hide hMe
  have HRO := hide hRo
  have HRE := hide hRe
  have HSK := hide hSk
  have HSE := hide hSe
  clear hK hE x8 bX hG h1 h2 h3 hOf hEv hMp hMe hRo hRe hSk hSe hf l1 l2
  go_enter Tryz.func3, Tryz.ntmps3
  go_upto_region 3 with (go_at_call 6; refine hfX.mono ?_; rintro e w1 ⟨rfl, b1⟩; have B1 := hide b1; clear b1)
  clear HX hfX
  have W8 := hide (((unhide B1).block _ hlt0).trans (unhide X8))
  have l8 : w.heap.size < w1.heap.size := (Array.getElem?_eq_some_iff.1 (unhide W8)).1
  have BW := hide (below_sub (unhide BX) (unhide B1))
  obtain ⟨a0, a1, a2, a3, a4, a5⟩ := of6R (unhide W8)
  have c7 := unhide HMP w1 (unhide BW)
  go_upto_region 4 with (first
    | (go_at_call 7; refine c7.mono ?_; rintro e w2 ⟨⟨g1, k1, g2, k2, rfl, n1, r1, z1, n2, r2, z2⟩, b2⟩; have N1 := hide n1; have N2 := hide n2; have R1 := hide r1; have R2 := hide r2; have Z1 := hide z1; have Z2 := hide z2; have B2 := hide b2; have BW2 := hide (below_sub (unhide BW) b2); have c8 := unhide HME w2 (below_sub (unhide BW) b2); clear n1 n2 r1 r2 z1 z2 b2)
    | (go_at_call 8; refine c8.mono ?_; rintro e w3 ⟨⟨g3, k3, rfl, n3, r3⟩, b3⟩; have N3 := hide n3; have R3 := hide r3; have B3 := hide b3; have BW3 := hide (below_sub (unhide BW2) b3); have N1' := hide ((unhide N1).below b3); have N2' := hide ((unhide N2).below b3); clear n3 r3 b3))
  obtain ⟨Y, HY⟩ : ∃ Y, w3.alloc (.cells #[.int .i64 kind, .string attr, .slice (some ⟨g1, 0, none⟩) ints.length k1, .slice (some ⟨g2, 0, none⟩) words.length k2, .int .i64 lo, .int .i64 hi] 25) = Y := ⟨_, rfl⟩
  rw [HY]
  have y8 : Y.heap[w3.heap.size]? = some (.cells #[.int .i64 kind, .string attr, .slice (some ⟨g1, 0, none⟩) ints.length k1, .slice (some ⟨g2, 0, none⟩) words.length k2, .int .i64 lo, .int .i64 hi] 25 (0, 0)) := by rw [← HY]; exact World.alloc_heap_new _ _
  have bY : Below w3.heap.size w3 Y := by rw [← HY]; exact (Below.refl _ _).alloc (Nat.le_refl _) _
  have lY : w3.heap.size < Y.heap.size := (Array.getElem?_eq_some_iff.1 y8).1
  have BYw := hide (below_sub (unhide BW3) bY)
  have sYw := (unhide BYw).size
  have M1 := hide ((unhide N1').below bY)
  have M2 := hide ((unhide N2').below bY)
  have M3 := hide ((unhide N3).ls.2.2.2.below bY)
  have z3 := (unhide N3).ls.2.2.1
  have Y8 := hide y8
  have X8Y := hide (((unhide BYw).mono (Nat.zero_le _)) |> fun _ => (bY.block _ (Nat.lt_of_lt_of_le l8 (Nat.le_trans (unhide B2).size (unhide B3).size))).trans (((unhide B3).block _ (Nat.lt_of_lt_of_le l8 (unhide B2).size)).trans (((unhide B2).block _ l8).trans (unhide W8))))
  have lX : w.heap.size < Y.heap.size := (Array.getElem?_eq_some_iff.1 (unhide X8Y)).1
  have sI : ∀ W, Below Y.heap.size Y W → SlOf encI 1 W (some ⟨g1, 0, none⟩) k1 ints := fun W hW => ⟨(fun h => by cases h), by have := unhide R1; omega, unhide Z1, ((unhide M1).below hW).take (by decide)⟩
  have sS : ∀ W, Below Y.heap.size Y W → SlOf encS 1 W (some ⟨g2, 0, none⟩) k2 words := fun W hW => ⟨(fun h => by cases h), by have := unhide R2; omega, unhide Z2, ((unhide M2).below hW).take (by decide)⟩
  have sE : ∀ W, Below Y.heap.size Y W → SlOf encR 4 W (some ⟨g3, 0, none⟩) k3 ev := fun W hW => ⟨(fun h => by cases h), by have := unhide R3; omega, z3, ((unhide M3).below hW).take (by decide)⟩
  have hO := fun (W : World) (hW : Below Y.heap.size Y W) => unhide HOF W g1 k1 g2 k2 (sI W hW) (sS W hW) (below_sub (unhide BYw) hW)
  have hEe := fun (W : World) (hW : Below Y.heap.size Y W) => unhide HEV W g3 k3 (sE W hW)
  have hKp := fun (W : World) (hW : Below Y.heap.size Y W) => keptPred_any kind attr ints words lo hi g1 k1 g2 k2 qi ci qw cw W ((unhide M1).below hW) (unhide R1) (unhide Z1) ((unhide H1).below (below_sub (unhide BYw) hW)) ((unhide M2).below hW) (unhide R2) (unhide Z2) ((unhide H2).below (below_sub (unhide BYw) hW)) m1 m2
  have hKe := fun (W : World) (hW : Below Y.heap.size Y W) => keptP g3 k3 qe ce ev W m3 ((unhide M3).below hW) (unhide R3) z3 ((unhide H3).below (below_sub (unhide BYw) hW))
  have mc : ∀ W, Below Y.heap.size Y W → W.cell? ⟨w3.heap.size, 0, none⟩ = some (.int .i64 kind) ∧ W.cell? ⟨w3.heap.size, 1, none⟩ = some (.string attr) ∧ W.cell? ⟨w3.heap.size, 2, none⟩ = some (.slice (some ⟨g1, 0, none⟩) ints.length k1) ∧ W.cell? ⟨w3.heap.size, 3, none⟩ = some (.slice (some ⟨g2, 0, none⟩) words.length k2) ∧ W.cell? ⟨w3.heap.size, 4, none⟩ = some (.int .i64 lo) ∧ W.cell? ⟨w3.heap.size, 5, none⟩ = some (.int .i64 hi) := fun W hW => of6R ((hW.block _ lY).trans (unhide Y8))
  have xc := fun (W : World) (hW : Below Y.heap.size Y W) => of6R ((hW.block _ lX).trans (unhide X8Y))
  have MC := hide mc
  have XC := hide xc
  have HO9 := hide hO
  have HE9 := hide hEe
  have HKP := hide hKp
  have HKE := hide hKe
  obtain ⟨b0, b1, b2, b3, b4, b5⟩ := mc Y (Below.refl _ _)
  clear y8 bY HY sI sS sE hO hEe hKp hKe mc xc a0 a1 a2 a3 a4 a5 c7 c8
  go_cut [7, 8] from 17 (fun s7 s8 V => ∃ (q7 q8 : Option Addr) (c7 c8 : Nat), s7 = .slice q7 K.length c7 ∧ s8 = .slice q8 K.length c8 ∧ Hid (Two Y V q7 c7 q8 c8 K))
  case first =>
    go_region_held3 (fun W' => W'.cell? ⟨w3.heap.size, 0, none⟩ = some (.int .i64 kind) ∧ W'.cell? ⟨w3.heap.size, 1, none⟩ = some (.string attr) ∧ W'.cell? ⟨w3.heap.size, 2, none⟩ = some (.slice (some ⟨g1, 0, none⟩) ints.length k1) ∧ W'.cell? ⟨w3.heap.size, 3, none⟩ = some (.slice (some ⟨g2, 0, none⟩) words.length k2) ∧ W'.cell? ⟨w3.heap.size, 4, none⟩ = some (.int .i64 lo) ∧ W'.cell? ⟨w3.heap.size, 5, none⟩ = some (.int .i64 hi)) (first | exact unhide MC _ (by first | exact unhide C8 | exact (unhide C8).drew | exact (unhide C8).drew.drew | exact unhide C7 | exact (unhide C7).drew | exact (unhide C7).drew.drew | exact (unhide C7).drew.drew.drew | exact Below.refl _ _ | exact (Below.refl _ _).drew | exact (Below.refl _ _).drew.drew | exact (Below.refl _ _).drew.drew.drew) | go_keep) (first
      | (go_at_call 9; have mk := C7; (with_reducible refine (unhide HO9 _ (by first | exact unhide C7 | exact (unhide C7).drew | exact (unhide C7).drew.drew | exact (unhide C7).drew.drew.drew)).mono ?_); rintro e w8 ⟨⟨q8, c8, rfl, o8⟩, b8⟩; have O8 := hide o8; have D8 := hide (show Below w7.heap.size w7 w8 by first | exact b8 | exact below_undrew b8 | exact below_undrew (below_undrew b8)); have C8 := hide (below_sub (unhide C7) (unhide D8)); clear o8 b8 mk)
      | (go_at_call 9; (with_reducible refine (unhide HO9 _ (by first | exact Below.refl _ _ | exact (Below.refl _ _).drew | exact (Below.refl _ _).drew.drew | exact (Below.refl _ _).drew.drew.drew)).mono ?_); rintro e w7 ⟨⟨q7, c7, rfl, o7⟩, b7⟩; have O7 := hide o7; have C7 := hide (show Below Y.heap.size Y w7 by first | exact b7 | exact below_undrew b7 | exact below_undrew (below_undrew b7)); clear o7 b7))
    all_goals
      go_wp2
      go_meet
      have hs7 := (unhide C7).size
      first
        | exact ⟨q7, q8, c7, c8, rfl, rfl, hide ⟨((unhide O7).below (unhide D8)).mono (by first | exact Nat.le_refl _ | simp), (unhide O8).mono (by first | exact hs7 | simpa using hs7), unhide C8, fun x y e1 e2 => by (have h1 := sl_lt (unhide O7) e1; have h2 := own_geK (unhide O8) e2; (try simp at h2); omega)⟩⟩
        | exact ⟨q8, q7, c8, c7, rfl, rfl, hide ⟨(unhide O8).mono (by first | exact hs7 | simpa using hs7), ((unhide O7).below (unhide D8)).mono (by first | exact Nat.le_refl _ | simp), unhide C8, fun x y e1 e2 => by (have h1 := sl_lt (unhide O7) e2; have h2 := own_geK (unhide O8) e1; (try simp at h2); omega)⟩⟩
        | exact ⟨q7, q8, c7, c8, rfl, rfl, hide ⟨((unhide O7).below (unhide D8)).mono (by first | exact Nat.le_refl _ | simp), (unhide O8).mono (by first | exact hs7 | simpa using hs7), (unhide C8).drew, fun x y e1 e2 => by (have h1 := sl_lt (unhide O7) e1; have h2 := own_geK (unhide O8) e2; (try simp at h2); omega)⟩⟩
  case rest =>
    obtain ⟨q7, q8, c7, c8, rfl, rfl, TT⟩ := hcut
    obtain ⟨V, rfl⟩ : ∃ V, V = wc := ⟨_, rfl⟩
    have o7 := (unhide TT).1
    have o8 := (unhide TT).2.1
    have bV := (unhide TT).2.2.1
    have ap := (unhide TT).2.2.2
    have sV := bV.size
    have c10 := unhide HE9 V bV
    have O7 := hide o7
    have O8 := hide o8
    have BV := hide bV
    have AP := hide ap
    clear o7 o8 bV ap b0 b1 b2 b3 b4 b5
    go_upto_region 6 with (first
      | (go_at_call 10; have mk := B9; refine c11.mono ?_; rintro e v4 ⟨⟨q10, c10', rfl, o10⟩, b10⟩; have O10 := hide o10; have B10 := hide b10; clear o10 b10 mk)
      | (go_at_call 10; refine c10.mono ?_; rintro e v3 ⟨⟨q9, c9, rfl, o9⟩, b9⟩; have O9 := hide o9; have B9 := hide b9; have c11 := unhide HE9 v3 (below_sub (unhide BV) b9); clear o9 b9))
    have s3 := (unhide B9).size
    have s4 := (unhide B10).size
    have BV4 := hide (below_sub (unhide BV) (below_sub (unhide B9) (unhide B10)))
    have P7 := hide ((unhide O7).below (below_sub (unhide B9) (unhide B10)))
    have P8 := hide ((unhide O8).below (below_sub (unhide B9) (unhide B10)))
    have P9 := hide ((unhide O9).below (unhide B10))
    have L7 : ∀ x, q7 = some x → Y.heap.size ≤ x.block ∧ x.block < V.heap.size := fun x e => ⟨own_geK (unhide O7) e, sl_lt (unhide O7) e⟩
    have L8 : ∀ x, q8 = some x → Y.heap.size ≤ x.block ∧ x.block < V.heap.size := fun x e => ⟨own_geK (unhide O8) e, sl_lt (unhide O8) e⟩
    have L9 : ∀ x, q9 = some x → V.heap.size ≤ x.block ∧ x.block < v3.heap.size := fun x e => ⟨own_geK (unhide O9) e, sl_lt (unhide O9) e⟩
    have L10 : ∀ x, q10 = some x → v3.heap.size ≤ x.block := fun x e => own_geK (unhide O10) e
    have c12 := over_any Y.heap.size q7 K.length c7 v4 (by omega) (unhide BV4).size (unhide P7).raw
    go_upto_region 7 with (go_at_call 11; refine c12.mono ?_; rintro e v5 ⟨rfl, hg⟩; rw [own_block] at hg; have G5 := hide hg; clear hg)
    have BV5 := hide (below_grown (unhide BV4) (unhide G5) (fun k e => by
      cases hq : q7 with
      | none => rw [hq] at e; cases e
      | some x => rw [hq] at e; simp at e; have := (L7 x hq).1; omega))
    have P8b := hide (sl_grown (unhide P8).ls (unhide G5) (fun y e h => by
      cases hq : q7 with
      | none => rw [hq] at h; cases h
      | some x => rw [hq] at h; simp at h; exact unhide AP x y hq e h))
    have P9b := hide (own_grown (unhide P9) (unhide G5) (fun y e h => by
      cases hq : q7 with
      | none => rw [hq] at h; cases h
      | some x => rw [hq] at h; simp at h; have h1 := (L7 x hq).2; have h2 := (L9 y e).1; omega))
    have P10b := hide (sl_grown (unhide O10).ls (unhide G5) (fun y e h => by
      cases hq : q7 with
      | none => rw [hq] at h; cases h
      | some x => rw [hq] at h; simp at h; have h1 := (L7 x hq).2; have h2 := L10 y e; omega))
    have s5 := (unhide BV5).size
    have s5' := (unhide G5).size
    have c13 := over_any V.heap.size q9 E.length c9 v5 (by omega) (by omega) (unhide P9b).raw
    go_upto_region 8 with (go_at_call 11; refine c13.mono ?_; rintro e v6 ⟨rfl, hg⟩; rw [own_block] at hg; have G6 := hide hg; clear hg)
    have BV6 := hide (below_grown (unhide BV5) (unhide G6) (fun k e => by
      cases hq : q9 with
      | none => rw [hq] at e; cases e
      | some x => rw [hq] at e; simp at e; have := (L9 x hq).1; omega))
    have P8c := hide (sl_grown (unhide P8b) (unhide G6) (fun y e h => by
      cases hq : q9 with
      | none => rw [hq] at h; cases h
      | some x => rw [hq] at h; simp at h; have h1 := (L9 x hq).1; have h2 := (L8 y e).2; omega))
    have P10c := hide (sl_grown (unhide P10b) (unhide G6) (fun y e h => by
      cases hq : q9 with
      | none => rw [hq] at h; cases h
      | some x => rw [hq] at h; simp at h; have h1 := (L9 x hq).2; have h2 := L10 y e; omega))
    obtain ⟨d0, d1, d2, d3, d4, d5⟩ := unhide XC v6 (unhide BV6)
    have c14 := unhide HRO v6 (below_sub (unhide BYw) (unhide BV6))
    clear c10 c11 c12 c13 L7 L8 L9 L10 P7 P8 P9 P8b P9b P10b G5 G6 O7 O8 O9 AP TT
    go_wp2_with (first
      | (go_at_call 16; refine cke.mono ?_; rintro e t6 ⟨rfl, b6⟩; have B16 := hide b6; clear b6)
      | (go_at_call 15; refine ckp.mono ?_; rintro e t5 ⟨rfl, b5⟩; have B15 := hide (below_sub (unhide B12e) b5); have cke := unhide HKE t5 (below_sub (unhide BV6) (below_sub (unhide B12e) b5)); clear b5)
      | (go_at_call 12; have mk := B14; refine (unhide HSE _ q10 c10' q14 c14' ((unhide P10c).below (unhide B14)) (unhide O14)).mono ?_; rintro e t4 ⟨rfl, b4⟩; have B12e := hide (below_sub (unhide B14) b4); (obtain ⟨f0, f1, f2, f3, f4, f5⟩ := unhide XC t4 (below_sub (unhide BV6) (below_sub (unhide B14) b4))); (obtain ⟨i0, i1, i2, i3, i4, i5⟩ := unhide MC t4 (below_sub (unhide BV6) (below_sub (unhide B14) b4))); have ckp := unhide HKP t4 (below_sub (unhide BV6) (below_sub (unhide B14) b4)); clear b4 mk)
      | (go_at_call 14; refine cre.mono ?_; rintro e t3 ⟨⟨q14, c14', rfl, o14⟩, b3⟩; have O14 := hide o14; have B14 := hide (below_sub (unhide B12) b3); clear o14 b3)
      | (go_at_call 12; refine (unhide HSK _ q8 c8 q13 c13' ((unhide P8c).below (unhide B13)) (unhide O13)).mono ?_; rintro e t2 ⟨rfl, b2⟩; have B12 := hide (below_sub (unhide B13) b2); have cre := unhide HRE t2 (below_sub (below_sub (unhide BYw) (unhide BV6)) (below_sub (unhide B13) b2)); clear b2)
      | (go_at_call 13; refine c14.mono ?_; rintro e t1 ⟨⟨q13, c13', rfl, o13⟩, b1⟩; have O13 := hide o13; have B13 := hide b1; clear o13 b1))
    go_ret
    exact ⟨rfl, below_sub (below_sub (unhide BYw) (unhide BV6)) (below_sub (unhide B15) (unhide B16))⟩
end Go.Proofs.YtedakipjfpdajaaGreatDoor

/- RecordReads answers true. -/
import Derived.Test.YtalicnifjgcldaaRefScan
import Derived.Test.YtalicnifjgcldaaPlaysFin
namespace Go.Proofs.Ytalicnifjgcldaa
open Go.RowKit Go.Sort Go.Shelf

theorem own_btC {B : Nat} {w : World} {q : Option Addr} {cap : Nat} {l : List Ch} (h : OwnK encC 32 3 B w q cap l) : Bt B w.heap.size q := by
  intro p hp
  subst hp
  rcases h.2 with ⟨h0, _⟩ | ⟨g, cp, cur, hv, hB, hblk, _⟩
  · injection h0 with h0; cases h0
  · injection hv with h1
    injection h1 with h1
    subst h1
    exact ⟨hB, (Array.getElem?_eq_some_iff.1 hblk).1⟩
theorem own_overC {B : Nat} {w w' : World} {q : Option Addr} {g0 : Nat} {cap : Nat} {l : List Ch} (h : OwnK encC 32 3 B w q cap l) (hg : w.grownBy w' (some g0)) (hne : g0 < B) : OwnK encC 32 3 B w' q cap l := by
  refine ⟨h.1, ?_⟩
  rcases h.2 with h0 | ⟨g, cp, cur, hv, hB, hblk, hr⟩
  · exact Or.inl h0
  · refine Or.inr ⟨g, cp, cur, hv, hB, (hg.block g (Array.getElem?_eq_some_iff.1 hblk).1 ?_).trans hblk, hr⟩
    intro e
    injection e with e
    omega
/-- A row of the call's own, cut short. -/
theorem own_pre {B : Nat} {w : World} {g cap : Nat} {l m : List UInt8} (h : OwnK encB 5 1 B w (some ⟨g, 0, none⟩) cap (l ++ m)) : OwnK encB 5 1 B w (some ⟨g, 0, none⟩) cap l := by
  unfold OwnK at h ⊢
  rw [flatB] at h ⊢
  rcases h.2 with ⟨h0, _⟩ | ⟨g', cp, cur, hv, hB, hblk, hn, hm, hs, ht⟩
  · injection h0 with h0; cases h0
  · injection hv with h1 _ h2
    injection h1 with h1
    injection h1 with h1
    subst h1 h2
    rw [Nat.mul_one] at hs ht
    rw [List.length_append] at hn ht
    refine ⟨by simp, .inr ⟨g, cap, cur, rfl, hB, hblk, by omega, hm, by rw [Nat.mul_one]; exact hs, ?_⟩⟩
    rw [Nat.mul_one]
    have h3 := congrArg (List.take l.length) ht
    rw [List.take_take, Nat.min_eq_left (by omega), List.map_append, List.take_left' (by simp)] at h3
    exact h3
theorem scanR_one (l : List UInt8) : ∃ (X : Int) (K : List Ch) (G E : Int), K.length ≤ l.length ∧ ∀ B e w', ScanR B l e w' → ∃ q c, e = .returned (.tuple #[.int .i64 X, .slice q K.length c, .int .i64 G, .int .i64 E]) ∧ OwnK encC 32 3 B w' q c K := by
  cases hM : headOk l with
  | false =>
    refine ⟨0, [], 0, 31, by simp, fun B e w' h => ?_⟩
    rcases h with ⟨_, rfl⟩ | ⟨h, _⟩
    · exact ⟨none, 0, rfl, OwnK.nil _ _⟩
    · rw [hM] at h; cases h
  | true =>
    refine ⟨((headV l).1 : Int), (scanL (l.length + 1) (l.drop (sealS l (headV l).2.1 (headV l).2.2).1)).1, (((sealS l (headV l).2.1 (headV l).2.2).1 + (scanL (l.length + 1) (l.drop (sealS l (headV l).2.1 (headV l).2.2).1)).2 : Nat) : Int), 0, ?_, fun B e w' h => ?_⟩
    rotate_left
    · rcases h with ⟨h, _⟩ | ⟨_, q, c, a, rfl, he, ho⟩
      · rw [hM] at h; cases h
      · exact ⟨q, c, he, ho⟩
    · obtain ⟨_, _, r, hr⟩ := scan_back (l.length + 1) (l.drop (sealS l (headV l).2.1 (headV l).2.2).1)
      have h8 := encs_len8 (scanL (l.length + 1) (l.drop (sealS l (headV l).2.1 (headV l).2.2).1)).1
      have := congrArg List.length hr
      rw [List.length_append, List.length_drop] at this
      omega
theorem decV_one (l : List UInt8) : ∃ (c : Ch) (Y E : Int), DecV l = .tuple #[.agg #[.int .i64 c.kind, .int .i64 c.id, .string c.text], .int .i64 Y, .int .i64 E] := by
  cases h : decS l with
  | none => exact ⟨⟨0, 0, ⟨#[]⟩⟩, 0, 30, DecV_none h⟩
  | some x => obtain ⟨c, n⟩ := x; exact ⟨c, n, 0, DecV_some h⟩
set_option maxHeartbeats 1000000 in
set_option maxRecDepth 100000 in
theorem reads_law (q : Option Addr) (cp : Nat) (l : List UInt8) (w : World) (h : SlOf encB 1 w q cp l) (hl : l.length ≤ 100000000) :
    Calls Try.prog 5 #[.slice q l.length cp] w fun e w' => e = .returned (.bool true) ∧ Below w.heap.size w w' := by
  have hf := fixed_any w
  have hro := fun (W : World) (hW : SlOf encB 1 W q cp l) => room_any q cp l W hW (by omega)
  have hde := fun (q : Option Addr) (cp : Nat) (W : World) (hW : SlOf encB 1 W q cp l) => decode_any q cp l W hW (by omega)
  have hrd := fun (W : World) (hW : SlOf encB 1 W q cp l) => refDecode q cp l W hW (by omega)
  obtain ⟨c, Y, E, hD⟩ := decV_one l
  rw [hD] at hde hrd
  obtain ⟨X, K, G, F, hKl, hSR⟩ := scanR_one l
  have hsc : ∀ (q : Option Addr) (cp : Nat) (W : World), SlOf encB 1 W q cp l → Calls Try.prog 24 #[.slice q l.length cp] W fun e w' => (∃ q' c', e = .returned (.tuple #[.int .i64 X, .slice q' K.length c', .int .i64 G, .int .i64 F]) ∧ OwnK encC 32 3 W.heap.size w' q' c' K) ∧ Below W.heap.size W w' := fun q cp W hW => (scan_any q cp l W hW (by omega)).mono (by rintro e w' ⟨h1, h2⟩; exact ⟨hSR _ _ _ h1, h2⟩)
  have hrs : ∀ (W : World), SlOf encB 1 W q cp l → Calls Try.prog 25 #[.slice q l.length cp] W fun e w' => (∃ q' c', e = .returned (.tuple #[.int .i64 X, .slice q' K.length c', .int .i64 G, .int .i64 F]) ∧ OwnK encC 32 3 W.heap.size w' q' c' K) ∧ Below W.heap.size W w' := fun W hW => (refScan q cp l W hW (by omega)).mono (by rintro e w' ⟨h1, h2⟩; exact ⟨hSR _ _ _ h1, h2⟩)
  have hsa := fun (q q' : Option Addr) (c c' : Nat) (W : World) (h1 : SlOf encC 3 W q c K) (h2 : SlOf encC 3 W q' c' K) => sameC_any q q' c c' K K W h1 h2 (by omega) (by omega)
  rw [decide_eq_true rfl] at hsa
  have hke := fun (g cm : Nat) (W : World) (h1 : SlOf encB 1 W (some ⟨g, 0, none⟩) cm (l ++ [199])) (h2 : SlOf encB 1 W q cp l) => kept_any g cm q cp l W h1 h2 (by omega)
  have hov := fun (B g cm : Nat) (W : World) (h1 : OwnK encB 5 1 B W (some ⟨g, 0, none⟩) cm l) (hB : B ≤ W.heap.size) => over_any B (some ⟨g, 0, none⟩) cm l W h1 hB (by omega)
  have hne := neqC c c
  have heq := eqlC c c
  rw [decide_eq_true rfl] at hne heq
  have HS := hide h
  clear h hD hSR hKl
  go_enter Try.func5, Try.ntmps5
  go_wp2_with (first
    | (go_at_call 9; refine hf.mono ?_; rintro e w1 ⟨rfl, b1⟩; have B1 := hide b1; have z1 := b1.size; have S1 := hide ((unhide HS).below b1); clear b1)
    | (go_at_call 18; refine (hro w1 (unhide S1)).mono ?_; rintro e w2 ⟨⟨g, cm, rfl, o2, _⟩, b2⟩; have hgb := own_bt o2 _ rfl; have hg1 : w1.heap.size ≤ g := hgb.1; have hg2 : g < w2.heap.size := hgb.2; have OM2 := hide o2; have S2 := hide ((unhide S1).below b2); have B2 := hide b2; have z2 := b2.size; clear o2 b2 hgb)
    | (go_at_call 22; refine (hde _ _ w2 (sl_pre (unhide OM2).ls)).mono ?_; rintro e w3 ⟨rfl, b3⟩; obtain ⟨Y3, hY3⟩ : ∃ Y3, w3.alloc (.cells #[.int .i64 c.kind, .int .i64 c.id, .string c.text] 32) = Y3 := ⟨_, rfl⟩; have b3' : Below w2.heap.size w2 Y3 := (by rw [← hY3]; exact b3.alloc b3.size _); have bk3 : Y3.heap[w3.heap.size]? = some (.cells #[.int .i64 c.kind, .int .i64 c.id, .string c.text] 32 (0, 0)) := (by rw [← hY3]; exact heap_alloc_new _ _); have y3 : Y3.heap.size = w3.heap.size + 1 := (by rw [← hY3]; simp); have OM3 := hide ((unhide OM2).below b3'); have S3 := hide ((unhide S2).below b3'); have B3 := hide b3'; have z3 := b3.size; have K3 := hide bk3; clear b3 b3' bk3)
    | (go_at_call 23; refine (hrd Y3 (unhide S3)).mono ?_; rintro e w4 ⟨rfl, b4⟩; obtain ⟨Y4, hY4⟩ : ∃ Y4, w4.alloc (.cells #[.int .i64 c.kind, .int .i64 c.id, .string c.text] 32) = Y4 := ⟨_, rfl⟩; have b4' : Below Y3.heap.size Y3 Y4 := (by rw [← hY4]; exact b4.alloc b4.size _); have bk4 : Y4.heap[w4.heap.size]? = some (.cells #[.int .i64 c.kind, .int .i64 c.id, .string c.text] 32 (0, 0)) := (by rw [← hY4]; exact heap_alloc_new _ _); have y4 : Y4.heap.size = w4.heap.size + 1 := (by rw [← hY4]; simp); have OM4 := hide ((unhide OM3).below b4'); have S4 := hide ((unhide S3).below b4'); have B4 := hide b4'; have z4 := b4.size; have K34 := hide ((b4'.block w3.heap.size (by omega)).trans (unhide K3)); have K44 := hide bk4; clear b4 b4' bk4)
    | (go_at_call 24; refine (hsc _ _ Y4 (sl_pre (unhide OM4).ls)).mono ?_; rintro e w5 ⟨⟨ql, cl, rfl, o5⟩, b5⟩; have OL5 := hide o5; have OM5 := hide ((unhide OM4).below b5); have S5 := hide ((unhide S4).below b5); have B5 := hide b5; have z5 := b5.size; have K35 := hide ((b5.block w3.heap.size (by omega)).trans (unhide K34)); have K45 := hide ((b5.block w4.heap.size (by omega)).trans (unhide K44)); clear b5 o5)
    | (go_at_call 25; refine (hrs w5 (unhide S5)).mono ?_; rintro e w6 ⟨⟨qw, cw, rfl, o6⟩, b6⟩; have OW6 := hide o6; have OL6 := hide ((unhide OL5).below b6); have OM6 := hide ((unhide OM5).below b6); have S6 := hide ((unhide S5).below b6); have B6 := hide b6; have z6 := b6.size; have k36 := ((b6.block w3.heap.size (by omega)).trans (unhide K35)); have k46 := ((b6.block w4.heap.size (by omega)).trans (unhide K45)); obtain ⟨⟨d0, d1, d2⟩, _⟩ := cells3 k36; obtain ⟨⟨e0, e1, e2⟩, _⟩ := cells3 k46; have K36 := hide k36; have K46 := hide k46; clear b6 o6 k36 k46)
    | (go_at_call 26; (with_reducible refine (hsa ql qw cl cw w6 (unhide OL6).ls (unhide OW6).ls).mono ?_); rintro e w7 ⟨rfl, b7⟩; have OW7 := hide ((unhide OW6).below b7); have OL7 := hide ((unhide OL6).below b7); have OM7 := hide ((unhide OM6).below b7); have S7 := hide ((unhide S6).below b7); have B7 := hide b7; have z7 := b7.size; have K37 := hide ((b7.block w3.heap.size (by omega)).trans (unhide K36)); have K47 := hide ((b7.block w4.heap.size (by omega)).trans (unhide K46)); clear b7)
    | (go_at_call 21; refine (hke g cm w7 (unhide OM7).ls (unhide S7)).mono ?_; rintro e w8 ⟨rfl, hw8⟩; obtain rfl := hw8.symm)
    | (go_at_call 14; refine (hov w1.heap.size g cm w7 (own_pre (unhide OM7)) (by omega)).mono ?_; rintro e w9 ⟨⟨v9, rfl⟩, g9⟩; have g9' : w7.grownBy w9 (some g) := g9; have z9 := g9'.size; have OL9 := hide (own_overC (unhide OL7) g9' (by omega)); have OW9 := hide (own_overC (unhide OW7) g9' (by omega)); have K39 := hide ((g9'.block w3.heap.size (by omega) (by intro e; injection e with e; omega)).trans (unhide K37)); have K49 := hide ((g9'.block w4.heap.size (by omega) (by intro e; injection e with e; omega)).trans (unhide K47)); have B9 := hide (below_over (B := w1.heap.size) (r := some ⟨g, 0, none⟩) g9 (by intro p hp; injection hp with hp; subst hp; exact hg1) (by omega)); clear g9 g9')
    | (go_at_call 26; (with_reducible refine (hsa ql qw cl cw w9 (unhide OL9).ls (unhide OW9).ls).mono ?_); rintro e w10 ⟨rfl, b10⟩; obtain ⟨⟨f0, f1, f2⟩, _⟩ := cells3 ((b10.block w3.heap.size (by omega)).trans (unhide K39)); obtain ⟨⟨h0, h1, h2⟩, _⟩ := cells3 ((b10.block w4.heap.size (by omega)).trans (unhide K49)); have B10 := hide b10; clear b10))
  go_ret
  exact ⟨rfl, (unhide B1).trans ((((((((unhide B2).trans ((unhide B3).mono (by omega))).trans ((unhide B4).mono (by omega))).trans ((unhide B5).mono (by omega))).trans ((unhide B6).mono (by omega))).trans ((unhide B7).mono (by omega))).trans ((unhide B9).trans ((unhide B10).mono (by omega)))).mono (by omega))⟩
end Go.Proofs.Ytalicnifjgcldaa

/- RecordPlays answers true: the walk. -/
import Derived.Test.YtalicnifjgcldaaPlaysLaw
namespace Go.Proofs.Ytalicnifjgcldaa
open Go.RowKit Go.Sort Go.Shelf

/-- Where a row lies: from block a on, below block b. -/
def Bt (a b : Nat) (q : Option Addr) : Prop := ∀ p, q = some p → a ≤ p.block ∧ p.block < b
theorem own_bt {B : Nat} {w : World} {q : Option Addr} {cap : Nat} {l : List UInt8} (h : OwnK encB 5 1 B w q cap l) : Bt B w.heap.size q := by
  intro p hp
  subst hp
  rcases h.2 with ⟨h0, _⟩ | ⟨g, cp, cur, hv, hB, hblk, _⟩
  · injection h0 with h0; cases h0
  · injection hv with h1
    injection h1 with h1
    subst h1
    exact ⟨hB, (Array.getElem?_eq_some_iff.1 hblk).1⟩
theorem own_over {B : Nat} {w w' : World} {q r : Option Addr} {cap : Nat} {l : List UInt8} (h : OwnK encB 5 1 B w q cap l) (hg : w.grownBy w' (r.map (·.block))) (hne : ∀ p p', q = some p → r = some p' → p.block ≠ p'.block) : OwnK encB 5 1 B w' q cap l := by
  refine ⟨h.1, ?_⟩
  rcases h.2 with h0 | ⟨g, cp, cur, hv, hB, hblk, hr⟩
  · exact Or.inl h0
  · refine Or.inr ⟨g, cp, cur, hv, hB, (hg.block g (Array.getElem?_eq_some_iff.1 hblk).1 ?_).trans hblk, hr⟩
    injection hv with h1
    intro e
    cases r with
    | none => cases e
    | some p' =>
      injection e with e
      exact hne _ p' h1 rfl (by simp only; exact e)
theorem below_over {B : Nat} {w w' : World} {r : Option Addr} (hg : w.grownBy w' (r.map (·.block))) (hB : ∀ p, r = some p → B ≤ p.block) (hs : B ≤ w.heap.size) : Below B w w' :=
  ⟨hg.os, hg.tape, hg.output, hg.size, fun k hk => hg.block k (by omega) (by
    cases r with
    | none => intro e; cases e
    | some p => intro e; injection e with e; have h2 := hB p rfl; simp only at e; omega)⟩
set_option maxHeartbeats 1000000 in
set_option maxRecDepth 100000 in
theorem plays_law (q : Option Addr) (cp : Nat) (cs : List Ch) (next : Int) (w : World) (h : SlOf encC 3 w q cp cs) (hn : cs.length ≤ 100000000) :
    Calls Try.prog 3 #[.slice q cs.length cp, .int .i64 next] w fun e w' => e = .returned (.bool true) ∧ Below w.heap.size w w' := by
  have mixed : Try.prog.follows .mixedOrders = true := by kernel_rfl
  have e15 : ∀ args w, (callFunc 15 args).run Try.prog w = .ok (.enter 15 args) w := enters_of Try.func15 (by kernel_rfl) rfl
  have e16 : ∀ args w, (callFunc 16 args).run Try.prog w = .ok (.enter 16 args) w := enters_of Try.func16 (by kernel_rfl) rfl
  have hf := fixed_any w
  have hen := fun (W : World) (hW : SlOf encC 3 W q cp cs) => encode_one q cp cs W hW (by omega)
  have hre := fun (W : World) (hW : SlOf encC 3 W q cp cs) => refEncode_one q cp cs W hW (by omega)
  have hhd := fun (W : World) => head_one next W
  have hrh := fun (W : World) => refHead_one next W
  have hel := encO_len cs
  have hhl := headO_len next
  generalize encO cs = EO at *
  generalize encE cs = EE at *
  generalize headO next = HO at *
  generalize headE next = HE at *
  have hovA := fun (B : Nat) (q : Option Addr) (cap : Nat) (W : World) (ho : OwnK encB 5 1 B W q cap EO) (hB : B ≤ W.heap.size) => over_any B q cap EO W ho hB (by omega)
  have hovH := fun (B : Nat) (q : Option Addr) (cap : Nat) (W : World) (ho : OwnK encB 5 1 B W q cap HO) (hB : B ≤ W.heap.size) => over_any B q cap HO W ho hB (by omega)
  have hsE := fun (q q' : Option Addr) (c c' : Nat) (W : World) (h1 : SlOf encB 1 W q c EO) (h2 : SlOf encB 1 W q' c' EO) => sameBytes_any q q' c c' EO EO W h1 h2
  have hsH := fun (q q' : Option Addr) (c c' : Nat) (W : World) (h1 : SlOf encB 1 W q c HO) (h2 : SlOf encB 1 W q' c' HO) => sameBytes_any q q' c c' HO HO W h1 h2
  rw [decide_eq_true rfl] at hsE hsH
  obtain ⟨NE, hNE⟩ : ∃ NE, EO.length = NE := ⟨_, rfl⟩
  obtain ⟨NH, hNH⟩ : ∃ NH, HO.length = NH := ⟨_, rfl⟩
  simp only [hNE] at hen hre hovA hsE
  simp only [hNH] at hhd hrh hovH hsH
  have HS := hide h
  clear h hel hhl hNE hNH
  go_enter Try.func3, Try.ntmps3
  go_wp2_with (first
    | (go_at_call 9; refine hf.mono ?_; rintro e w1 ⟨rfl, b1⟩; have B1 := hide b1; have S1 := hide ((unhide HS).below b1); clear b1)
    | (go_at_call 10; (with_reducible refine (hen w1 (unhide S1)).mono ?_); rintro e w2 ⟨⟨qa, ca, rfl, o2⟩, b2⟩; have OA2 := hide o2; have TA := hide (own_bt o2); have S2 := hide ((unhide S1).below b2); have B2 := hide b2; have z2 := b2.size; clear o2 b2)
    | (go_at_call 10; (with_reducible refine (hen w2 (unhide S2)).mono ?_); rintro e w3 ⟨⟨qb, cb, rfl, o3⟩, b3⟩; have OB3 := hide o3; have TB := hide (own_bt o3); have OA3 := hide ((unhide OA2).below b3); have S3 := hide ((unhide S2).below b3); have B3 := hide b3; have z3 := b3.size; clear o3 b3)
    | (go_at_call 11; (with_reducible refine (hre w3 (unhide S3)).mono ?_); rintro e w4 ⟨⟨qw, cw, rfl, o4⟩, b4⟩; have OW4 := hide o4; have TW := hide (own_bt o4); have OA4 := hide ((unhide OA3).below b4); have OB4 := hide ((unhide OB3).below b4); have S4 := hide ((unhide S3).below b4); have B4 := hide b4; have z4 := b4.size; clear o4 b4)
    | (go_at_call 12; (with_reducible refine (hhd w4).mono ?_); rintro e w5 ⟨⟨qh, ch, rfl, o5⟩, b5⟩; have OH5 := hide o5; have TH := hide (own_bt o5); have OA5 := hide ((unhide OA4).below b5); have OB5 := hide ((unhide OB4).below b5); have OW5 := hide ((unhide OW4).below b5); have S5 := hide ((unhide S4).below b5); have B5 := hide b5; have z5 := b5.size; clear o5 b5)
    | (go_at_call 12; (with_reducible refine (hhd w5).mono ?_); rintro e w6 ⟨⟨qk, ck, rfl, o6⟩, b6⟩; have OK6 := hide o6; have TK := hide (own_bt o6); have OA6 := hide ((unhide OA5).below b6); have OB6 := hide ((unhide OB5).below b6); have OW6 := hide ((unhide OW5).below b6); have OH6 := hide ((unhide OH5).below b6); have S6 := hide ((unhide S5).below b6); have B6 := hide b6; have z6 := b6.size; clear o6 b6)
    | (go_at_call 13; (with_reducible refine (hrh w6).mono ?_); rintro e w7 ⟨⟨qr, cr, rfl, o7⟩, b7⟩; have OR7 := hide o7; have TR := hide (own_bt o7); have OA7 := hide ((unhide OA6).below b7); have OB7 := hide ((unhide OB6).below b7); have OW7 := hide ((unhide OW6).below b7); have OH7 := hide ((unhide OH6).below b7); have OK7 := hide ((unhide OK6).below b7); have S7 := hide ((unhide S6).below b7); have B7 := hide b7; have z7 := b7.size; clear o7 b7)
    | (go_at_call 14; (with_reducible refine (hovA w1.heap.size qa ca w7 (unhide OA7) (by omega)).mono ?_); rintro e w8 ⟨⟨v8, rfl⟩, g8⟩; have z8 := g8.size; have OH8 := hide (own_over (unhide OH7) g8 (fun p p' h1 h2 => by have h3 := unhide TH p h1; have h4 := unhide TA p' h2; omega)); have OB8 := hide (own_over (unhide OB7) g8 (fun p p' h1 h2 => by have h3 := unhide TB p h1; have h4 := unhide TA p' h2; omega)); have OW8 := hide (own_over (unhide OW7) g8 (fun p p' h1 h2 => by have h3 := unhide TW p h1; have h4 := unhide TA p' h2; omega)); have OK8 := hide (own_over (unhide OK7) g8 (fun p p' h1 h2 => by have h3 := unhide TK p h1; have h4 := unhide TA p' h2; omega)); have OR8 := hide (own_over (unhide OR7) g8 (fun p p' h1 h2 => by have h3 := unhide TR p h1; have h4 := unhide TA p' h2; omega)); have B8 := hide (below_over (B := w1.heap.size) g8 (fun p h1 => (unhide TA p h1).1) (by omega)); clear g8)
    | (go_at_call 14; (with_reducible refine (hovH w4.heap.size qh ch w8 (unhide OH8) (by omega)).mono ?_); rintro e w9 ⟨⟨v9, rfl⟩, g9⟩; have z9 := g9.size; have OB9 := hide (own_over (unhide OB8) g9 (fun p p' h1 h2 => by have h3 := unhide TB p h1; have h4 := unhide TH p' h2; omega)).ls; have OW9 := hide (own_over (unhide OW8) g9 (fun p p' h1 h2 => by have h3 := unhide TW p h1; have h4 := unhide TH p' h2; omega)).ls; have OK9 := hide (own_over (unhide OK8) g9 (fun p p' h1 h2 => by have h3 := unhide TK p h1; have h4 := unhide TH p' h2; omega)).ls; have OR9 := hide (own_over (unhide OR8) g9 (fun p p' h1 h2 => by have h3 := unhide TR p h1; have h4 := unhide TH p' h2; omega)).ls; have B9 := hide (below_over (B := w1.heap.size) g9 (fun p h1 => by have h4 := (unhide TH p h1).1; omega) (by omega)); clear g9))
  have hb9 : Below w1.heap.size w1 w9 := ((((((((unhide B2).trans ((unhide B3).mono (by omega))).trans ((unhide B4).mono (by omega))).trans ((unhide B5).mono (by omega))).trans ((unhide B6).mono (by omega))).trans ((unhide B7).mono (by omega))).trans (unhide B8)).trans (unhide B9))
  have HB9 := hide hb9
  have zz : w1.heap.size ≤ w9.heap.size := by omega
  clear hb9 hf hen hre hhd hrh hovA hovH OA2 OA3 OA4 OA5 OA6 OA7 OB3 OB4 OB5 OB6 OB7 OB8 OW4 OW5 OW6 OW7 OW8 OH5 OH6 OH7 OH8 OK6 OK7 OK8 OR7 OR8 S2 S3 S4 S5 S6 S7 B2 B3 B4 B5 B6 B7 B8 B9 TA TB TW TH TK TR z2 z3 z4 z5 z6 z7 z8 z9
  go_loopw [57] (fun v57 wr => ∃ i : Nat, i ≤ cs.length ∧ v57 = .int .i64 (i : Int) ∧ Hid (Below w9.heap.size w9 wr)) (fun v57 _ => cs.length - (intOf v57).toNat)
  case atStart => exact ⟨0, Nat.zero_le _, rfl, hide (Below.refl _ _)⟩
  case round =>
    obtain ⟨i, hi, rfl, HB⟩ := hrel
    have hsB := (unhide HB).size
    by_cases hlt : i < cs.length
    · obtain ⟨x, hx, _⟩ := get_at hlt
      obtain ⟨b, off, hq, hb, c0, c1, c2⟩ := changeAt (((unhide S1).below (unhide HB9)).below (unhide HB)) hx
      subst hq
      have ki0 : (0 : Int) ≤ (i : Int) := by omega
      have ki1 : (i : Int) < (cs.length : Int) := by omega
      obtain ⟨Z, hZ⟩ : ∃ Z, wr.alloc (.cells #[.int .i64 x.kind, .int .i64 x.id, .string x.text] 32) = Z := ⟨_, rfl⟩
      have bZ : Below wr.heap.size wr Z := by rw [← hZ]; exact (Below.refl _ _).alloc (Nat.le_refl _) _
      have bk : Z.heap[wr.heap.size]? = some (.cells #[.int .i64 x.kind, .int .i64 x.id, .string x.text] 32 (0, 0)) := by rw [← hZ]; exact heap_alloc_new _ _
      obtain ⟨⟨d0, d1, d2⟩, _⟩ := cells3 bk
      have q0 := cell_regrown d0
      have q1 := cell_regrown d1
      have q2 := cell_regrown d2
      have m15 := fun W : World => may_any x W
      have m16 := fun W : World => refMay_any x W
      generalize decide (MayB x) = MM at m15 m16
      have BZ := hide bZ
      clear bZ bk hx
      go_wp2
      refine wp_region_quiet_below (by assumption) (by kernel_rfl) ?_
      repeat (go_big_quiet_step (first | (go_at_fn 15; refine Calls.regrown_of (m15 _)) | (go_at_fn 16; refine Calls.regrown_of (m16 _))))
      refine wpQuiet_nil ?_
      intro _ hw'
      obtain ⟨⟨dq, osq⟩, hw''⟩ := hw'
      subst hw''
      go_wp2
      go_roundw
      case rel => exact ⟨i + 1, by omega, by go_num, hide ((unhide HB).trans ((below_sub (unhide BZ) (below_regrown _ _ _)).mono hsB))⟩
      case measure => simp [intOf]; omega
    · obtain rfl : i = cs.length := by omega
      have ki1 : ¬ (cs.length : Int) < (cs.length : Int) := by omega
      have OBr := hide ((unhide OB9).below (unhide HB))
      have OWr := hide ((unhide OW9).below (unhide HB))
      have OKr := hide ((unhide OK9).below (unhide HB))
      have ORr := hide ((unhide OR9).below (unhide HB))
      go_wp2_with (first
        | (go_at_call 17; (with_reducible refine (hsE qb qw cb cw wr (unhide OBr) (unhide OWr)).mono ?_); rintro e w10 ⟨rfl, hw10⟩; obtain rfl := hw10.symm)
        | (go_at_call 17; (with_reducible refine (hsH qk qr ck cr wr (unhide OKr) (unhide ORr)).mono ?_); rintro e w10 ⟨rfl, hw10⟩; obtain rfl := hw10.symm))
      go_ret
      exact ⟨rfl, (unhide B1).trans (((unhide HB9).trans ((unhide HB).mono zz)).mono (unhide B1).size)⟩
end Go.Proofs.Ytalicnifjgcldaa

/- journal.nextNumber, mend. -/
import Derived.Test.YtfigjfmldpfjkaaGreatZaj
namespace Go.Proofs.YtfigjfmldpfjkaaGreat
open Go.RowKit Go.Sort Go.Shelf

def nextN (n : Int) (cs : List Ch) : Int := cs.foldl (fun n c => if c.kind = 1 then max n (c.id + 1) else n) n
theorem nextN_snoc (n : Int) (cs : List Ch) (c : Ch) : nextN n (cs ++ [c]) = if c.kind = 1 then max (nextN n cs) (c.id + 1) else nextN n cs := by
  unfold nextN; rw [List.foldl_append]; rfl
set_option maxHeartbeats 1000000 in
set_option maxRecDepth 100000 in
theorem next_num (n : Int) (q : Option Addr) (cp : Nat) (cs : List Ch) (w : World) (h : SlOf encC 3 w q cp cs) (hn : cs.length ≤ 4000000000000) (hm : ∀ c ∈ cs, MayB c) :
    Calls Tryz.prog 25 #[.int .i64 n, .slice q cs.length cp] w fun e w' => e = .returned (.int .i64 (nextN n cs)) ∧ Below w.heap.size w w' := by
  go_enter Tryz.func25, Tryz.ntmps25
  go_wp2
  go_loopw [0, 9] (fun v i wr => ∃ (k : Nat) (N : Int), k ≤ cs.length ∧ i = .int .i64 (k : Int) ∧ v = .int .i64 N ∧ Hid (N = nextN n (cs.take k)) ∧ Hid (Below w.heap.size w wr)) (fun _ i _ => cs.length - (intOf i).toNat)
  case atStart => exact ⟨0, n, Nat.zero_le _, rfl, rfl, hide rfl, hide (Below.refl _ _)⟩
  case round =>
    obtain ⟨k, N, hk, rfl, rfl, HN, HB⟩ := hrel
    by_cases hlt : k < cs.length
    · obtain ⟨x, hx, _⟩ := get_at hlt
      obtain ⟨b, off, hq, hb, c0, c1, c2⟩ := changeAt (h.below (unhide HB)) hx
      subst hq
      have hmx := hm x (List.mem_of_getElem? hx)
      have HT := hide (take_snoc_of hx)
      have ki0 : (0 : Int) ≤ (k : Int) := by omega
      have ki1 : (k : Int) < (cs.length : Int) := by omega
      have hsB := (unhide HB).size
      have hb1 : Below wr.heap.size wr (wr.alloc (.cells #[.int .i64 x.kind, .int .i64 x.id, .string x.text] 63)) := (Below.refl _ _).alloc (Nat.le_refl _) _
      have HB1 := hide (below_sub (unhide HB) hb1)
      have hwi : IntKind.i64.wrap (x.id + 1) = x.id + 1 := wrap_int _ (by have := hmx.1; omega) (by have := hmx.1; omega)
      by_cases hkd : x.kind = 1
      · have hk1 : (x.kind == 1) = true := beq_iff_eq.2 hkd
        have HK := hide hkd
        clear h hx hmx hkd hb1
        go_wp2
        go_roundw
        case rel => exact ⟨k + 1, max N (x.id + 1), by omega, by go_num, rfl, hide (by rw [unhide HT, nextN_snoc, if_pos (unhide HK), ← unhide HN]), HB1⟩
        case measure => simp [intOf]; omega
      · have hk1 : (x.kind == 1) = false := beq_eq_false_iff_ne.2 hkd
        have HK := hide hkd
        clear h hx hmx hkd hb1
        go_wp2
        go_roundw
        case rel => exact ⟨k + 1, N, by omega, by go_num, rfl, hide (by rw [unhide HT, nextN_snoc, if_neg (unhide HK), ← unhide HN]), HB1⟩
        case measure => simp [intOf]; omega
    · obtain rfl : k = cs.length := by omega
      have ki1 : ¬ (cs.length : Int) < (cs.length : Int) := by omega
      clear h hm
      go_wp2
      go_ret
      have h1 := unhide HN
      rw [List.take_length] at h1
      exact ⟨ret_int h1, unhide HB⟩
/-- A row of changes is kept off, too. -/
def PlusRow (B : Nat → Prop) (q : Option Addr) : Nat → Prop := fun i => B i ∨ ∃ p, q = some p ∧ p.block = i
theorem JAt.with_row {B : Nat → Prop} {w : World} {g C : Nat} {s : JS} (hd : JAt B w g s) {q : Option Addr} {cap : Nat} {l : List Ch} (ho : OwnK encC 63 3 C w q cap l) : JAt (PlusRow B q) w g s :=
  hd.more fun i hi => by
    rcases hi with h | ⟨p, hp, rfl⟩
    · exact Or.inl h
    · obtain ⟨_, cur, hc⟩ := own_cellsG ho hp
      exact Or.inr (Or.inr ⟨cur, 63, hc, by decide, by decide, by decide⟩)
theorem Sub.with_row {B : Nat → Prop} {w : World} {C : Nat} (hB : Sub B w) {q : Option Addr} {cap : Nat} {l : List Ch} (ho : OwnK encC 63 3 C w q cap l) : Sub (PlusRow B q) w := fun i hi => by
  rcases hi with h | ⟨p, hp, rfl⟩
  · exact hB i h
  · obtain ⟨_, cur, hc⟩ := own_cellsG ho hp
    exact (Array.getElem?_eq_some_iff.1 hc).1
theorem own_kept {B : Nat → Prop} {w w' : World} {C : Nat} {q : Option Addr} {cap : Nat} {l : List Ch} (ho : OwnK encC 63 3 C w q cap l) (hk : Kpt (PlusRow B q) w w') : OwnK encC 63 3 C w' q cap l :=
  own_sameG ho fun p hp => hk.block p.block (Or.inr ⟨p, hp, rfl⟩) (by obtain ⟨_, cur, hc⟩ := own_cellsG ho hp; exact (Array.getElem?_eq_some_iff.1 hc).1)
theorem PlusRow.less {B : Nat → Prop} {w w' : World} {q : Option Addr} (h : Kpt (PlusRow B q) w w') : Kpt B w w' := h.mono fun _ hi => Or.inl hi
theorem JAt.less {B : Nat → Prop} {w : World} {g : Nat} {s : JS} {q : Option Addr} (h : JAt (PlusRow B q) w g s) : JAt B w g s := h.more fun _ hi => Or.inl (Or.inl hi)
def looseO : Option Fl → Nat
  | none => 0
  | some fl => fl.bytes.length - fl.lasts
def mendM (s : JS) : Int × JS := if scE (stB s) ≠ 0 then (scE (stB s), s) else if s.j.isSome = true ∧ scL (stB s) = (stB s).length ∧ looseO s.j = 0 then (0, s) else writeM s ((stB s).take (scL (stB s)))
theorem mend_bad {s : JS} (h : scE (stB s) ≠ 0) : mendM s = (scE (stB s), s) := if_pos h
theorem mend_same {s : JS} (h : scE (stB s) = 0) (h2 : s.j.isSome = true ∧ scL (stB s) = (stB s).length ∧ looseO s.j = 0) : mendM s = (0, s) := (if_neg (fun h9 => h9 h)).trans (if_pos h2)
theorem mend_write {s : JS} (h : scE (stB s) = 0) (h2 : ¬ (s.j.isSome = true ∧ scL (stB s) = (stB s).length ∧ looseO s.j = 0)) : mendM s = writeM s ((stB s).take (scL (stB s))) := (if_neg (fun h9 => h9 h)).trans (if_neg h2)
theorem looseJ_any {B : Nat → Prop} {w : World} {g : Nat} {s : JS} (hd : JAt B w g s) (ho : s.off = false) {fl : Fl} (hj : s.j = some fl) (hl : fl.bytes.length ≤ 140737488355328) :
    Calls Tryz.prog 46 #[.pointer (some ⟨g, 0, none⟩), .string nJ] w fun e w' => e = .returned (.int .i64 ((looseO s.j : Nat) : Int)) ∧ Below w.heap.size w w' := by
  obtain ⟨n, hn, hd⟩ := hd
  rw [hj]
  exact loose_yes hd ho okJ (s.get_J.trans hj) hl
theorem sc_le {l : List UInt8} (h : scE l = 0) : scL l ≤ l.length := by
  obtain ⟨n, _, _, _, _, h5, r, h6⟩ := sc_back h
  have := congrArg List.length h6
  rw [List.length_append] at this
  omega
set_option maxHeartbeats 1000000 in
set_option maxRecDepth 100000 in
theorem mend_no {B : Nat → Prop} {w : World} {g : Nat} {s : JS} (hd : JAt B w g s) (ha : s.acts ≤ 100000000) (ho : s.off = false) (hl : szO s.j ≤ 140737488355328) (hz : (stB s).length ≤ 4000000000000) (he : scE (stB s) ≠ 0) :
    Calls Tryz.prog 24 #[.pointer (some ⟨g, 0, none⟩)] w fun e w' => e = .returned (.tuple #[.int .i64 0, .slice none 0 0, .int .i64 0, .int .i64 (scE (stB s))]) ∧ Below w.heap.size w w' := by
  have hst := stored_any hd ha ho hl
  have hsc := fun (q : Option Addr) (c : Nat) (W : World) (hW : SlOf encB 1 W q c (stB s)) => scan_one q c (stB s) W hW hz
  generalize stB s = b at *
  obtain ⟨N0, hN0⟩ : ∃ N0, b.length = N0 := ⟨_, rfl⟩
  rw [hN0] at hst
  simp only [hN0] at hsc
  generalize scN b = X at *
  generalize scC b = K at *
  generalize scL b = L at *
  generalize scE b = E at *
  have hE : (E == 0) = false := beq_eq_false_iff_ne.2 he
  clear hd hN0 he hz
  go_enter Tryz.func24, Tryz.ntmps24
  go_wp2_with (first
    | (go_at_call 44; refine hst.mono ?_; rintro e w1 ⟨⟨q1, c1, rfl, o1⟩, b1⟩; have O1 := hide o1; have B1 := hide b1; clear o1 b1)
    | (go_at_call 45; refine (hsc q1 c1 w1 (unhide O1).ls).mono ?_; rintro e w2 ⟨⟨q2, c2, rfl, o2⟩, b2⟩; have B2 := hide (below_sub (unhide B1) b2); clear o2 b2))
  refine bodyPost_ret (v := .tuple #[.int .i64 0, .slice none 0 0, .int .i64 0, .int .i64 E]) (by simp [results, Tryz.f24, go_sem]) rfl ?_
  exact ⟨rfl, unhide B2⟩
set_option maxHeartbeats 2000000 in
set_option maxRecDepth 100000 in
theorem mend_none {B : Nat → Prop} {w : World} {g : Nat} {s : JS} (hd : JAt B w g s) (hB : Sub B w) (ha : s.acts ≤ 99999990) (ho : s.off = false) (hl : szO s.j ≤ 140737488355328) (hf : szO s.f + (stB s).length ≤ 140737488355328) (hz : (stB s).length ≤ 4000000000000) (he : scE (stB s) = 0) (hj : s.j = none) :
    Calls Tryz.prog 24 #[.pointer (some ⟨g, 0, none⟩)] w fun e w' => (∃ q c, e = .returned (.tuple #[.int .i64 (scN (stB s)), .slice q (scC (stB s)).length c, .int .i64 ((scL (stB s) : Nat) : Int), .int .i64 (mendM s).1]) ∧ OwnK encC 63 3 w.heap.size w' q c (scC (stB s))) ∧ JAt B w' g (mendM s).2 ∧ Kpt B w w' := by
  have hst := stored_any hd (by omega) ho hl
  have hsc := fun (q : Option Addr) (c : Nat) (W : World) (hW : SlOf encB 1 W q c (stB s)) => scan_one q c (stB s) W hW hz
  have hha := fun (W : World) (hW : JAt B W g s) => has_any hW (by omega) ho nJ
  simp only [s.get_J] at hha
  rw [hj] at hha
  have hle := sc_le he
  rw [mend_write he (by rw [hj]; intro h; cases h.1)]
  have hwj := fun (q2 : Option Addr) (q : Option Addr) (c : Nat) (W : World) (hW : JAt (PlusRow B q2) W g s) (hBW : Sub (PlusRow B q2) W) (hS : SlOf encB 1 W q c (stB s)) => write_js hW hBW ha q c ((stB s).take (scL (stB s))) (sl_take hS _) (by rw [List.length_take]; omega)
  have htl : ((stB s).take (scL (stB s))).length = scL (stB s) := by rw [List.length_take]; omega
  simp only [htl] at hwj
  obtain ⟨E9, S9, hR⟩ : ∃ E9 S9, writeM s ((stB s).take (scL (stB s))) = (E9, S9) := ⟨_, _, rfl⟩
  rw [hR]
  simp only [hR] at hwj
  rw [he] at hsc
  generalize stB s = b at *
  obtain ⟨N0, hN0⟩ : ∃ N0, b.length = N0 := ⟨_, rfl⟩
  rw [hN0] at hst hz hf hle
  simp only [hN0] at hsc
  generalize scN b = X at *
  generalize scC b = K at *
  generalize scL b = L at *
  have HD := hide hd
  have HB := hide hB
  have HN0 := hide hN0
  have hL0 : (0 : Int) ≤ (L : Int) := by omega
  clear hd hB hN0 hR htl hf hz hj hl
  go_enter Tryz.func24, Tryz.ntmps24
  go_wp2_with (first
    | (go_at_call 44; refine hst.mono ?_; rintro e w1 ⟨⟨q1, c1, rfl, o1⟩, b1⟩; have D1 := hide ((unhide HD).below b1); have O1 := hide o1; have B1 := hide b1; have hcap : N0 ≤ c1 := (by have := o1.ls.2.1; rw [unhide HN0] at this; exact this); have hLc : L ≤ c1 := Nat.le_trans hle hcap; have hLc2 : (L : Int) ≤ (c1 : Int) := Int.ofNat_le.2 hLc; clear o1 b1)
    | (go_at_call 45; refine (hsc q1 c1 w1 (unhide O1).ls).mono ?_; rintro e w2 ⟨⟨q2, c2, rfl, o2⟩, b2⟩; have D2 := hide ((unhide D1).below b2); have O12 := hide ((unhide O1).below b2); have O2 := hide (o2.mono (unhide B1).size); have B2 := hide (below_sub (unhide B1) b2); clear o2 b2)
    | (go_at_call 42; refine (hha w2 (unhide D2)).mono ?_; rintro e w3 ⟨rfl, b3⟩; have D3 := hide ((unhide D2).below b3); have O13 := hide ((unhide O12).below b3); have O3 := hide ((unhide O2).below b3); have B3 := hide (below_sub (unhide B2) b3); clear b3)
    | (go_at_call 39; refine (hwj q2 q1 c1 w3 ((unhide D3).with_row (unhide O3)) (((unhide HB).trans (unhide B3).size).with_row (unhide O3)) (unhide O13).ls).mono ?_; rintro e w5 ⟨rfl, d5, k5⟩; have D5 := hide d5.less; have O5 := hide (own_kept (unhide O3) k5); have K5 := hide ((Kpt.of (B := B) (unhide B3)).trans (PlusRow.less k5)); clear d5 k5))

  refine bodyPost_ret (v := .tuple #[.int .i64 X, .slice q2 K.length c2, .int .i64 (L : Int), .int .i64 E9]) (by simp [results, Tryz.f24, go_sem]) rfl ?_
  exact ⟨⟨q2, c2, rfl, unhide O5⟩, unhide D5, unhide K5⟩
set_option maxHeartbeats 2000000 in
set_option maxRecDepth 100000 in
theorem mend_cut {B : Nat → Prop} {w : World} {g : Nat} {s : JS} (hd : JAt B w g s) (hB : Sub B w) (ha : s.acts ≤ 99999990) (ho : s.off = false) (hl : szO s.j ≤ 140737488355328) (hf : szO s.f + (stB s).length ≤ 140737488355328) (hz : (stB s).length ≤ 4000000000000) (he : scE (stB s) = 0) {fl : Fl} (hj : s.j = some fl) (hne : scL (stB s) ≠ (stB s).length) :
    Calls Tryz.prog 24 #[.pointer (some ⟨g, 0, none⟩)] w fun e w' => (∃ q c, e = .returned (.tuple #[.int .i64 (scN (stB s)), .slice q (scC (stB s)).length c, .int .i64 ((scL (stB s) : Nat) : Int), .int .i64 (mendM s).1]) ∧ OwnK encC 63 3 w.heap.size w' q c (scC (stB s))) ∧ JAt B w' g (mendM s).2 ∧ Kpt B w w' := by
  have hst := stored_any hd (by omega) ho hl
  have hsc := fun (q : Option Addr) (c : Nat) (W : World) (hW : SlOf encB 1 W q c (stB s)) => scan_one q c (stB s) W hW hz
  have hha := fun (W : World) (hW : JAt B W g s) => has_any hW (by omega) ho nJ
  simp only [s.get_J] at hha
  rw [hj] at hha
  have hle := sc_le he
  rw [mend_write he (fun h => hne h.2.1)]
  have hwj := fun (q2 : Option Addr) (q : Option Addr) (c : Nat) (W : World) (hW : JAt (PlusRow B q2) W g s) (hBW : Sub (PlusRow B q2) W) (hS : SlOf encB 1 W q c (stB s)) => write_js hW hBW ha q c ((stB s).take (scL (stB s))) (sl_take hS _) (by rw [List.length_take]; omega)
  have htl : ((stB s).take (scL (stB s))).length = scL (stB s) := by rw [List.length_take]; omega
  simp only [htl] at hwj
  obtain ⟨E9, S9, hR⟩ : ∃ E9 S9, writeM s ((stB s).take (scL (stB s))) = (E9, S9) := ⟨_, _, rfl⟩
  rw [hR]
  simp only [hR] at hwj
  rw [he] at hsc
  generalize stB s = b at *
  obtain ⟨N0, hN0⟩ : ∃ N0, b.length = N0 := ⟨_, rfl⟩
  rw [hN0] at hst hz hf hle hne
  simp only [hN0] at hsc
  generalize scN b = X at *
  generalize scC b = K at *
  generalize scL b = L at *
  have HD := hide hd
  have HB := hide hB
  have HN0 := hide hN0
  have hL0 : (0 : Int) ≤ (L : Int) := by omega
  have hLn : ((L : Int) == (N0 : Int)) = false := beq_eq_false_iff_ne.2 (by omega)
  clear hd hB hN0 hR htl hf hz hj hl hne
  go_enter Tryz.func24, Tryz.ntmps24
  go_wp2_with (first
    | (go_at_call 44; refine hst.mono ?_; rintro e w1 ⟨⟨q1, c1, rfl, o1⟩, b1⟩; have D1 := hide ((unhide HD).below b1); have O1 := hide o1; have B1 := hide b1; have hcap : N0 ≤ c1 := (by have := o1.ls.2.1; rw [unhide HN0] at this; exact this); have hLc : L ≤ c1 := Nat.le_trans hle hcap; have hLc2 : (L : Int) ≤ (c1 : Int) := Int.ofNat_le.2 hLc; clear o1 b1)
    | (go_at_call 45; refine (hsc q1 c1 w1 (unhide O1).ls).mono ?_; rintro e w2 ⟨⟨q2, c2, rfl, o2⟩, b2⟩; have D2 := hide ((unhide D1).below b2); have O12 := hide ((unhide O1).below b2); have O2 := hide (o2.mono (unhide B1).size); have B2 := hide (below_sub (unhide B1) b2); clear o2 b2)
    | (go_at_call 42; refine (hha w2 (unhide D2)).mono ?_; rintro e w3 ⟨rfl, b3⟩; have D3 := hide ((unhide D2).below b3); have O13 := hide ((unhide O12).below b3); have O3 := hide ((unhide O2).below b3); have B3 := hide (below_sub (unhide B2) b3); clear b3)
    | (go_at_call 39; refine (hwj q2 q1 c1 w3 ((unhide D3).with_row (unhide O3)) (((unhide HB).trans (unhide B3).size).with_row (unhide O3)) (unhide O13).ls).mono ?_; rintro e w5 ⟨rfl, d5, k5⟩; have D5 := hide d5.less; have O5 := hide (own_kept (unhide O3) k5); have K5 := hide ((Kpt.of (B := B) (unhide B3)).trans (PlusRow.less k5)); clear d5 k5))

  refine bodyPost_ret (v := .tuple #[.int .i64 X, .slice q2 K.length c2, .int .i64 (L : Int), .int .i64 E9]) (by simp [results, Tryz.f24, go_sem]) rfl ?_
  exact ⟨⟨q2, c2, rfl, unhide O5⟩, unhide D5, unhide K5⟩
set_option maxHeartbeats 2000000 in
set_option maxRecDepth 100000 in
theorem mend_loose {B : Nat → Prop} {w : World} {g : Nat} {s : JS} (hd : JAt B w g s) (hB : Sub B w) (ha : s.acts ≤ 99999990) (ho : s.off = false) (hl : szO s.j ≤ 140737488355328) (hf : szO s.f + (stB s).length ≤ 140737488355328) (hz : (stB s).length ≤ 4000000000000) (he : scE (stB s) = 0) {fl : Fl} (hj : s.j = some fl) (hne : scL (stB s) = (stB s).length) (hlo0 : looseO s.j ≠ 0) :
    Calls Tryz.prog 24 #[.pointer (some ⟨g, 0, none⟩)] w fun e w' => (∃ q c, e = .returned (.tuple #[.int .i64 (scN (stB s)), .slice q (scC (stB s)).length c, .int .i64 ((scL (stB s) : Nat) : Int), .int .i64 (mendM s).1]) ∧ OwnK encC 63 3 w.heap.size w' q c (scC (stB s))) ∧ JAt B w' g (mendM s).2 ∧ Kpt B w w' := by
  have hst := stored_any hd (by omega) ho hl
  have hsc := fun (q : Option Addr) (c : Nat) (W : World) (hW : SlOf encB 1 W q c (stB s)) => scan_one q c (stB s) W hW hz
  have hha := fun (W : World) (hW : JAt B W g s) => has_any hW (by omega) ho nJ
  simp only [s.get_J] at hha
  have hfl : fl.bytes.length ≤ 140737488355328 := (by rw [hj] at hl; exact hl)
  have hlo := fun (W : World) (hW : JAt B W g s) => looseJ_any hW ho hj hfl
  rw [hj] at hha
  have hle := sc_le he
  rw [mend_write he (fun h => hlo0 h.2.2)]
  have hwj := fun (q2 : Option Addr) (q : Option Addr) (c : Nat) (W : World) (hW : JAt (PlusRow B q2) W g s) (hBW : Sub (PlusRow B q2) W) (hS : SlOf encB 1 W q c (stB s)) => write_js hW hBW ha q c ((stB s).take (scL (stB s))) (sl_take hS _) (by rw [List.length_take]; omega)
  have htl : ((stB s).take (scL (stB s))).length = scL (stB s) := by rw [List.length_take]; omega
  simp only [htl] at hwj
  obtain ⟨E9, S9, hR⟩ : ∃ E9 S9, writeM s ((stB s).take (scL (stB s))) = (E9, S9) := ⟨_, _, rfl⟩
  rw [hR]
  simp only [hR] at hwj
  rw [he] at hsc
  generalize stB s = b at *
  obtain ⟨N0, hN0⟩ : ∃ N0, b.length = N0 := ⟨_, rfl⟩
  rw [hN0] at hst hz hf hle hne
  simp only [hN0] at hsc
  generalize scN b = X at *
  generalize scC b = K at *
  generalize scL b = L at *
  generalize looseO s.j = O at *
  have HD := hide hd
  have HB := hide hB
  have HN0 := hide hN0
  have hL0 : (0 : Int) ≤ (L : Int) := by omega
  have hOz : ((O : Int) == 0) = false := beq_eq_false_iff_ne.2 (by omega)
  subst hne
  clear hd hB hN0 hR htl hf hz hj hl hfl hlo0
  go_enter Tryz.func24, Tryz.ntmps24
  go_wp2_with (first
    | (go_at_call 44; refine hst.mono ?_; rintro e w1 ⟨⟨q1, c1, rfl, o1⟩, b1⟩; have D1 := hide ((unhide HD).below b1); have O1 := hide o1; have B1 := hide b1; have hcap : L ≤ c1 := (by have := o1.ls.2.1; rw [unhide HN0] at this; exact this); have hLc : L ≤ c1 := Nat.le_trans hle hcap; have hLc2 : (L : Int) ≤ (c1 : Int) := Int.ofNat_le.2 hLc; clear o1 b1)
    | (go_at_call 45; refine (hsc q1 c1 w1 (unhide O1).ls).mono ?_; rintro e w2 ⟨⟨q2, c2, rfl, o2⟩, b2⟩; have D2 := hide ((unhide D1).below b2); have O12 := hide ((unhide O1).below b2); have O2 := hide (o2.mono (unhide B1).size); have B2 := hide (below_sub (unhide B1) b2); clear o2 b2)
    | (go_at_call 42; refine (hha w2 (unhide D2)).mono ?_; rintro e w3 ⟨rfl, b3⟩; have D3 := hide ((unhide D2).below b3); have O13 := hide ((unhide O12).below b3); have O3 := hide ((unhide O2).below b3); have B3 := hide (below_sub (unhide B2) b3); clear b3)
    | (go_at_call 46; refine (hlo w3 (unhide D3)).mono ?_; rintro e w4 ⟨rfl, b4⟩; have D4 := hide ((unhide D3).below b4); have O14 := hide ((unhide O13).below b4); have O4 := hide ((unhide O3).below b4); have B4 := hide (below_sub (unhide B3) b4); clear b4)
    | (go_at_call 39; refine (hwj q2 q1 c1 w4 ((unhide D4).with_row (unhide O4)) (((unhide HB).trans (unhide B4).size).with_row (unhide O4)) (unhide O14).ls).mono ?_; rintro e w5 ⟨rfl, d5, k5⟩; have D5 := hide d5.less; have O5 := hide (own_kept (unhide O4) k5); have K5 := hide ((Kpt.of (B := B) (unhide B4)).trans (PlusRow.less k5)); clear d5 k5))

  refine bodyPost_ret (v := .tuple #[.int .i64 X, .slice q2 K.length c2, .int .i64 (L : Int), .int .i64 E9]) (by simp [results, Tryz.f24, go_sem]) rfl ?_
  exact ⟨⟨q2, c2, rfl, unhide O5⟩, unhide D5, unhide K5⟩
set_option maxHeartbeats 2000000 in
set_option maxRecDepth 100000 in
theorem mend_keep {B : Nat → Prop} {w : World} {g : Nat} {s : JS} (hd : JAt B w g s) (_ : Sub B w) (ha : s.acts ≤ 99999990) (ho : s.off = false) (hl : szO s.j ≤ 140737488355328) (hf : szO s.f + (stB s).length ≤ 140737488355328) (hz : (stB s).length ≤ 4000000000000) (he : scE (stB s) = 0) {fl : Fl} (hj : s.j = some fl) (hne : scL (stB s) = (stB s).length) (hlo0 : looseO s.j = 0) :
    Calls Tryz.prog 24 #[.pointer (some ⟨g, 0, none⟩)] w fun e w' => (∃ q c, e = .returned (.tuple #[.int .i64 (scN (stB s)), .slice q (scC (stB s)).length c, .int .i64 ((scL (stB s) : Nat) : Int), .int .i64 (mendM s).1]) ∧ OwnK encC 63 3 w.heap.size w' q c (scC (stB s))) ∧ JAt B w' g (mendM s).2 ∧ Kpt B w w' := by
  have hst := stored_any hd (by omega) ho hl
  have hsc := fun (q : Option Addr) (c : Nat) (W : World) (hW : SlOf encB 1 W q c (stB s)) => scan_one q c (stB s) W hW hz
  have hha := fun (W : World) (hW : JAt B W g s) => has_any hW (by omega) ho nJ
  simp only [s.get_J] at hha
  have hfl : fl.bytes.length ≤ 140737488355328 := (by rw [hj] at hl; exact hl)
  have hlo := fun (W : World) (hW : JAt B W g s) => looseJ_any hW ho hj hfl
  rw [hlo0] at hlo
  have hsome : s.j.isSome = true := (by rw [hj]; rfl)
  rw [hj] at hha
  have hle := sc_le he
  rw [mend_same he ⟨hsome, hne, hlo0⟩]
  rw [he] at hsc
  generalize stB s = b at *
  obtain ⟨N0, hN0⟩ : ∃ N0, b.length = N0 := ⟨_, rfl⟩
  rw [hN0] at hst hz hf hle hne
  simp only [hN0] at hsc
  generalize scN b = X at *
  generalize scC b = K at *
  generalize scL b = L at *
  have HD := hide hd
  have HN0 := hide hN0
  subst hne
  clear hd hN0 hf hz hj hl hfl hlo0 hsome
  go_enter Tryz.func24, Tryz.ntmps24
  go_wp2_with (first
    | (go_at_call 44; refine hst.mono ?_; rintro e w1 ⟨⟨q1, c1, rfl, o1⟩, b1⟩; have D1 := hide ((unhide HD).below b1); have O1 := hide o1; have B1 := hide b1; have hcap : L ≤ c1 := (by have := o1.ls.2.1; rw [unhide HN0] at this; exact this); have hLc : L ≤ c1 := Nat.le_trans hle hcap; have hLc2 : (L : Int) ≤ (c1 : Int) := Int.ofNat_le.2 hLc; clear o1 b1)
    | (go_at_call 45; refine (hsc q1 c1 w1 (unhide O1).ls).mono ?_; rintro e w2 ⟨⟨q2, c2, rfl, o2⟩, b2⟩; have D2 := hide ((unhide D1).below b2); have O12 := hide ((unhide O1).below b2); have O2 := hide (o2.mono (unhide B1).size); have B2 := hide (below_sub (unhide B1) b2); clear o2 b2)
    | (go_at_call 42; refine (hha w2 (unhide D2)).mono ?_; rintro e w3 ⟨rfl, b3⟩; have D3 := hide ((unhide D2).below b3); have O13 := hide ((unhide O12).below b3); have O3 := hide ((unhide O2).below b3); have B3 := hide (below_sub (unhide B2) b3); clear b3)
    | (go_at_call 46; refine (hlo w3 (unhide D3)).mono ?_; rintro e w4 ⟨rfl, b4⟩; have D4 := hide ((unhide D3).below b4); have O14 := hide ((unhide O13).below b4); have O4 := hide ((unhide O3).below b4); have B4 := hide (below_sub (unhide B3) b4); clear b4))
  refine bodyPost_ret (v := .tuple #[.int .i64 X, .slice q2 K.length c2, .int .i64 (L : Int), .int .i64 0]) (by simp [results, Tryz.f24, go_sem]) rfl ?_
  exact ⟨⟨q2, c2, rfl, unhide O4⟩, unhide D4, Kpt.of (unhide B4)⟩
theorem mend_yes {B : Nat → Prop} {w : World} {g : Nat} {s : JS} (hd : JAt B w g s) (hB : Sub B w) (ha : s.acts ≤ 99999990) (ho : s.off = false) (hl : szO s.j ≤ 140737488355328) (hf : szO s.f + (stB s).length ≤ 140737488355328) (hz : (stB s).length ≤ 4000000000000) (he : scE (stB s) = 0) :
    Calls Tryz.prog 24 #[.pointer (some ⟨g, 0, none⟩)] w fun e w' => (∃ q c, e = .returned (.tuple #[.int .i64 (scN (stB s)), .slice q (scC (stB s)).length c, .int .i64 ((scL (stB s) : Nat) : Int), .int .i64 (mendM s).1]) ∧ OwnK encC 63 3 w.heap.size w' q c (scC (stB s))) ∧ JAt B w' g (mendM s).2 ∧ Kpt B w w' := by
  cases hj : s.j with
  | none => exact mend_none hd hB ha ho hl hf hz he hj
  | some fl =>
    by_cases h1 : scL (stB s) = (stB s).length
    · by_cases h2 : looseO s.j = 0
      · exact mend_keep hd hB ha ho hl hf hz he hj h1 h2
      · exact mend_loose hd hB ha ho hl hf hz he hj h1 h2
    · exact mend_cut hd hB ha ho hl hf hz he hj h1
end Go.Proofs.YtfigjfmldpfjkaaGreat

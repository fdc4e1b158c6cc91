/- What trommelmem.Pairs, SamePairs, KeptPairs and OverInts do. -/
import Derived.Test.YtkpdhkdegoincaaKept
import Derived.Test.YtkpdhkdegoincaaEvGet
import Derived.Maps.AppendAt
namespace Go.Proofs.Ytkpdhkdegoincaa
open Go.RowKit Go.Sort

theorem Try.info50 : (Try.prog.info? 50).map (fun i => (i.zero, i.size, i.bytes)) = some (some (.agg #[.string ⟨#[]⟩, .int .i64 0, .int .i64 0, .string ⟨#[]⟩]), 4, 48) := by kernel_rfl
theorem rowP : RowOf encP 23 50 4 48 where
  und := Try.underlying23
  info := by
    obtain ⟨i0, hi, hz0, hz1, hz2⟩ := info_parts Try.info50
    exact ⟨i0, _, hi, hz0, hz1, hz2, rfl⟩
  pos := by decide
  one := one_flat (fun x c hc => by
    have hm : c = 0 ∨ c = 1 ∨ c = 2 ∨ c = 3 := by omega
    rcases hm with e | e | e | e <;> rw [e] <;> rfl) (by decide)
set_option maxRecDepth 100000 in
theorem eqlP_same (x : Pr) (w : World) : (binOp .eql 50 (.agg #[.string x.name, .int .i64 x.kind, .int .i64 x.int, .string x.word]) (.agg #[.string x.name, .int .i64 x.kind, .int .i64 x.int, .string x.word])).run Try.prog w = .ok (.bool true) w := by
  have u3 := Try.underlying3
  have a3 := Try.isAgg3
  have z3 := Try.sizeOf3
  have u9 := Try.underlying9
  have a9 := Try.isAgg9
  have z9 := Try.sizeOf9
  have a45 := Try.isAgg48
  have z45 := Try.sizeOf48
  have hS : Try.prog.underlying 50 = some (.struct (Try.prog.fieldsOf 50)) := by kernel_rfl
  have hp : Try.prog.stoodInHeld 50 = false := by kernel_rfl
  have h45 : (Op.equalIn 9999 48 (.agg #[.int .i64 x.kind, .int .i64 x.int, .string x.word]) (.agg #[.int .i64 x.kind, .int .i64 x.int, .string x.word])).run Try.prog w = .ok true w := by
    clear hS hp
    have hS45 : Try.prog.underlying 48 = some (.struct (Try.prog.fieldsOf 48)) := by kernel_rfl
    have hp45 : Try.prog.stoodInHeld 48 = false := by kernel_rfl
    rw [show (9999 : Nat) = 9998 + 1 from rfl, run_equalIn_agg w 9998 48 _ _ hS45 hp45]
    simp only [Program.fieldsOf, Try.underlying48]
    go_simp
  rw [run_eql_struct, show (10000 : Nat) = 9999 + 1 from rfl, run_equalIn_agg w 9999 50 _ _ hS hp]
  simp only [Program.fieldsOf, Try.underlying50]
  go_simp
set_option maxRecDepth 100000 in
theorem neqP_same (x : Pr) (w : World) : (binOp .neq 50 (.agg #[.string x.name, .int .i64 x.kind, .int .i64 x.int, .string x.word]) (.agg #[.string x.name, .int .i64 x.kind, .int .i64 x.int, .string x.word])).run Try.prog w = .ok (.bool false) w := by
  have u3 := Try.underlying3
  have a3 := Try.isAgg3
  have z3 := Try.sizeOf3
  have u9 := Try.underlying9
  have a9 := Try.isAgg9
  have z9 := Try.sizeOf9
  have a45 := Try.isAgg48
  have z45 := Try.sizeOf48
  have hS : Try.prog.underlying 50 = some (.struct (Try.prog.fieldsOf 50)) := by kernel_rfl
  have hp : Try.prog.stoodInHeld 50 = false := by kernel_rfl
  have h45 : (Op.equalIn 9999 48 (.agg #[.int .i64 x.kind, .int .i64 x.int, .string x.word]) (.agg #[.int .i64 x.kind, .int .i64 x.int, .string x.word])).run Try.prog w = .ok true w := by
    clear hS hp
    have hS45 : Try.prog.underlying 48 = some (.struct (Try.prog.fieldsOf 48)) := by kernel_rfl
    have hp45 : Try.prog.stoodInHeld 48 = false := by kernel_rfl
    rw [show (9999 : Nat) = 9998 + 1 from rfl, run_equalIn_agg w 9998 48 _ _ hS45 hp45]
    simp only [Program.fieldsOf, Try.underlying48]
    go_simp
  rw [run_neq_struct, show (10000 : Nat) = 9999 + 1 from rfl, run_equalIn_agg w 9999 50 _ _ hS hp]
  simp only [Program.fieldsOf, Try.underlying50]
  go_simp
/-- The pair that marks the spare room. -/
def spP : Pr := ⟨⟨#[115, 112, 97, 114, 101]⟩, 0, 0, ⟨#[]⟩⟩
theorem makeP (n : Nat) (h : n * 48 ≤ 140737488355328) : ∃ cur : Array Value, cur.size = n * 4 ∧ ∀ W : World, (Instr.makeSlice 23 (.int .i64 0) (.int .i64 (n : Int))).run Try.prog W = .ok (.slice (some ⟨W.heap.size, 0, none⟩) 0 n) (W.alloc (.cells cur 50)) := by
  obtain ⟨i0, hi, hz0, hz1, hz2⟩ := info_parts Try.info50
  refine ⟨madeCells (Value.agg #[.string ⟨#[]⟩, .int .i64 0, .int .i64 0, .string ⟨#[]⟩]).cells (n * i0.size), by rw [size_madeCells, hz1], fun W => ?_⟩
  have := run_make (P := Try.prog) W 23 50 i0 _ Try.underlying23 hi hz0 .i64 .i64 0 (n : Int) (Int.le_refl _) (by omega) (by rw [hz2]; omega) (by omega)
  simpa only [Int.toNat_zero, Int.toNat_natCast] using this
theorem ownP {B : Nat} {w : World} {n : Nat} {cur : Array Value} (hB : B ≤ w.heap.size) (hn : n ≤ maxLen) (hs : cur.size = n * 4) : OwnK encP 50 4 B (w.alloc (.cells cur 50)) (some ⟨w.heap.size, 0, none⟩) n [] := by
  have : (flatK encP 4 ([] : List Pr).toArray).toList = [] := by simp [flatK]
  unfold OwnK; rw [this]; exact World.ownsRow_made w cur n hB hn hs
theorem OwnP {B : Nat} {w : World} {q : Option Addr} {cap : Nat} {l : List Pr} (h : OwnK encP 50 4 B w q cap (l ++ [spP])) : ∃ g, q = some ⟨g, 0, none⟩ := by
  rcases h.2 with ⟨h0, _⟩ | ⟨g, cp, cur, hv, _⟩
  · injection h0 with _ h1; simp at h1
  · injection hv with h1; exact ⟨g, h1⟩
theorem pr_src {w : World} {M : Nat} {u : Pr} (h : w.heap[M]? = some (.cells #[.string u.name, .int .i64 u.kind, .int .i64 u.int, .string u.word] 50 (0, 0))) : SrcK encP 4 w (some ⟨M, 0, none⟩) 1 [u] :=
  ⟨(fun h => by cases h), fun ad hq j z hj => by
    cases hq
    rw [add_plain, Nat.zero_add]
    have hs := (List.getElem?_eq_some_iff.1 hj).1
    simp [flatK] at hs
    have hc : w.cell? ⟨M, j, none⟩ = (#[.string u.name, .int .i64 u.kind, .int .i64 u.int, .string u.word] : Array Value)[j]? := (by unfold World.cell?; simp [h])
    rw [hc]
    have e := flat_at (enc := encP) (k := 4) (l := [u]) (j := 0) (x := u) rfl j hs
    rw [Nat.zero_mul, Nat.zero_add] at e
    rw [e] at hj
    obtain rfl | rfl | rfl | rfl : j = 0 ∨ j = 1 ∨ j = 2 ∨ j = 3 := by omega
    all_goals exact hj⟩
set_option maxHeartbeats 1000000 in
set_option maxRecDepth 100000 in
theorem memP (q : Option Addr) (c : Nat) (l : List Pr) (w : World) (h : SlOf encP 4 w q c l) (hl : l.length * 48 + 64 ≤ 140737488355328) :
    Calls Try.prog 6 #[.slice q l.length c] w fun e w' => (∃ g cp, e = .returned (.slice (some ⟨g, 0, none⟩) l.length cp) ∧ OwnK encP 50 4 w.heap.size w' (some ⟨g, 0, none⟩) cp (l ++ [spP]) ∧ l.length + 1 ≤ cp) ∧ Below w.heap.size w w' := by
  have HS := hide h
  have l0 : (0 : Int) ≤ (l.length : Int) := by omega
  obtain ⟨cur, hcs, hmk⟩ := makeP (l.length + 1) (by omega)
  have hmk' : ∀ W : World, (Instr.makeSlice 23 (.int .i64 0) (.int .i64 ((l.length : Int) + 1))).run Try.prog W = .ok (.slice (some ⟨W.heap.size, 0, none⟩) 0 (l.length + 1)) (W.alloc (.cells cur 50)) := fun W => by have := hmk W; rwa [Int.natCast_add] at this
  have Hcs := hide hcs
  clear h hmk hcs
  go_enter Try.func6, Try.ntmps6
  go_wp2_with (first
    | (at_builtin; refine wpList_app rowP rfl _ _ rfl w.heap.size q8 cp8 l (some ⟨w8.heap.size, 0, none⟩) 1 [spP] l.length 1 (l.length + 1) rfl rfl rfl rfl rfl ((unhide Hown8).below ((Below.refl _ _).alloc (Nat.le_refl _) _)) (pr_src (box_nw _ _)) (by unfold maxLen; omega) (by omega) (by have := (unhide B8).size; simp; omega) ?_; intro q9 cp9 w9 hown9 hb9 hnn9 _; obtain ⟨g9, hg9⟩ := OwnP hown9; subst hg9; have hc9 := hown9.ls.2.1; have c9 : (l.length : Int) ≤ (cp9 : Int) := (by simp at hc9; omega); have Hown9 := hide hown9; have B9 := hide (((unhide B8).alloc (unhide B8).size _).trans hb9); clear hown9 hb9 hnn9)
    | (at_builtin; refine wpList_app rowP rfl _ _ rfl w.heap.size (some ⟨w.heap.size, 0, none⟩) (l.length + 1) [] q c l 0 l.length l.length rfl rfl (by simp) rfl rfl (ownP (Nat.le_refl _) (by unfold maxLen; omega) (unhide Hcs)) ((unhide HS).below ((Below.refl _ _).alloc (Nat.le_refl _) _)).src (by unfold maxLen; omega) (by omega) (by simp) ?_; intro q8 cp8 w8 hown8 hb8 _ _; have Hown8 := hide hown8; have B8 := hide (((Below.refl w.heap.size w).alloc (Nat.le_refl _) (.cells cur 50)).trans hb8); clear hown8 hb8))
  go_ret
  exact ⟨⟨g9, cp9, rfl, unhide Hown9, by simp at hc9; exact hc9⟩, unhide B9⟩
set_option maxHeartbeats 1000000 in
theorem sameP_eq (p p' : Option Addr) (cap cap' : Nat) (l : List Pr) (w : World) (hm : l.length ≤ 100000000000000) (hA : SlOf encP 4 w p cap l) (hA' : SlOf encP 4 w p' cap' l) :
    Calls Try.prog 39 #[.slice p l.length cap, .slice p' l.length cap'] w fun e w' => e = .returned (.bool true) ∧ Below w.heap.size w w' := by
  have HA := hide hA
  have HA' := hide hA'
  have hne := fun (x : Pr) (W : World) => neqP_same x W
  have hnn : ((l.length : Int) != (l.length : Int)) = false := by simp
  have a0 : (l.length : Int) ≤ 100000000000000 := by omega
  clear hA hA'
  go_enter Try.func39, Try.ntmps39
  go_wp2
  go_loopw [13] (fun i wr => ∃ k : Nat, k ≤ l.length ∧ i = .int .i64 k ∧ Below w.heap.size w wr) (fun i _ => l.length - (intOf i).toNat)
  case atStart => exact ⟨0, by omega, rfl, Below.refl _ _⟩
  case round =>
    obtain ⟨k, hk, rfl, hbel⟩ := hrel
    by_cases hlt : k < l.length
    · obtain ⟨x, hx, _⟩ := get_at hlt
      obtain ⟨bb, off, rfl, hbb, g0, g1, g2, g3⟩ := prsAt ((unhide HA).below hbel) hx
      obtain ⟨cc, off', rfl, hcc, c0, c1, c2, c3⟩ := prsAt ((unhide HA').below hbel) hx
      have ki0 : (0 : Int) ≤ (k : Int) := by omega
      have ki1 : (k : Int) < (l.length : Int) := by omega
      have hnx := hne x
      clear hx hne
      go_wp2
      go_quiet (fail)
      go_wp2
      go_roundw
      case rel => exact ⟨k + 1, by omega, by go_num, below_drewN hbel _⟩
      case measure => simp [intOf]; omega
    · obtain rfl : k = l.length := by omega
      go_wp2
      go_ret
      exact ⟨rfl, hbel⟩
set_option maxHeartbeats 1000000 in
set_option maxRecDepth 100000 in
theorem keptP (g cp : Nat) (p' : Option Addr) (cp' : Nat) (l : List Pr) (w : World) (hl : l.length ≤ 100000000000000) (hN : LsOf encP 4 w (some ⟨g, 0, none⟩) (l ++ [spP])) (hc : l.length + 1 ≤ cp) (hcm : cp ≤ maxLen) (hA' : SlOf encP 4 w p' cp' l) :
    Calls Try.prog 17 #[.slice (some ⟨g, 0, none⟩) l.length cp, .slice p' l.length cp'] w fun e w' => e = .returned (.bool true) ∧ Below w.heap.size w w' := by
  have mixed : Try.prog.follows .mixedOrders = true := by kernel_rfl
  have l0 : (0 : Int) ≤ (l.length : Int) := by omega
  have l1 : (0 : Int) ≤ (l.length : Int) + 1 := by omega
  have l2 : (l.length : Int) + 1 ≤ (cp : Int) := by omega
  have hAl : SlOf encP 4 w (some ⟨g, 0, none⟩) cp l := ⟨fun h => (by cases h), by omega, hcm, hN.take (by decide)⟩
  obtain ⟨b, off, hq, hlt, hcs⟩ := hN.at (j := l.length) (x := spP) (by simp)
  cases hq
  have c0 := hcs 0 (by omega)
  have c1 := hcs 1 (by omega)
  have c2 := hcs 2 (by omega)
  have c3 := hcs 3 (by omega)
  have heq := fun (W : World) => eqlP_same spP W
  simp only [Nat.zero_add, Nat.add_zero, spP] at c0 c1 c2 c3 heq
  simp only [encP, List.getElem!_cons_zero, List.getElem!_cons_succ] at c0 c1 c2 c3
  have hsame := sameP_eq (some ⟨g, 0, none⟩) p' cp cp' l w hl hAl hA'
  clear hN hA' hAl hcs
  go_enter Try.func17, Try.ntmps17
  go_wp2_with (first | (go_at_call 39; refine hsame.mono ?_; rintro e w1 ⟨rfl, b1⟩))
  go_ret
  exact ⟨rfl, b1⟩
/-- A row of the call's own, whatever it holds. -/
def RawI (B : Nat) (w : World) (q : Option Addr) (n cap : Nat) : Prop := ∃ xs, w.ownsRow B 3 1 (.slice q n cap) n xs
theorem RawI.cell {B : Nat} {w : World} {g n cap : Nat} (h : RawI B w (some ⟨g, 0, none⟩) n cap) (t : Nat) (ht : t < n * 1) : (∃ v, w.cell? ⟨g, t, none⟩ = some v) ∧ w.frozen? ⟨g, t, none⟩ = false := by
  obtain ⟨xs, h⟩ := h
  rcases h.2 with ⟨h0, _⟩ | ⟨g', cap', cur, hv, _, hblk, hc, _, hs, _⟩
  · cases h0
  · injection hv with h1 h2 h3
    cases h1
    have hlt : t < cur.size := by rw [hs]; omega
    exact ⟨⟨cur[t], by rw [cell_of_row w g t cur 3 (0, 0) hblk]; exact Array.getElem?_eq_getElem hlt⟩, frozen_free hblk⟩
theorem RawI.set {B : Nat} {w : World} {g n cap : Nat} (h : RawI B w (some ⟨g, 0, none⟩) n cap) (j : Nat) (u : Value) : RawI B (w.setCell ⟨g, j, none⟩ u) (some ⟨g, 0, none⟩) n cap := by
  obtain ⟨xs, h⟩ := h
  exact ⟨_, (h.stored j u).1⟩
theorem RawI.shape {B : Nat} {w : World} {q : Option Addr} {n cap : Nat} (h : RawI B w q n cap) : (q = none ∧ n = 0 ∧ cap = 0) ∨ ∃ g, q = some ⟨g, 0, none⟩ := by
  obtain ⟨xs, h⟩ := h
  rcases h.2 with ⟨h0, _⟩ | ⟨g', cap', cur, hv, _⟩
  · injection h0 with h1 h2 h3
    exact Or.inl ⟨h1, h2, h3⟩
  · injection hv with h1
    exact Or.inr ⟨g', h1⟩
theorem OwnK.rawI {B : Nat} {w : World} {q : Option Addr} {cap : Nat} {l : List Int} (h : OwnK encI 3 1 B w q cap l) : RawI B w q l.length cap := ⟨_, h⟩
theorem grown_two {w w1 w2 : World} {r r2 : Option Nat} (h : w.grownBy w1 r) (h2 : w1.grownBy w2 r2) (hr : ∀ k, r2 = some k → r = some k ∨ w.heap.size ≤ k) : w.grownBy w2 r :=
  ⟨h2.os.trans h.os, h2.tape.trans h.tape, h2.output.trans h.output, Nat.le_trans h.size h2.size, fun k hk hne => (h2.block k (Nat.lt_of_lt_of_le hk h.size) (fun e => by
    rcases hr k e.symm with h3 | h3
    · exact hne h3.symm
    · omega)).trans (h.block k hk hne)⟩
theorem grown_refl (w : World) (r : Option Nat) : w.grownBy w r := ⟨rfl, rfl, rfl, Nat.le_refl _, fun _ _ _ => rfl⟩
theorem grown_alloc (w : World) (o : Obj) (r : Option Nat) : w.grownBy (w.alloc o) r := World.grownBy_alloc w o r
theorem grown_setI {w w1 : World} {g : Nat} (h : w.grownBy w1 (some g)) (j : Nat) (u : Value) : w.grownBy (w1.setCell ⟨g, j, none⟩ u) (some g) := by
  have hb := (Below.refl 0 w1).setCell (p := ⟨g, j, none⟩) (Nat.zero_le _) u
  exact ⟨hb.os.trans h.os, hb.tape.trans h.tape, hb.output.trans h.output, Nat.le_trans h.size hb.size, fun k hk hne => (Below.heap_setCell _ _ _ _ (fun e => hne (by rw [e]))).trans (h.block k hk hne)⟩
def fiveI : Array Value := #[.int .i64 (-5), .int .i64 (-6)]
set_option maxHeartbeats 2000000 in
set_option maxRecDepth 100000 in
theorem overI (B : Nat) (q : Option Addr) (n cap : Nat) (w : World) (hl : n ≤ 1000000000000) (hB : B ≤ w.heap.size) (hR : RawI B w q n cap) :
    Calls Try.prog 14 #[.slice q n cap] w fun e w' => e = .returned (.tuple #[]) ∧ w.grownBy w' (Value.slice q n cap).ownBlock := by
  have mixed : Try.prog.follows .mixedOrders = true := by kernel_rfl
  have HR := hide hR
  have n0 : (0 : Int) ≤ (n : Int) := by omega
  have n3 : (n : Int) ≤ 1000000000000 := by omega
  obtain ⟨i0, hi, hz0, hz1, hz2⟩ := info_parts Try.info3
  have Hi := hide hi
  have Hz := hide (And.intro hz0 (And.intro hz1 hz2))
  clear hR hi hz0 hz1 hz2
  go_enter Try.func14, Try.ntmps14
  go_wp2
  go_loopw [6] (fun i wr => ∃ k : Nat, k ≤ n ∧ i = .int .i64 k ∧ Hid (RawI B wr q n cap) ∧ Hid (w.grownBy wr (Value.slice q n cap).ownBlock)) (fun i _ => n - (intOf i).toNat)
  case atStart => exact ⟨0, by omega, rfl, HR, hide (grown_refl _ _)⟩
  case round =>
    obtain ⟨k, hk, rfl, Hrow, Hgr⟩ := hrel
    by_cases hlt : k < n
    · have k0 : (0 : Int) ≤ (k : Int) := by omega
      have k1 : (k : Int) < (n : Int) := by omega
      rcases (unhide Hrow).shape with ⟨_, h1, _⟩ | ⟨g, rfl⟩
      · omega
      obtain ⟨⟨v0, cc0⟩, ff0⟩ := (unhide Hrow).cell k (by omega)
      have Hg2 : Hid (w.grownBy wr (some g)) := Hgr
      go_wp2
      exact ⟨⟨k + 1, by omega, by go_num, hide ((unhide Hrow).set _ _), hide (grown_setI (unhide Hg2) _ _)⟩, by simp [intOf]; omega⟩
    · obtain rfl : k = n := by omega
      have n1 : (k : Int) < (k : Int) + 2 := by omega
      obtain ⟨xs, hxs⟩ := unhide Hrow
      have Hxs := hide hxs
      clear hxs
      go_wp2_with (at_builtin; refine wpList_append_own_at _ rfl _ _ 26 rfl B 3 i0 (.int .i64 0) 1 8 Try.underlying26 (unhide Hi) (unhide Hz).1 (unhide Hz).2.1 (unhide Hz).2.2 rfl (by decide) _ k xs rfl (World.ownsRow.alloc (unhide Hxs) _) ⟨wr.heap.size, 0, none⟩ 2 2 fiveI.toList rfl rfl (World.news_of_block (heap_alloc_new wr _)) (by decide) (by unfold maxLen; omega) (by omega) (by have := (unhide Hgr).size; simp; omega) ?_; intro v' w2 hown hgrow hnil hat; (obtain ⟨g2, cp2, rfl, hB2, hlt2⟩ := hown.form (by omega)); (obtain ⟨⟨vv, cc⟩, ff⟩ := RawI.cell ⟨_, hown⟩ k (by omega)); have Hgrow := hide hgrow; have Hat := hide hat; clear hown hgrow hnil hat)
      have Hend : Hid (w.grownBy (w2.setCell ⟨g2, k, none⟩ (.int .i64 (-7))) (Value.slice q k cap).ownBlock) := hide (by
        have h1 := grown_two (unhide Hgr) (grown_alloc wr (.cells fiveI 3) none) (fun j hj => by cases hj)
        have h2 := grown_two h1 (unhide Hgrow) (fun j hj => Or.inl hj)
        refine grown_two h2 (grown_setI (grown_refl w2 (some g2)) _ _) (fun j hj => ?_)
        cases hj
        rcases unhide Hat with h | h
        · exact Or.inl h.symm
        · have h3 : g2 = (wr.alloc (.cells fiveI 3)).heap.size := by simpa [Value.ownBlock] using h
          exact Or.inr (by rw [h3]; have := (unhide Hgr).size; simp; omega))
      go_wp2
      exact bodyPost_end (v := .tuple #[]) (by simp [results, Try.results14, go_sem]) rfl ⟨rfl, unhide Hend⟩
end Go.Proofs.Ytkpdhkdegoincaa

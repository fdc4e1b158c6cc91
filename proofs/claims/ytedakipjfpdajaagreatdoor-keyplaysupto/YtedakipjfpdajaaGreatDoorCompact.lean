/- slices.Compact over keys: each once, where equal ones stand side by side. -/
import Derived.Test.YtedakipjfpdajaaGreatDoorEq
namespace Go.Proofs.YtedakipjfpdajaaGreatDoor
open Go.RowKit Go.Sort Go.Shelf

theorem flat_len (l : List Ky) : (flatK encK 5 l.toArray).toList.length = l.length * 5 := by simp [flatK]
theorem split_at {α : Type} {d : List α} {k : Nat} (hk : k < d.length) (x : α) : d = d.take k ++ [d[k]] ++ d.drop (k + 1) ∧ d.set k x = d.take k ++ [x] ++ d.drop (k + 1) := by
  constructor
  · rw [List.append_assoc, List.singleton_append, ← List.drop_eq_getElem_cons hk, List.take_append_drop]
  · rw [List.set_eq_take_append_cons_drop, if_pos hk]; simp
/-- A post is stored into a row. -/
theorem OwnK.put {B g cap : Nat} {w : World} {d : List Ky} (h : OwnK encK 46 5 B w (some ⟨g, 0, none⟩) cap d) {k : Nat} (hk : k < d.length) (x : Ky) :
    OwnK encK 46 5 B (((((w.setCell ⟨g, k * 5, none⟩ (.string x.attr)).setCell ⟨g, k * 5 + 1, none⟩ (.int .i64 x.kind)).setCell ⟨g, k * 5 + 2, none⟩ (.int .i64 x.level)).setCell ⟨g, k * 5 + 3, none⟩ (.int .i64 x.num)).setCell ⟨g, k * 5 + 4, none⟩ (.string x.word)) (some ⟨g, 0, none⟩) cap (d.set k x) := by
  obtain ⟨e1, e2⟩ := split_at hk x
  unfold OwnK at *
  have h2 := (((((h.stored (k * 5) (.string x.attr)).1.stored (k * 5 + 1) (.int .i64 x.kind)).1.stored (k * 5 + 2) (.int .i64 x.level)).1.stored (k * 5 + 3) (.int .i64 x.num)).1.stored (k * 5 + 4) (.string x.word)).1
  rw [List.length_set]
  have hl : (flatK encK 5 (d.take k).toArray).toList.length = k * 5 := by rw [flat_len, List.length_take]; congr 1; omega
  have hf : (flatK encK 5 (d.set k x).toArray).toList = ((((((flatK encK 5 d.toArray).toList.set (k * 5) (.string x.attr)).set (k * 5 + 1) (.int .i64 x.kind)).set (k * 5 + 2) (.int .i64 x.level)).set (k * 5 + 3) (.int .i64 x.num)).set (k * 5 + 4) (.string x.word)) := by
    rw [e2]
    conv => rhs; rw [e1]
    simp only [flat_app encK 5 (by decide), flat_oneP, List.append_assoc]
    simp [hl]
  rw [hf]
  exact h2
theorem row_setCells {g : Nat} {e : TypeId} : ∀ (vs : List Value) (o : Nat) (w : World) (cur : Array Value), w.heap[g]? = some (.cells cur e (0, 0)) → ∃ cur' : Array Value, (w.setCells g o vs).heap[g]? = some (.cells cur' e (0, 0)) ∧ cur'.size = cur.size ∧ ∀ j, j < o → cur'[j]? = cur[j]?
  | [], _, _, cur, h => ⟨cur, h, rfl, fun _ _ => rfl⟩
  | v :: r, o, w, cur, h => by
    obtain ⟨cur', h1, h2, h3⟩ := row_setCells r (o + 1) (w.setCell ⟨g, o, none⟩ v) _ (heap_setCell_same w g o cur e v h)
    refine ⟨cur', h1, by simpa using h2, fun j hj => ?_⟩
    rw [h3 j (by omega), Array.getElem?_setIfInBounds, if_neg (by omega)]
/-- What lies ahead of what is cleared. -/
theorem OwnK.cut {B g cap : Nat} {w : World} {d : List Ky} (h : OwnK encK 46 5 B w (some ⟨g, 0, none⟩) cap d) {k : Nat} (hk : k ≤ d.length) (vs : List Value) :
    OwnK encK 46 5 B (w.setCells g (k * 5) vs) (some ⟨g, 0, none⟩) cap (d.take k) := by
  rcases h.2 with ⟨h0, _⟩ | ⟨g', cap', cur, hv, hB, hblk, hc, hm, hs, ht⟩
  · injection h0 with h0; cases h0
  · injection hv with h1 h2 h3
    obtain rfl : g = g' := by injection h1 with h1; injection h1
    subst h3
    obtain ⟨cur', b1, b2, b3⟩ := row_setCells vs (k * 5) w cur hblk
    have hl : (d.take k).length = k := by rw [List.length_take]; omega
    refine ⟨by rw [flat_len], Or.inr ⟨g, cap, cur', rfl, hB, b1, by omega, hm, by rw [b2, hs], ?_⟩⟩
    have e1 : (flatK encK 5 d.toArray).toList = (flatK encK 5 (d.take k).toArray).toList ++ (flatK encK 5 (d.drop k).toArray).toList := by rw [← flat_app encK 5 (by decide), List.take_append_drop]
    have e2 : (flatK encK 5 (d.take k).toArray).toList = (flatK encK 5 d.toArray).toList.take (k * 5) := by rw [e1, List.take_left' (by rw [flat_len, hl])]
    rw [e2, ← ht, hl, List.take_take, Nat.min_eq_left (by omega)]
    apply List.ext_getElem?
    intro j
    rw [List.getElem?_take, List.getElem?_take]
    split
    · next hj => rw [Array.getElem?_toList, Array.getElem?_toList, b3 j hj]
    · rfl
theorem clearP (w : World) (ty : TypeId) (g o n c : Nat) (hn : 0 < n) (hc : ∀ j, j < n * 5 → (w.cell? ⟨g, o + j, none⟩).isSome = true) (hf : ∀ j, j < n * 5 → w.frozen? ⟨g, o + j, none⟩ = false) :
    (Builtin.clear_ #[30] ty #[.slice (some ⟨g, o, none⟩) n c]).run Tryz.prog w = .ok (.tuple #[]) (w.setCells g o (Builtin.zeroCells #[.string ⟨#[]⟩, .int .i64 0, .int .i64 0, .int .i64 0, .string ⟨#[]⟩] n).toList) := by
  have hl : (Builtin.zeroCells #[.string ⟨#[]⟩, .int .i64 0, .int .i64 0, .int .i64 0, .string ⟨#[]⟩] n).toList.length = n * 5 := by rw [Array.length_toList, size_zeroCells]; rfl
  have hst := run_storeCells_cells (P := Tryz.prog) g o (Builtin.zeroCells #[.string ⟨#[]⟩, .int .i64 0, .int .i64 0, .int .i64 0, .string ⟨#[]⟩] n).toList 0 w (by rw [hl]; exact hc) (by rw [hl]; exact hf) (by
    intro v hv'
    simp only [Builtin.zeroCells, Array.toList_map, List.mem_map] at hv'
    obtain ⟨i, _, rfl⟩ := hv'
    have hm : i % 5 = 0 ∨ i % 5 = 1 ∨ i % 5 = 2 ∨ i % 5 = 3 ∨ i % 5 = 4 := by omega
    simp only [List.size_toArray, List.length_cons, List.length_nil, Nat.zero_add, Nat.reduceAdd]
    rcases hm with e | e | e | e | e <;> rw [e] <;> rfl)
  simp only [Nat.add_zero] at hst
  obtain ⟨m, rfl⟩ : ∃ m, n = m + 1 := ⟨n - 1, by omega⟩
  have hv := Tryz.zeroValue46
  simp [Builtin.clear_, run_underlying Tryz.underlying30, hv, Value.cells, hst]
theorem below_cells {B g : Nat} (hg : B ≤ g) : ∀ (vs : List Value) (o : Nat) (w : World), Below B w (w.setCells g o vs)
  | [], _, _ => Below.refl _ _
  | v :: r, o, w => ((Below.refl B w).setCell (p := ⟨g, o, none⟩) hg v).trans (below_cells hg r (o + 1) _)
theorem cpt_short {l : List Ky} (h : l.length < 2) : cpt l = l := by
  match l, h with
  | [], _ => rfl
  | [x], _ => rfl
theorem last_take {l : List Ky} {m : Nat} {y : Ky} (hy : l[m]? = some y) : (cpt (l.take (m + 1))).getLast? = some y := by
  rw [take_snoc_of hy]
  exact cpt_last (by simp)
theorem cpt_same {l : List Ky} {m : Nat} {x : Ky} (hy : l[m]? = some x) (hx : l[m + 1]? = some x) : cpt (l.take (m + 1 + 1)) = cpt (l.take (m + 1)) := by
  rw [take_snoc_of hx, cpt_snoc]
  unfold stepC
  rw [if_pos (last_take hy)]
theorem cpt_diff {l : List Ky} {m : Nat} {x y : Ky} (hy : l[m]? = some y) (hx : l[m + 1]? = some x) (h : x ≠ y) : cpt (l.take (m + 1 + 1)) = cpt (l.take (m + 1)) ++ [x] := by
  rw [take_snoc_of hx, cpt_snoc]
  unfold stepC
  rw [if_neg (by rw [last_take hy]; intro e; exact h (Option.some.inj e).symm)]
theorem OwnK.some_of {B cap : Nat} {w : World} {q : Option Addr} {l : List Ky} (h : OwnK encK 46 5 B w q cap l) (h0 : 0 < l.length) : ∃ g, q = some ⟨g, 0, none⟩ ∧ B ≤ g ∧ g < w.heap.size ∧ l.length ≤ cap ∧ cap ≤ maxLen := by
  rcases h.2 with ⟨h1, h2⟩ | ⟨g, cap', cur, hv, hB, hblk, hc, hm, _⟩
  · omega
  · injection hv with h1 h2 h3
    exact ⟨g, h1, hB, (Array.getElem?_eq_some_iff.1 hblk).1, by omega, by omega⟩
theorem OwnK.at2 {B g cap : Nat} {w : World} {d : List Ky} (h : OwnK encK 46 5 B w (some ⟨g, 0, none⟩) cap d) {k : Nat} {x : Ky} (hk : d[k]? = some x) : w.cell? ⟨g, k * 5, none⟩ = some (.string x.attr) ∧ w.cell? ⟨g, k * 5 + 1, none⟩ = some (.int .i64 x.kind) ∧ w.cell? ⟨g, k * 5 + 2, none⟩ = some (.int .i64 x.level) ∧ w.cell? ⟨g, k * 5 + 3, none⟩ = some (.int .i64 x.num) ∧ w.cell? ⟨g, k * 5 + 4, none⟩ = some (.string x.word) := by
  obtain ⟨b, off, hq, _, c0, c1, c2, c3, c4⟩ := postAt h.ls hk
  obtain ⟨rfl, rfl⟩ : g = b ∧ 0 = off := by injection hq with hq; injection hq with h1 h2 _; exact ⟨h1, h2⟩
  rw [Nat.zero_add] at c0 c1 c2 c3 c4
  exact ⟨c0, c1, c2, c3, c4⟩
theorem OwnK.free {B g cap : Nat} {w : World} {d : List Ky} (h : OwnK encK 46 5 B w (some ⟨g, 0, none⟩) cap d) (j : Nat) : w.frozen? ⟨g, j, none⟩ = false := World.ownsRow.frozenAt h j
theorem wrap_nat (m : Nat) (h : m ≤ 4611686018427387904) : IntKind.i64.wrap (m : Int) = (m : Int) := by
  have e : (2 : Int) ^ IntKind.i64.bits = 18446744073709551616 := by decide
  have e2 : (2 : Int) ^ (IntKind.i64.bits - 1) = 9223372036854775808 := by decide
  simp [IntKind.wrap, e, e2]
  omega

set_option maxHeartbeats 4000000 in
set_option maxRecDepth 100000 in
theorem compactP (B : Nat) (q : Option Addr) (cap : Nat) (l : List Ky) (w : World) (h : OwnK encK 46 5 B w q cap l) (hB : B ≤ w.heap.size) (hl : l.length ≤ 100000000000000) :
    Calls Tryz.prog 81 #[.slice q l.length cap] w fun e w' => e = .returned (.slice q (cpt l).length cap) ∧ OwnK encK 46 5 B w' q cap (cpt l) ∧ Below B w w' := by
  by_cases h2 : l.length < 2
  · have i2 : (l.length : Int) < 2 := by omega
    rw [cpt_short h2]
    have H := hide h
    clear h h2
    go_enter Tryz.func81, Tryz.ntmps81
    go_wp2
    go_ret
    exact ⟨rfl, unhide H, Below.refl _ _⟩
  · have i2 : ¬ (l.length : Int) < 2 := by omega
    have i3 : (l.length : Int) ≤ 100000000000000 := by omega
    obtain ⟨g, rfl, hBg, hgw, hlc, hcm⟩ := h.some_of (by omega)
    have H := hide h
    clear h
    go_enter Tryz.func81, Tryz.ntmps81
    go_wp2
    go_loopw [3] (fun i wr => ∃ m : Nat, m + 1 ≤ l.length ∧ i = .int .i64 ((m : Int) + 1) ∧ cpt (l.take (m + 1)) = l.take (m + 1) ∧ Below w.heap.size w wr) (fun i _ => l.length - (intOf i).toNat)
    case atStart => exact ⟨0, by omega, rfl, cpt_short (by rw [List.length_take]; omega), Below.refl _ _⟩
    case round =>
      obtain ⟨m, hm, rfl, hpre, hbel⟩ := hrel
      have HB := hide hbel
      have HP := hide hpre
      by_cases hlt : m + 1 < l.length
      · obtain ⟨y, hy, _⟩ := get_at (l := l) (k := m) (by omega)
        obtain ⟨x, hx, _⟩ := get_at (l := l) (k := m + 1) hlt
        have HO := hide ((unhide H).below hbel)
        obtain ⟨a0, a1, a2, a3, a4⟩ := (unhide HO).at2 hy
        obtain ⟨b0, b1, b2, b3, b4⟩ := (unhide HO).at2 hx
        have ki0 : (0 : Int) ≤ (m : Int) := by omega
        have ki1 : (m : Int) < (l.length : Int) := by omega
        have kj0 : (0 : Int) ≤ (m : Int) + 1 := by omega
        have kj1 : (m : Int) + 1 < (l.length : Int) := by omega
        have kt : ((m : Int) + 1).toNat = m + 1 := by omega
        have ks := wrap_nat m (by omega)
        have heq := fun W => eqlP x y W
        have HX := hide hx
        have HY := hide hy
        by_cases hxy : x = y
        · rw [show decide (x = y) = true from decide_eq_true hxy] at heq
          have HXY := hide hxy
          clear hx hy hbel hpre hxy
          go_wp2
          go_region_held3 (fun w' => (w'.cell? ⟨g, (m + 1) * 5, none⟩ = some (.string x.attr) ∧ w'.cell? ⟨g, (m + 1) * 5 + 1, none⟩ = some (.int .i64 x.kind) ∧ w'.cell? ⟨g, (m + 1) * 5 + 2, none⟩ = some (.int .i64 x.level) ∧ w'.cell? ⟨g, (m + 1) * 5 + 3, none⟩ = some (.int .i64 x.num) ∧ w'.cell? ⟨g, (m + 1) * 5 + 4, none⟩ = some (.string x.word)) ∧ w'.cell? ⟨g, m * 5, none⟩ = some (.string y.attr) ∧ w'.cell? ⟨g, m * 5 + 1, none⟩ = some (.int .i64 y.kind) ∧ w'.cell? ⟨g, m * 5 + 2, none⟩ = some (.int .i64 y.level) ∧ w'.cell? ⟨g, m * 5 + 3, none⟩ = some (.int .i64 y.num) ∧ w'.cell? ⟨g, m * 5 + 4, none⟩ = some (.string y.word)) (go_keep) (fail)
          rename_i hHeld
          clear hHeld
          have HO2 : Hid (OwnK encK 46 5 B wr.drew (some ⟨g, 0, none⟩) cap l) := hide (show OwnK encK 46 5 B wr.drew (some ⟨g, 0, none⟩) cap l from unhide HO)
          have HB2 := hide (((unhide HB).drew).mono hB)
          obtain ⟨n2, hn2⟩ : ∃ n2, l.length - (m + 1) = n2 := ⟨_, rfl⟩
          obtain ⟨c2, hc2⟩ : ∃ c2, cap - (m + 1) = c2 := ⟨_, rfl⟩
          have nc1 : ¬ cap = m + 1 := by omega
          have nc2 : (m : Int) + 1 ≤ (l.length : Int) := by omega
          have nc3 : (l.length : Int) ≤ (cap : Int) := by omega
          go_wp2
          have hln : l.length = m + 1 + n2 := by omega
          have n20 : (n2 : Int) ≤ 100000000000000 := by omega
          have HS := hide (show cpt (l.take (m + 1 + 0 + 1)) = l.take (m + 1) by rw [Nat.add_zero, cpt_same (unhide HY) (by rw [unhide HX, unhide HXY]), unhide HP])
          have HLN := hide hln
          clear heq a0 a1 a2 a3 a4 b0 b1 b2 b3 b4 hn2 hc2 hln
          go_loopw [3, 5] (fun a b wi => ∃ (j k : Nat) (d : List Ky), j + 1 ≤ n2 ∧ a = .int .i64 (k : Int) ∧ b = .int .i64 ((j : Int) + 1) ∧ d.length = l.length ∧ k ≤ m + 1 + j ∧ (cpt (l.take (m + 1 + j + 1))).length = k ∧ d.take k = cpt (l.take (m + 1 + j + 1)) ∧ (∀ i, m + 1 + j ≤ i → d[i]? = l[i]?) ∧ OwnK encK 46 5 B wi (some ⟨g, 0, none⟩) cap d ∧ Below B w wi) (fun _ b _ => n2 - (intOf b).toNat)
          case atStart => exact ⟨0, m + 1, l, (by have := unhide HLN; omega), rfl, rfl, rfl, by omega, (by rw [unhide HS, List.length_take]; omega), (unhide HS).symm, fun _ _ => rfl, unhide HO2, unhide HB2⟩
          case round =>
            obtain ⟨j, k, d, hj, rfl, rfl, hdl, hkm, hkl, hdk, hdi, hO, hbB⟩ := hrel
            have HD := hide hdl
            have HK := hide hkl
            have HDK := hide hdk
            have HDI := hide hdi
            have HO3 := hide hO
            have HB3 := hide hbB
            have hkl' : k < l.length := by have := unhide HLN; omega
            have f0 := fun o => hO.free o
            have k0 : (0 : Int) ≤ (k : Int) := by omega
            have k1 : (k : Int) < (l.length : Int) := by omega
            have k2 : (k : Int) ≤ (l.length : Int) := by omega
            obtain ⟨z, hz, _⟩ := get_at (l := d) (k := k) (by omega)
            obtain ⟨z0, z1, z2, z3, z4⟩ := hO.at2 hz
            clear hdl hkl hdk hdi hbB hz
            by_cases hlt2 : j + 1 < n2
            · obtain ⟨y', hy, _⟩ := get_at (l := l) (k := m + 1 + j) (by have := unhide HLN; omega)
              obtain ⟨x', hx, _⟩ := get_at (l := l) (k := m + 1 + j + 1) (by have := unhide HLN; omega)
              obtain ⟨a0, a1, a2, a3, a4⟩ := hO.at2 ((unhide HDI _ (by omega)).trans hy)
              obtain ⟨b0, b1, b2, b3, b4⟩ := hO.at2 ((unhide HDI _ (by omega)).trans hx)
              rw [show (m + 1 + j) * 5 = (m + 1) * 5 + j * 5 by omega] at a0 a1 a2 a3 a4
              rw [show (m + 1 + j + 1) * 5 = (m + 1) * 5 + (j + 1) * 5 by omega] at b0 b1 b2 b3 b4
              have ji0 : (0 : Int) ≤ (j : Int) := by omega
              have ji1 : (j : Int) < (n2 : Int) := by omega
              have jj0 : (0 : Int) ≤ (j : Int) + 1 := by omega
              have jj1 : (j : Int) + 1 < (n2 : Int) := by omega
              have jt : ((j : Int) + 1).toNat = j + 1 := by omega
              have js := wrap_nat j (by omega)
              have hne := fun W => neqP x' y' W
              by_cases hxy : x' = y'
              · rw [show decide (x' = y') = true from decide_eq_true hxy] at hne
                have HN := hide (cpt_same hy (by rw [hx, hxy]))
                clear hx hy hO
                go_wp2
                go_region_held3 (fun w' => (w'.cell? ⟨g, (m + 1) * 5 + (j + 1) * 5, none⟩ = some (.string x'.attr) ∧ w'.cell? ⟨g, (m + 1) * 5 + (j + 1) * 5 + 1, none⟩ = some (.int .i64 x'.kind) ∧ w'.cell? ⟨g, (m + 1) * 5 + (j + 1) * 5 + 2, none⟩ = some (.int .i64 x'.level) ∧ w'.cell? ⟨g, (m + 1) * 5 + (j + 1) * 5 + 3, none⟩ = some (.int .i64 x'.num) ∧ w'.cell? ⟨g, (m + 1) * 5 + (j + 1) * 5 + 4, none⟩ = some (.string x'.word)) ∧ w'.cell? ⟨g, (m + 1) * 5 + j * 5, none⟩ = some (.string y'.attr) ∧ w'.cell? ⟨g, (m + 1) * 5 + j * 5 + 1, none⟩ = some (.int .i64 y'.kind) ∧ w'.cell? ⟨g, (m + 1) * 5 + j * 5 + 2, none⟩ = some (.int .i64 y'.level) ∧ w'.cell? ⟨g, (m + 1) * 5 + j * 5 + 3, none⟩ = some (.int .i64 y'.num) ∧ w'.cell? ⟨g, (m + 1) * 5 + j * 5 + 4, none⟩ = some (.string y'.word)) (go_keep) (fail)
                all_goals
                  go_wp2
                  go_roundw
                  case rel => exact ⟨j + 1, k, d, by omega, rfl, by go_num, unhide HD, by omega, (by rw [show m + 1 + (j + 1) + 1 = m + 1 + j + 1 + 1 by omega, unhide HN]; exact unhide HK), (by rw [show m + 1 + (j + 1) + 1 = m + 1 + j + 1 + 1 by omega, unhide HN]; exact unhide HDK), fun i hi => unhide HDI i (by omega), (show OwnK encK 46 5 B wr.drew (some ⟨g, 0, none⟩) cap d from unhide HO3), (unhide HB3).drew⟩
                  case measure => simp [intOf]; omega
              · rw [show decide (x' = y') = false from decide_eq_false hxy] at hne
                have HN := hide (cpt_diff hy hx hxy)
                have k3 : (k : Int) ≤ 100000000000000 := by omega
                clear hx hy hO
                go_wp2
                go_region_held3 (fun w' => (w'.cell? ⟨g, (m + 1) * 5 + (j + 1) * 5, none⟩ = some (.string x'.attr) ∧ w'.cell? ⟨g, (m + 1) * 5 + (j + 1) * 5 + 1, none⟩ = some (.int .i64 x'.kind) ∧ w'.cell? ⟨g, (m + 1) * 5 + (j + 1) * 5 + 2, none⟩ = some (.int .i64 x'.level) ∧ w'.cell? ⟨g, (m + 1) * 5 + (j + 1) * 5 + 3, none⟩ = some (.int .i64 x'.num) ∧ w'.cell? ⟨g, (m + 1) * 5 + (j + 1) * 5 + 4, none⟩ = some (.string x'.word)) ∧ w'.cell? ⟨g, (m + 1) * 5 + j * 5, none⟩ = some (.string y'.attr) ∧ w'.cell? ⟨g, (m + 1) * 5 + j * 5 + 1, none⟩ = some (.int .i64 y'.kind) ∧ w'.cell? ⟨g, (m + 1) * 5 + j * 5 + 2, none⟩ = some (.int .i64 y'.level) ∧ w'.cell? ⟨g, (m + 1) * 5 + j * 5 + 3, none⟩ = some (.int .i64 y'.num) ∧ w'.cell? ⟨g, (m + 1) * 5 + j * 5 + 4, none⟩ = some (.string y'.word)) (go_keep) (fail)
                all_goals
                  go_wp2
                  go_roundw
                  case rel => exact ⟨j + 1, k + 1, d.set k x', by omega, by go_num, by go_num, by rw [List.length_set]; exact unhide HD, by omega, (by rw [show m + 1 + (j + 1) + 1 = m + 1 + j + 1 + 1 by omega, unhide HN, List.length_append, unhide HK]; rfl), (by rw [show m + 1 + (j + 1) + 1 = m + 1 + j + 1 + 1 by omega, unhide HN, ← unhide HDK, take_snoc_of (x := x') (by rw [List.getElem?_set_self (by have := unhide HD; omega)]), List.take_set_of_le (Nat.le_refl k)]), fun i hi => (by rw [List.getElem?_set_ne (by omega)]; exact unhide HDI i (by omega)), OwnK.put (show OwnK encK 46 5 B wr.drew (some ⟨g, 0, none⟩) cap d from unhide HO3) (by have := unhide HD; omega) x', (((((((unhide HB3).drew).setCell (p := ⟨g, k * 5, none⟩) hBg _).setCell (p := ⟨g, k * 5 + 1, none⟩) hBg _).setCell (p := ⟨g, k * 5 + 2, none⟩) hBg _).setCell (p := ⟨g, k * 5 + 3, none⟩) hBg _).setCell (p := ⟨g, k * 5 + 4, none⟩) hBg _)⟩
                  case measure => simp [intOf]; omega
            · have jj1 : ¬ (j : Int) + 1 < (n2 : Int) := by omega
              have e1 : l.take (m + 1 + j + 1) = l := List.take_of_length_le (by have := unhide HLN; omega)
              have HE := hide e1
              obtain ⟨n3, hn3⟩ : ∃ n3, l.length - k = n3 := ⟨_, rfl⟩
              obtain ⟨c3, hc3⟩ : ∃ c3, cap - k = c3 := ⟨_, rfl⟩
              have nc4 : ¬ cap = k := by omega
              have hcl := fun ty => clearP wr ty g (k * 5) n3 c3 (by omega) (fun t ht => by
                have hi : (k * 5 + t) / 5 < d.length := (by have := unhide HD; omega)
                obtain ⟨u, hu, _⟩ := get_at hi
                obtain ⟨u0, u1, u2, u3, u4⟩ := hO.at2 hu
                have hm2 : k * 5 + t = (k * 5 + t) / 5 * 5 ∨ k * 5 + t = (k * 5 + t) / 5 * 5 + 1 ∨ k * 5 + t = (k * 5 + t) / 5 * 5 + 2 ∨ k * 5 + t = (k * 5 + t) / 5 * 5 + 3 ∨ k * 5 + t = (k * 5 + t) / 5 * 5 + 4 := (by omega)
                rcases hm2 with e | e | e | e | e
                · rw [e, u0]; rfl
                · rw [e, u1]; rfl
                · rw [e, u2]; rfl
                · rw [e, u3]; rfl
                · rw [e, u4]; rfl) (fun t _ => hO.free _)
              generalize hvs : (Builtin.zeroCells #[.string ⟨#[]⟩, .int .i64 0, .int .i64 0, .int .i64 0, .string ⟨#[]⟩] n3).toList = vs at hcl
              clear e1 hO hvs
              go_wp2
              go_ret
              have hke : (cpt l).length = k := by have := unhide HK; rw [unhide HE] at this; exact this
              have hde : d.take k = cpt l := by have := unhide HDK; rw [unhide HE] at this; exact this
              refine ⟨by rw [hke]; rfl, ?_, (unhide HB3).trans (below_cells hBg _ _ _)⟩
              have := (unhide HO3).cut (k := k) (by have := unhide HD; omega) vs
              rw [hde] at this
              exact this
        · rw [show decide (x = y) = false from decide_eq_false hxy] at heq
          have HN := hide (cpt_diff hy hx hxy)
          clear hx hy hbel hpre hxy
          go_wp2
          go_region_held3 (fun w' => (w'.cell? ⟨g, (m + 1) * 5, none⟩ = some (.string x.attr) ∧ w'.cell? ⟨g, (m + 1) * 5 + 1, none⟩ = some (.int .i64 x.kind) ∧ w'.cell? ⟨g, (m + 1) * 5 + 2, none⟩ = some (.int .i64 x.level) ∧ w'.cell? ⟨g, (m + 1) * 5 + 3, none⟩ = some (.int .i64 x.num) ∧ w'.cell? ⟨g, (m + 1) * 5 + 4, none⟩ = some (.string x.word)) ∧ w'.cell? ⟨g, m * 5, none⟩ = some (.string y.attr) ∧ w'.cell? ⟨g, m * 5 + 1, none⟩ = some (.int .i64 y.kind) ∧ w'.cell? ⟨g, m * 5 + 2, none⟩ = some (.int .i64 y.level) ∧ w'.cell? ⟨g, m * 5 + 3, none⟩ = some (.int .i64 y.num) ∧ w'.cell? ⟨g, m * 5 + 4, none⟩ = some (.string y.word)) (go_keep) (fail)
          all_goals
            go_wp2
            go_roundw
            case rel => exact ⟨m + 1, by omega, by go_num, by rw [unhide HN, unhide HP, ← take_snoc_of (unhide HX)], (unhide HB).drew⟩
            case measure => simp [intOf]; omega
      · have ki1 : ¬ (m : Int) + 1 < (l.length : Int) := by omega
        have e1 : l.take (m + 1) = l := List.take_of_length_le (by omega)
        rw [e1] at hpre
        have HQ := hide hpre
        clear hpre e1
        go_wp2
        go_ret
        rw [unhide HQ]
        exact ⟨rfl, (unhide H).below (unhide HB), (unhide HB).mono hB⟩
end Go.Proofs.YtedakipjfpdajaaGreatDoor

/- slices.CompactFunc over pairs: of pairs of one name that stand side by side the first stays. -/
import Derived.Test.YtedakipjfpdajaaGreatDoorZaj
import Derived.Test.YtedakipjfpdajaaGreatDoorZae
namespace Go.Proofs.YtedakipjfpdajaaGreatDoor
open Go.RowKit Go.Sort Go.Shelf

set_option maxRecDepth 100000 in
theorem sameG (x y : Pr) (w : World) : Calls Tryz.prog 67 #[.agg #[.string x.name, .int .i64 x.kind, .int .i64 x.num, .string x.word], .agg #[.string y.name, .int .i64 y.kind, .int .i64 y.num, .string y.word]] w fun e w' => e = .returned (.bool (decide (x.name = y.name))) ∧ ∃ q os', w' = grow (w.drewN q) os' := by
  go_enter Tryz.func67, Tryz.ntmps67
  go_wp2
  go_ret
  refine ⟨?_, ?_⟩
  · congr 2
    by_cases h : x.name = y.name
    · simp [h]
    · simp [h, ByteArray.toList_eq]
      exact fun e => h (ByteArray.ext e)
  · simp only [alloc_eq_grow, grow_grow]
    exact ⟨0, _, rfl⟩
def stepR (acc : List Pr) (x : Pr) : List Pr := if acc.getLast?.map Pr.name = some x.name then acc else acc ++ [x]
/-- The first of each run of one name. -/
def cptR (l : List Pr) : List Pr := l.foldl stepR []
theorem cptR_snoc (l : List Pr) (x : Pr) : cptR (l ++ [x]) = stepR (cptR l) x := by unfold cptR; rw [List.foldl_append]; rfl
theorem cptR_short {l : List Pr} (h : l.length < 2) : cptR l = l := by
  match l, h with
  | [], _ => rfl
  | [x], _ => rfl
theorem stepR_last (acc : List Pr) (x : Pr) : (stepR acc x).getLast?.map Pr.name = some x.name := by
  unfold stepR
  split
  · assumption
  · simp
theorem last_takeR {l : List Pr} {m : Nat} {y : Pr} (hy : l[m]? = some y) : (cptR (l.take (m + 1))).getLast?.map Pr.name = some y.name := by
  rw [take_snoc_of hy, cptR_snoc]
  exact stepR_last _ _
theorem cptR_same {l : List Pr} {m : Nat} {x y : Pr} (hy : l[m]? = some y) (hx : l[m + 1]? = some x) (h : x.name = y.name) : cptR (l.take (m + 1 + 1)) = cptR (l.take (m + 1)) := by
  rw [take_snoc_of hx, cptR_snoc]
  unfold stepR
  rw [if_pos (by rw [last_takeR hy, h])]
theorem cptR_diff {l : List Pr} {m : Nat} {x y : Pr} (hy : l[m]? = some y) (hx : l[m + 1]? = some x) (h : x.name ≠ y.name) : cptR (l.take (m + 1 + 1)) = cptR (l.take (m + 1)) ++ [x] := by
  rw [take_snoc_of hx, cptR_snoc]
  unfold stepR
  rw [if_neg (by rw [last_takeR hy]; intro e; exact h (Option.some.inj e).symm)]
theorem someR {B cap : Nat} {w : World} {q : Option Addr} {l : List Pr} (h : OwnK encR 42 4 B w q cap l) (h0 : 0 < l.length) : ∃ g, q = some ⟨g, 0, none⟩ ∧ B ≤ g ∧ g < w.heap.size ∧ l.length ≤ cap ∧ cap ≤ maxLen := by
  rcases h.2 with ⟨h1, h2⟩ | ⟨g, cap', cur, hv, hB, hblk, hc, hm, _⟩
  · omega
  · injection hv with h1 h2 h3
    exact ⟨g, h1, hB, (Array.getElem?_eq_some_iff.1 hblk).1, by omega, by omega⟩
/-- What lies ahead of what is cleared. -/
theorem cutR {B g cap : Nat} {w : World} {d : List Pr} (h : OwnK encR 42 4 B w (some ⟨g, 0, none⟩) cap d) {k : Nat} (hk : k ≤ d.length) (vs : List Value) :
    OwnK encR 42 4 B (w.setCells g (k * 4) vs) (some ⟨g, 0, none⟩) cap (d.take k) := by
  rcases h.2 with ⟨h0, _⟩ | ⟨g', cap', cur, hv, hB, hblk, hc, hm, hs, ht⟩
  · injection h0 with h0; cases h0
  · injection hv with h1 h2 h3
    obtain rfl : g = g' := by injection h1 with h1; injection h1
    subst h3
    obtain ⟨cur', b1, b2, b3⟩ := row_setCells vs (k * 4) w cur hblk
    have hl : (d.take k).length = k := by rw [List.length_take]; omega
    refine ⟨by rw [flat_lenR], Or.inr ⟨g, cap, cur', rfl, hB, b1, by omega, hm, by rw [b2, hs], ?_⟩⟩
    have e1 : (flatK encR 4 d.toArray).toList = (flatK encR 4 (d.take k).toArray).toList ++ (flatK encR 4 (d.drop k).toArray).toList := by rw [← flat_app encR 4 (by decide), List.take_append_drop]
    have e2 : (flatK encR 4 (d.take k).toArray).toList = (flatK encR 4 d.toArray).toList.take (k * 4) := by rw [e1, List.take_left' (by rw [flat_lenR, hl])]
    rw [e2, ← ht, hl, List.take_take, Nat.min_eq_left (by omega)]
    apply List.ext_getElem?
    intro j
    rw [List.getElem?_take, List.getElem?_take]
    split
    · next hj => rw [Array.getElem?_toList, Array.getElem?_toList, b3 j hj]
    · rfl
theorem clearR (w : World) (ty : TypeId) (g o n c : Nat) (hn : 0 < n) (hc : ∀ j, j < n * 4 → (w.cell? ⟨g, o + j, none⟩).isSome = true) (hf : ∀ j, j < n * 4 → w.frozen? ⟨g, o + j, none⟩ = false) :
    (Builtin.clear_ #[26] ty #[.slice (some ⟨g, o, none⟩) n c]).run Tryz.prog w = .ok (.tuple #[]) (w.setCells g o (Builtin.zeroCells #[.string ⟨#[]⟩, .int .i64 0, .int .i64 0, .string ⟨#[]⟩] n).toList) := by
  have hl : (Builtin.zeroCells #[.string ⟨#[]⟩, .int .i64 0, .int .i64 0, .string ⟨#[]⟩] n).toList.length = n * 4 := by rw [Array.length_toList, size_zeroCells]; rfl
  have hst := run_storeCells_cells (P := Tryz.prog) g o (Builtin.zeroCells #[.string ⟨#[]⟩, .int .i64 0, .int .i64 0, .string ⟨#[]⟩] n).toList 0 w (by rw [hl]; exact hc) (by rw [hl]; exact hf) (by
    intro v hv'
    simp only [Builtin.zeroCells, Array.toList_map, List.mem_map] at hv'
    obtain ⟨i, _, rfl⟩ := hv'
    have hm : i % 4 = 0 ∨ i % 4 = 1 ∨ i % 4 = 2 ∨ i % 4 = 3 := by omega
    simp only [List.size_toArray, List.length_cons, List.length_nil, Nat.zero_add, Nat.reduceAdd]
    rcases hm with e | e | e | e <;> rw [e] <;> rfl)
  simp only [Nat.add_zero] at hst
  obtain ⟨m, rfl⟩ : ∃ m, n = m + 1 := ⟨n - 1, by omega⟩
  have hv := Tryz.zeroValue42
  simp [Builtin.clear_, run_underlying Tryz.underlying26, hv, Value.cells, hst]

set_option maxHeartbeats 4000000 in
set_option maxRecDepth 100000 in
theorem compactR (B : Nat) (q : Option Addr) (cap : Nat) (l : List Pr) (w : World) (h : OwnK encR 42 4 B w q cap l) (hB : B ≤ w.heap.size) (hl : l.length ≤ 100000000000000) :
    Calls Tryz.prog 68 #[.slice q l.length cap, .func (.func 67) #[] #[]] w fun e w' => e = .returned (.slice q (cptR l).length cap) ∧ OwnK encR 42 4 B w' q cap (cptR l) ∧ Below B w w' := by
  have mixed : Tryz.prog.follows .mixedOrders = true := by kernel_rfl
  have e67 : ∀ args w, (callFunc 67 args).run Tryz.prog w = .ok (.enter 67 args) w := enters_of Tryz.func67 (by kernel_rfl) rfl
  by_cases h2 : l.length < 2
  · have i2 : (l.length : Int) < 2 := by omega
    rw [cptR_short h2]
    have H := hide h
    clear h h2
    go_enter Tryz.func68, Tryz.ntmps68
    go_wp2
    go_ret
    exact ⟨rfl, unhide H, Below.refl _ _⟩
  · have i2 : ¬ (l.length : Int) < 2 := by omega
    have i3 : (l.length : Int) ≤ 100000000000000 := by omega
    obtain ⟨g, rfl, hBg, hgw0, hlc, hcm⟩ := someR h (by omega)
    have H := hide h
    clear h
    go_enter Tryz.func68, Tryz.ntmps68
    go_wp2
    go_loopw [5] (fun i wr => ∃ m : Nat, m + 1 ≤ l.length ∧ i = .int .i64 ((m : Int) + 1) ∧ cptR (l.take (m + 1)) = l.take (m + 1) ∧ Below w.heap.size w wr) (fun i _ => l.length - (intOf i).toNat)
    case atStart => exact ⟨0, by omega, rfl, cptR_short (by rw [List.length_take]; omega), Below.refl _ _⟩
    case round =>
      obtain ⟨m, hm, rfl, hpre, hbel⟩ := hrel
      have HB := hide hbel
      have HP := hide hpre
      by_cases hlt : m + 1 < l.length
      · obtain ⟨y, hy, _⟩ := get_at (l := l) (k := m) (by omega)
        obtain ⟨x, hx, _⟩ := get_at (l := l) (k := m + 1) hlt
        have HO := hide ((unhide H).below hbel)
        have hgw := (geR (unhide HO)).2.1
        obtain ⟨a0, a1, a2, a3⟩ := atR (unhide HO) hy
        obtain ⟨b0, b1, b2, b3⟩ := atR (unhide HO) hx
        have ga0 := grown_all (a := ⟨g, m * 4, none⟩) hgw a0
        have ga1 := grown_all (a := ⟨g, m * 4 + 1, none⟩) hgw a1
        have ga2 := grown_all (a := ⟨g, m * 4 + 2, none⟩) hgw a2
        have ga3 := grown_all (a := ⟨g, m * 4 + 3, none⟩) hgw a3
        have gb0 := grown_all (a := ⟨g, (m + 1) * 4, none⟩) hgw b0
        have gb1 := grown_all (a := ⟨g, (m + 1) * 4 + 1, none⟩) hgw b1
        have gb2 := grown_all (a := ⟨g, (m + 1) * 4 + 2, none⟩) hgw b2
        have gb3 := grown_all (a := ⟨g, (m + 1) * 4 + 3, none⟩) hgw b3
        have ki0 : (0 : Int) ≤ (m : Int) := by omega
        have ki1 : (m : Int) < (l.length : Int) := by omega
        have kj0 : (0 : Int) ≤ (m : Int) + 1 := by omega
        have kj1 : (m : Int) + 1 < (l.length : Int) := by omega
        have kt : ((m : Int) + 1).toNat = m + 1 := by omega
        have ks := wrap_nat m (by omega)
        have heq := fun W => sameG x y W
        have HX := hide hx
        have HY := hide hy
        by_cases hxy : x.name = y.name
        · rw [show decide (x.name = y.name) = true from decide_eq_true hxy] at heq
          have HXY := hide hxy
          clear hx hy hbel hpre hxy a0 a1 a2 a3 b0 b1 b2 b3
          go_wp2
          go_quiet_grown (first | (go_at_fn 67; refine Calls.grown_of (heq _)))
          have bW := below_grown_any (Below.refl wr.heap.size wr) (Nat.le_refl _) nq osq
          generalize grow (wr.drewN nq) osq = W at bW ⊢
          have HO2 := hide ((unhide HO).below bW)
          have HB2 := hide ((below_sub (unhide HB) bW).mono hB)
          obtain ⟨n2, hn2⟩ : ∃ n2, l.length - (m + 1) = n2 := ⟨_, rfl⟩
          obtain ⟨c2, hc2⟩ : ∃ c2, cap - (m + 1) = c2 := ⟨_, rfl⟩
          have nc1 : ¬ cap = m + 1 := by omega
          have nc2 : (m : Int) + 1 ≤ (l.length : Int) := by omega
          have nc3 : (l.length : Int) ≤ (cap : Int) := by omega
          clear bW ga0 ga1 ga2 ga3 gb0 gb1 gb2 gb3 heq
          go_wp2
          have hln : l.length = m + 1 + n2 := by omega
          have n20 : (n2 : Int) ≤ 100000000000000 := by omega
          have HS := hide (show cptR (l.take (m + 1 + 0 + 1)) = l.take (m + 1) by rw [Nat.add_zero, cptR_same (unhide HY) (unhide HX) (unhide HXY), unhide HP])
          have HLN := hide hln
          clear hn2 hc2 hln
          go_loopw [5, 7] (fun a b wi => ∃ (j k : Nat) (d : List Pr), j + 1 ≤ n2 ∧ a = .int .i64 (k : Int) ∧ b = .int .i64 ((j : Int) + 1) ∧ d.length = l.length ∧ k ≤ m + 1 + j ∧ (cptR (l.take (m + 1 + j + 1))).length = k ∧ d.take k = cptR (l.take (m + 1 + j + 1)) ∧ (∀ i, m + 1 + j ≤ i → d[i]? = l[i]?) ∧ OwnK encR 42 4 B wi (some ⟨g, 0, none⟩) cap d ∧ Below B w wi) (fun _ b _ => n2 - (intOf b).toNat)
          case atStart => exact ⟨0, m + 1, l, (by have := unhide HLN; omega), rfl, rfl, rfl, by omega, (by rw [unhide HS, List.length_take]; omega), (unhide HS).symm, fun _ _ => rfl, unhide HO2, unhide HB2⟩
          case round =>
            obtain ⟨j, k, d, hj, rfl, rfl, hdl, hkm, hkl, hdk, hdi, hO, hbB⟩ := hrel
            have HD := hide hdl
            have HK := hide hkl
            have HDK := hide hdk
            have HDI := hide hdi
            have HO3 := hide hO
            have HB3 := hide hbB
            have hgw2 := (geR hO).2.1
            have hkl' : k < l.length := by have := unhide HLN; omega
            have k0 : (0 : Int) ≤ (k : Int) := by omega
            have k1 : (k : Int) < (l.length : Int) := by omega
            have k2 : (k : Int) ≤ (l.length : Int) := by omega
            obtain ⟨z, hz, _⟩ := get_at (l := d) (k := k) (by omega)
            have HZ := hide hz
            clear hdl hkl hdk hdi hbB hz
            by_cases hlt2 : j + 1 < n2
            · obtain ⟨y', hy, _⟩ := get_at (l := l) (k := m + 1 + j) (by have := unhide HLN; omega)
              obtain ⟨x', hx, _⟩ := get_at (l := l) (k := m + 1 + j + 1) (by have := unhide HLN; omega)
              obtain ⟨a0, a1, a2, a3⟩ := atR hO ((unhide HDI _ (by omega)).trans hy)
              obtain ⟨b0, b1, b2, b3⟩ := atR hO ((unhide HDI _ (by omega)).trans hx)
              rw [show (m + 1 + j) * 4 = (m + 1) * 4 + j * 4 by omega] at a0 a1 a2 a3
              rw [show (m + 1 + j + 1) * 4 = (m + 1) * 4 + (j + 1) * 4 by omega] at b0 b1 b2 b3
              have ga0 := grown_all (a := ⟨g, (m + 1) * 4 + j * 4, none⟩) hgw2 a0
              have ga1 := grown_all (a := ⟨g, (m + 1) * 4 + j * 4 + 1, none⟩) hgw2 a1
              have ga2 := grown_all (a := ⟨g, (m + 1) * 4 + j * 4 + 2, none⟩) hgw2 a2
              have ga3 := grown_all (a := ⟨g, (m + 1) * 4 + j * 4 + 3, none⟩) hgw2 a3
              have gb0 := grown_all (a := ⟨g, (m + 1) * 4 + (j + 1) * 4, none⟩) hgw2 b0
              have gb1 := grown_all (a := ⟨g, (m + 1) * 4 + (j + 1) * 4 + 1, none⟩) hgw2 b1
              have gb2 := grown_all (a := ⟨g, (m + 1) * 4 + (j + 1) * 4 + 2, none⟩) hgw2 b2
              have gb3 := grown_all (a := ⟨g, (m + 1) * 4 + (j + 1) * 4 + 3, none⟩) hgw2 b3
              have ji0 : (0 : Int) ≤ (j : Int) := by omega
              have ji1 : (j : Int) < (n2 : Int) := by omega
              have jj0 : (0 : Int) ≤ (j : Int) + 1 := by omega
              have jj1 : (j : Int) + 1 < (n2 : Int) := by omega
              have jt : ((j : Int) + 1).toNat = j + 1 := by omega
              have js := wrap_nat j (by omega)
              have hne := fun W => sameG x' y' W
              by_cases hxy : x'.name = y'.name
              · rw [show decide (x'.name = y'.name) = true from decide_eq_true hxy] at hne
                have HN := hide (cptR_same hy hx hxy)
                clear hx hy hO hxy a0 a1 a2 a3 b0 b1 b2 b3
                go_wp2
                go_quiet_grown (first | (go_at_fn 67; refine Calls.grown_of (hne _)))
                have bW := below_grown_any (Below.refl wr.heap.size wr) (Nat.le_refl _) nq osq
                generalize grow (wr.drewN nq) osq = W2 at bW ⊢
                have HO4 := hide ((unhide HO3).below bW)
                have HB4 := hide ((unhide HB3).trans (bW.mono (Nat.le_trans hBg (Nat.le_of_lt hgw2))))
                clear bW
                go_wp2
                go_roundw
                case rel => exact ⟨j + 1, k, d, by omega, rfl, by go_num, unhide HD, by omega, (by rw [show m + 1 + (j + 1) + 1 = m + 1 + j + 1 + 1 by omega, unhide HN]; exact unhide HK), (by rw [show m + 1 + (j + 1) + 1 = m + 1 + j + 1 + 1 by omega, unhide HN]; exact unhide HDK), fun i hi => unhide HDI i (by omega), unhide HO4, unhide HB4⟩
                case measure => simp [intOf]; omega
              · rw [show decide (x'.name = y'.name) = false from decide_eq_false hxy] at hne
                have HN := hide (cptR_diff hy hx hxy)
                have k3 : (k : Int) ≤ 100000000000000 := by omega
                have HXX := hide ((unhide HDI _ (by omega)).trans hx)
                clear hx hy hO a0 a1 a2 a3 b0 b1 b2 b3
                go_wp2
                go_quiet_grown (first | (go_at_fn 67; refine Calls.grown_of (hne _)))
                have bW := below_grown_any (Below.refl wr.heap.size wr) (Nat.le_refl _) nq osq
                generalize grow (wr.drewN nq) osq = W2 at bW ⊢
                have HO4 := hide ((unhide HO3).below bW)
                have HB4 := hide ((unhide HB3).trans (bW.mono (Nat.le_trans hBg (Nat.le_of_lt hgw2))))
                clear bW ga0 ga1 ga2 ga3 gb0 gb1 gb2 gb3 hne
                have f0 := fun o => freeR (unhide HO4) o
                obtain ⟨z0, z1, z2, z3⟩ := atR (unhide HO4) (unhide HZ)
                obtain ⟨b0, b1, b2, b3⟩ := atR (unhide HO4) (unhide HXX)
                rw [show (m + 1 + j + 1) * 4 = (m + 1) * 4 + (j + 1) * 4 by omega] at b0 b1 b2 b3
                go_wp2
                go_roundw
                case rel => exact ⟨j + 1, k + 1, d.set k x', by omega, by go_num, by go_num, by rw [List.length_set]; exact unhide HD, by omega, (by rw [show m + 1 + (j + 1) + 1 = m + 1 + j + 1 + 1 by omega, unhide HN, List.length_append, unhide HK]; rfl), (by rw [show m + 1 + (j + 1) + 1 = m + 1 + j + 1 + 1 by omega, unhide HN, ← unhide HDK, take_snoc_of (x := x') (by rw [List.getElem?_set_self (by have := unhide HD; omega)]), List.take_set_of_le (Nat.le_refl k)]), fun i hi => (by rw [List.getElem?_set_ne (by omega)]; exact unhide HDI i (by omega)), putR (unhide HO4) (by have := unhide HD; omega) x', (((((unhide HB4).setCell (p := ⟨g, k * 4, none⟩) hBg _).setCell (p := ⟨g, k * 4 + 1, none⟩) hBg _).setCell (p := ⟨g, k * 4 + 2, none⟩) hBg _).setCell (p := ⟨g, k * 4 + 3, none⟩) hBg _)⟩
                case measure => simp [intOf]; omega
            · have jj1 : ¬ (j : Int) + 1 < (n2 : Int) := by omega
              have e1 : l.take (m + 1 + j + 1) = l := List.take_of_length_le (by have := unhide HLN; omega)
              have HE := hide e1
              obtain ⟨n3, hn3⟩ : ∃ n3, l.length - k = n3 := ⟨_, rfl⟩
              obtain ⟨c3, hc3⟩ : ∃ c3, cap - k = c3 := ⟨_, rfl⟩
              have nc4 : ¬ cap = k := by omega
              have hcl := fun ty => clearR wr ty g (k * 4) n3 c3 (by omega) (fun t ht => by
                have hi : (k * 4 + t) / 4 < d.length := (by have := unhide HD; omega)
                obtain ⟨u, hu, _⟩ := get_at hi
                obtain ⟨u0, u1, u2, u3⟩ := atR hO hu
                have hm2 : k * 4 + t = (k * 4 + t) / 4 * 4 ∨ k * 4 + t = (k * 4 + t) / 4 * 4 + 1 ∨ k * 4 + t = (k * 4 + t) / 4 * 4 + 2 ∨ k * 4 + t = (k * 4 + t) / 4 * 4 + 3 := (by omega)
                rcases hm2 with e | e | e | e
                · rw [e, u0]; rfl
                · rw [e, u1]; rfl
                · rw [e, u2]; rfl
                · rw [e, u3]; rfl) (fun t _ => freeR hO _)
              generalize hvs : (Builtin.zeroCells #[.string ⟨#[]⟩, .int .i64 0, .int .i64 0, .string ⟨#[]⟩] n3).toList = vs at hcl
              clear e1 hO hvs
              go_wp2
              go_ret
              have hke : (cptR l).length = k := by have := unhide HK; rw [unhide HE] at this; exact this
              have hde : d.take k = cptR l := by have := unhide HDK; rw [unhide HE] at this; exact this
              refine ⟨by rw [hke]; rfl, ?_, (unhide HB3).trans (below_cells hBg _ _ _)⟩
              have := cutR (unhide HO3) (k := k) (by have := unhide HD; omega) vs
              rw [hde] at this
              exact this
        · rw [show decide (x.name = y.name) = false from decide_eq_false hxy] at heq
          have HN := hide (cptR_diff hy hx hxy)
          clear hx hy hbel hpre hxy a0 a1 a2 a3 b0 b1 b2 b3
          go_wp2
          go_quiet_grown (first | (go_at_fn 67; refine Calls.grown_of (heq _)))
          have bW := below_grown_any (unhide HB) (unhide HB).size nq osq
          generalize grow (wr.drewN nq) osq = W at bW ⊢
          have HB2 := hide bW
          clear bW
          go_wp2
          go_roundw
          case rel => exact ⟨m + 1, by omega, by go_num, by rw [unhide HN, unhide HP, ← take_snoc_of (unhide HX)], unhide HB2⟩
          case measure => simp [intOf]; omega
      · have ki1 : ¬ (m : Int) + 1 < (l.length : Int) := by omega
        have e1 : l.take (m + 1) = l := List.take_of_length_le (by omega)
        rw [e1] at hpre
        have HQ := hide hpre
        clear hpre e1
        go_wp2
        go_ret
        rw [unhide HQ]
        exact ⟨rfl, (unhide H).below (unhide HB), (unhide HB).mono hB⟩
end Go.Proofs.YtedakipjfpdajaaGreatDoor

/- What the document's Path answers; two lists of spans held against each other. -/
import Derived.Test.YtjclojeihjgnkaaDoorRefWithin
namespace Go.Proofs.YtjclojeihjgnkaaDoor
open Go.RowKit

/-- The first j spans that have the place p. -/
def pathL (p j : Nat) : List (Nat × Nat) := (List.range j).map fun t => (t, p / 2 ^ t)
theorem pathL_len (p j : Nat) : (pathL p j).length = j := by simp [pathL]
theorem pathL_step (p j : Nat) : pathL p j ++ [(j, p / 2 ^ j)] = pathL p (j + 1) := by simp [pathL, List.range_succ]
theorem pathL_get (p j t : Nat) (h : t < j) : (pathL p j)[t]? = some (t, p / 2 ^ t) := by simp [pathL, h]

theorem OwnK.set {B : Nat} {w : World} {q : Option Addr} {cap : Nat} {l : List (Nat × Nat)} (h : OwnK encP 23 2 B w q cap l) {b o : Nat} (hb : b < B) (v : Value) : OwnK encP 23 2 B (w.setCell ⟨b, o, none⟩ v) q cap l := by
  refine ⟨h.1, ?_⟩
  rcases h.2 with h0 | ⟨g, cp, cur, hv, hB, hblk, hr⟩
  · exact Or.inl h0
  · exact Or.inr ⟨g, cp, cur, hv, hB, (Below.heap_setCell w ⟨b, o, none⟩ v g (by show g ≠ b; omega)).trans hblk, hr⟩
theorem OwnK.belowAt {B C : Nat} {w w' : World} {q : Option Addr} {cap : Nat} {l : List (Nat × Nat)} (h : OwnK encP 23 2 B w q cap l) (hb : Below C w w') (hC : w.heap.size ≤ C) : OwnK encP 23 2 B w' q cap l := h.below (hb.mono hC)

theorem rpath_none (x : Int) (h : ¬ (-2147483648 ≤ x ∧ x ≤ 2147483647)) (w : World) :
    Calls Tryd.prog 26 #[.int .i64 x] w fun e w' => e = .returned (.slice none 0 0) ∧ w' = w := by
  by_cases c1 : x < -2147483648
  · clear h
    go_enter Tryd.func26, Tryd.ntmps26
    go_wp2
    go_ret
    exact ⟨rfl, rfl⟩
  · have c2 : 2147483647 < x := by omega
    clear h
    go_enter Tryd.func26, Tryd.ntmps26
    go_wp2
    go_ret
    exact ⟨rfl, rfl⟩

set_option maxHeartbeats 1000000 in
theorem rpath_any (x : Int) (p : Nat) (h : x + 2147483648 = p) (hp : p < 4294967296) (w : World) :
    Calls Tryd.prog 26 #[.int .i64 x] w fun e w' => ∃ q cap, e = .returned (.slice q 33 cap) ∧ OwnK encP 23 2 w.heap.size w' q cap (pathL p 33) ∧ Below w.heap.size w w' := by
  have c1 : ¬ x < -2147483648 := by omega
  have c2 : ¬ 2147483647 < x := by omega
  have e1 : IntKind.i64.wrap (x - -2147483648) = (p : Int) := by rw [IntKind.wrap_i64]; omega
  have ok0 : okN 0 p := ⟨32, rfl, hp⟩
  have hups := hide (okN_ups ok0)
  go_enter Tryd.func26, Tryd.ntmps26
  go_wp2
  go_loopw [3] (fun v wr => ∃ (j : Nat) (q : Option Addr) (cap : Nat), j ≤ 32 ∧ v = .slice q j cap ∧ One wr w.heap.size (j : Int) ((p / 2 ^ j : Nat) : Int) ∧ OwnK encP 23 2 (w.heap.size + 1) wr q cap (pathL p j) ∧ Below w.heap.size w wr) (fun v _ => 33 - (match v with | .slice _ n _ => n | _ => 0))
  case atStart =>
    refine ⟨0, none, 0, by omega, rfl, ?_, OwnK.nil _ _, (Below.refl _ _).alloc (Nat.le_refl _) _⟩
    simpa using One.new w 0 p
  case round =>
    obtain ⟨j, q, cap, hj, rfl, hone, hown, hbel⟩ := hrel
    have HON := hide hone
    have HOW := hide hown
    have HBL := hide hbel
    obtain ⟨o0, o1, fo, so⟩ := hone
    have hokj := unhide hups j (by omega)
    rw [Nat.zero_add] at hokj
    have hlen := pathL_len p j
    obtain ⟨I, hI⟩ : ∃ I, p / 2 ^ j = I := ⟨_, rfl⟩
    have hst := pathL_step p j
    rw [hI] at o1 hokj hst
    have HI := hide (And.intro hI (And.intro hst hlen))
    have hsz : w.heap.size + 1 ≤ wr.heap.size := so
    by_cases hj32 : j < 32
    · have h13 := rparent_good j I hokj hj32
      obtain ⟨J1, hJ1⟩ : ∃ J1, I / 2 = J1 := ⟨_, rfl⟩
      obtain ⟨j1, hj1⟩ : ∃ j1, j + 1 = j1 := ⟨_, rfl⟩
      rw [hJ1, hj1] at h13
      have HJ := hide (And.intro hJ1 hj1)
      clear hI hst hlen hJ1 hj1 hokj hown hbel
      go_wp2_with (first
        | (at_builtin; refine wpList_app rowP rfl _ _ rfl (w.heap.size + 1) q cap (pathL p j) (some ⟨wr.heap.size, 0, none⟩) 1 [(j, I)] j 1 (j + 1) (unhide HI).2.2 rfl rfl rfl rfl ((unhide HOW).below ((Below.refl _ _).alloc (Nat.le_refl _) _)) (SrcK.one2 j I _ (by simp) (by simp) (by simp)) (by unfold maxLen; omega) (by omega) (by simp; omega) ?_; intro q3 cap3 w3 o3 b3 _ _; have r3 : Below (w.heap.size + 1) wr w3 := (((Below.refl _ _).alloc (by exact hsz) _).trans b3); have x0 := (r3.cell (p := ⟨w.heap.size, 0, none⟩) (by simp)).trans o0; have x1 := (r3.cell (p := ⟨w.heap.size, 1, none⟩) (by simp)).trans o1; have xf : ∀ o, w3.frozen? ⟨w.heap.size, o, none⟩ = false := (fun o => (r3.frozen (p := ⟨w.heap.size, o, none⟩) (by simp)).trans (fo o)); have xs : w.heap.size < w3.heap.size := Nat.lt_of_lt_of_le so r3.size; have O3 := hide o3; have R3 := hide r3; clear o3 b3 r3)
        | (go_at_call 13; refine (h13 _).mono ?_; rintro e w4 ⟨rfl, b4⟩; have y0 := (b4.cell (p := ⟨w.heap.size, 0, none⟩) (by exact xs)).trans x0; have y1 := (b4.cell (p := ⟨w.heap.size, 1, none⟩) (by exact xs)).trans x1; have yf : ∀ o, w4.frozen? ⟨w.heap.size, o, none⟩ = false := (fun o => (b4.frozen (p := ⟨w.heap.size, o, none⟩) (by exact xs)).trans (xf o)); have ys : w.heap.size < w4.heap.size := Nat.lt_of_lt_of_le xs b4.size; have yne : ¬ w.heap.size = w4.heap.size := (by omega); have O4 := hide ((unhide O3).below b4); have B4 := hide b4; clear b4))
      obtain ⟨hI, hst, hlen⟩ := unhide HI
      obtain ⟨hJ1, hj1⟩ := unhide HJ
      have hO := (One.put (⟨y0, y1, yf, ys⟩ : One w4 w.heap.size (j : Int) (I : Int)) (j1 : Int) (J1 : Int)).below ((Below.refl _ _).alloc (Nat.le_refl _) (.cells #[.int .i64 (j1 : Int), .int .i64 (J1 : Int)] 23))
      have hb34 : Below w.heap.size w w4 := ((unhide HBL).trans ((unhide R3).mono (by omega))).trans ((unhide B4).mono (by omega))
      refine ⟨⟨j + 1, q3, cap3, by omega, rfl, ?_, ?_, ?_⟩, by simp; omega⟩
      · have e1 : p / 2 ^ (j + 1) = J1 := by rw [← up_div, hI, hJ1]
        rw [e1, hj1]
        exact hO
      · rw [← hst]
        exact (((unhide O4).set (by omega) _).set (by omega) _).below ((Below.refl _ _).alloc (Nat.le_refl _) _)
      · exact ((hb34.setCell (Nat.le_refl _) _).setCell (Nat.le_refl _) _).alloc (by simp [World.setCell]; omega) _
    · obtain rfl : j = 32 := by omega
      have h13 := rparent_top I hokj
      clear hI hst hlen hokj hown hbel
      go_wp2_with (first
        | (at_builtin; refine wpList_app rowP rfl _ _ rfl (w.heap.size + 1) q cap (pathL p 32) (some ⟨wr.heap.size, 0, none⟩) 1 [(32, I)] 32 1 33 (unhide HI).2.2 rfl rfl rfl rfl ((unhide HOW).below ((Below.refl _ _).alloc (Nat.le_refl _) _)) (SrcK.one2 32 I _ (by simp) (by simp) (by simp)) (by unfold maxLen; omega) (by omega) (by simp; omega) ?_; intro q3 cap3 w3 o3 b3 _ _; have r3 : Below (w.heap.size + 1) wr w3 := (((Below.refl _ _).alloc (by exact hsz) _).trans b3); have x0 := (r3.cell (p := ⟨w.heap.size, 0, none⟩) (by simp)).trans o0; have x1 := (r3.cell (p := ⟨w.heap.size, 1, none⟩) (by simp)).trans o1; have xf : ∀ o, w3.frozen? ⟨w.heap.size, o, none⟩ = false := (fun o => (r3.frozen (p := ⟨w.heap.size, o, none⟩) (by simp)).trans (fo o)); have xs : w.heap.size < w3.heap.size := Nat.lt_of_lt_of_le so r3.size; have O3 := hide o3; have R3 := hide r3; clear o3 b3 r3)
        | (go_at_call 13; refine (h13 _).mono ?_; rintro e w4 ⟨rfl, b4⟩; have O4 := hide ((unhide O3).below b4); have B4 := hide b4; clear b4))
      go_ret
      obtain ⟨hI, hst, hlen⟩ := unhide HI
      have hb34 : Below w.heap.size w w4 := ((unhide HBL).trans ((unhide R3).mono (by omega))).trans ((unhide B4).mono (by omega))
      refine ⟨q3, cap3, rfl, ?_, hb34.alloc hb34.size _⟩
      rw [← hst]
      exact ((unhide O4).mono (by omega)).below ((Below.refl _ _).alloc (Nat.le_refl _) _)

/-- A path as the program lays it, as a list in memory. -/
theorem PthAt.ls {w : World} {b p : Nat} (h : PthAt w b p 33) : LsOf encP 2 w (some ⟨b, 0, none⟩) (pathL p 33) := fun _ =>
  ⟨b, 0, rfl, h.2.2, fun t u ht => by
    have hs := (List.getElem?_eq_some_iff.1 ht).1
    have hlt : t < 66 := by simpa [pathL_len] using hs
    have hg := pathL_get p 33 (t / 2) (by omega)
    have h2 := flat_at (enc := encP) (k := 2) hg (t % 2) (Nat.mod_lt _ (by decide))
    rw [show t / 2 * 2 + t % 2 = t by omega, ht] at h2
    injection h2 with h2
    rw [Nat.zero_add, h2]
    obtain ⟨c0, c1⟩ := h.get (j := t / 2) (by omega)
    have hm : t % 2 = 0 ∨ t % 2 = 1 := by omega
    rcases hm with e | e
    · rw [e, show t = t / 2 * 2 by omega]
      have e3 : t / 2 * 2 / 2 = t / 2 := by omega
      rw [e3]
      exact c0
    · rw [e]
      have e3 : t = t / 2 * 2 + 1 := by omega
      rw [show (⟨b, t, none⟩ : Addr) = ⟨b, t / 2 * 2 + 1, none⟩ by rw [← e3]]
      exact c1⟩

set_option maxHeartbeats 1000000 in
theorem same_yes (q q' : Option Addr) (c c' : Nat) (l : List (Nat × Nat)) (w : World) (hl : l.length ≤ 1000) (h1 : LsOf encP 2 w q l) (h2 : LsOf encP 2 w q' l) :
    Calls Tryd.prog 24 #[.slice q l.length c, .slice q' l.length c'] w fun e w' => e = .returned (.bool true) ∧ Below w.heap.size w w' := by
  have H1 := hide h1
  have H2 := hide h2
  obtain ⟨n, hn⟩ : ∃ n, l.length = n := ⟨_, rfl⟩
  rw [hn] at hl ⊢
  have HN := hide hn
  clear h1 h2 hn
  have nn : ((n : Int) != (n : Int)) = false := by simp
  go_enter Tryd.func24, Tryd.ntmps24
  go_wp2
  go_loopw [13] (fun i wr => ∃ j : Nat, j ≤ n ∧ i = .int .i64 j ∧ Below w.heap.size w wr) (fun i _ => n - (intOf i).toNat)
  case atStart => exact ⟨0, by omega, rfl, Below.refl _ _⟩
  case round =>
    obtain ⟨j, hj, rfl, hbel⟩ := hrel
    have HB := hide hbel
    by_cases hlt : j < n
    · obtain ⟨x, hx, -⟩ := get_at (l := l) (k := j) (by rw [unhide HN]; exact hlt)
      obtain ⟨b, off, rfl, _, hc⟩ := LsOf.at ((unhide H1).below hbel) hx
      obtain ⟨b', off', rfl, _, hc'⟩ := LsOf.at ((unhide H2).below hbel) hx
      obtain ⟨x0, x1⟩ := cells2 hc
      obtain ⟨y0, y1⟩ := cells2 hc'
      obtain ⟨u, v⟩ := x
      simp only at x0 x1 y0 y1
      have ji0 : (0 : Int) ≤ (j : Int) := by omega
      have ji1 : (j : Int) < (n : Int) := by omega
      have qn := neqS u v u v
      rw [show (!decide ((u : Int) = (u : Int) ∧ (v : Int) = (v : Int))) = false by simp] at qn
      clear hx hc hc' hbel
      go_wp2
      go_region
      go_wp2
      exact ⟨⟨j + 1, by omega, by simp, below_sub (unhide HB) (below_drew _)⟩, by simp [intOf]; omega⟩
    · have ji1 : ¬ (j : Int) < (n : Int) := by omega
      go_wp2
      go_ret
      exact ⟨rfl, hbel⟩
end Go.Proofs.YtjclojeihjgnkaaDoor

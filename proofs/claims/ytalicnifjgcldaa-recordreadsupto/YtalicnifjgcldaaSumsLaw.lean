/- RecordSums answers true. -/
import Derived.Test.YtalicnifjgcldaaMem
namespace Go.Proofs.Ytalicnifjgcldaa
open Go.RowKit Go.Sort Go.Shelf

theorem wrapU (n : Int) : ∃ U : Nat, IntKind.u64.wrap n = (U : Int) := by
  have h : 0 ≤ IntKind.u64.wrap n := by rw [IntKind.wrap_u64]; omega
  exact ⟨_, Int.eq_ofNat_of_zero_le h |>.choose_spec⟩
/-- Three slices of bytes in a new block. -/
theorem sl3 {w : World} {x y z : Sl} : SlOf encQ 1 (w.alloc (.cells #[.slice x.1 x.2.2.length x.2.1, .slice y.1 y.2.2.length y.2.1, .slice z.1 z.2.2.length z.2.1] 24)) (some ⟨w.heap.size, 0, none⟩) 3 [x, y, z] := by
  refine ⟨(fun h => by cases h), Nat.le_refl _, by unfold maxLen; omega, fun _ => ⟨w.heap.size, 0, rfl, by simp, fun j u hj => ?_⟩⟩
  have hj3 : j < 3 := by have := (List.getElem?_eq_some_iff.1 hj).1; simpa [flatK] using this
  rw [Nat.zero_add, cellA]
  have hm : j = 0 ∨ j = 1 ∨ j = 2 := by omega
  rcases hm with e | e | e
  · subst e; exact (flat_at (enc := encQ) (k := 1) (l := [x, y, z]) (j := 0) rfl 0 (by omega)).symm.trans hj
  · subst e; exact (flat_at (enc := encQ) (k := 1) (l := [x, y, z]) (j := 1) rfl 0 (by omega)).symm.trans hj
  · subst e; exact (flat_at (enc := encQ) (k := 1) (l := [x, y, z]) (j := 2) rfl 0 (by omega)).symm.trans hj
theorem sum1 (q : Option Addr) (c : Nat) (l : List UInt8) (w W : World) (hb : Below w.heap.size w W) (h : SlOf encB 1 W q c l) (hl : l.length ≤ 1000000000000000) :
    Calls Try.prog 20 #[.slice (some ⟨W.heap.size, 0, none⟩) 1 1] (W.alloc (.cells #[.slice q l.length c] 24)).drew fun e w' => e = .returned (.int .u32 ((sumB l : Nat) : Int)) ∧ Below w.heap.size w w' := by
  have hb1 : Below W.heap.size W (W.alloc (.cells #[.slice q l.length c] 24)).drew := ((Below.refl _ _).alloc (Nat.le_refl _) _).drew
  have hs := sum_any (some ⟨W.heap.size, 0, none⟩) 1 [(q, c, l)] (W.alloc (.cells #[.slice q l.length c] 24)).drew (slA (w := W) (x := (q, c, l))) (by simp) (fun x hx => by
    obtain rfl : x = (q, c, l) := by simpa using hx
    exact ⟨h.below hb1, hl⟩)
  rw [show allB [(q, c, l)] = l by simp [allB]] at hs
  exact hs.mono (by rintro e w' ⟨rfl, rfl⟩; exact ⟨rfl, below_sub hb hb1⟩)
theorem sumCut (g cp : Nat) (l : List UInt8) (k : Nat) (V : World) (h : SlOf encB 1 V (some ⟨g, 0, none⟩) cp l) (hk : k ≤ l.length) (hl : l.length ≤ 1000000000000000) (hc : l.length < cp) :
    Calls Try.prog 20 #[.slice (some ⟨V.heap.size, 0, none⟩) 3 3] (V.alloc (.cells #[.slice (some ⟨g, 0, none⟩) k cp, .slice none 0 0, .slice (some ⟨g, k, none⟩) (l.length - k) (cp - k)] 24)) fun e w' => e = .returned (.int .u32 ((sumB l : Nat) : Int)) ∧ Below V.heap.size V w' := by
  have hb1 : Below V.heap.size V (V.alloc (.cells #[.slice (some ⟨g, 0, none⟩) k cp, .slice none 0 0, .slice (some ⟨g, k, none⟩) (l.length - k) (cp - k)] 24)) := (Below.refl _ _).alloc (Nat.le_refl _) _
  have e1 : (l.take k).length = k := by simp; omega
  have e2 : (l.drop k).length = l.length - k := by simp
  have hp1 : SlOf encB 1 V (some ⟨g, 0, none⟩) cp (l.take k) := sl_pre (m := l.drop k) (by rw [List.take_append_drop]; exact h)
  have hp2 : SlOf encB 1 V (some ⟨g, k, none⟩) (cp - k) (l.drop k) := by
    have := cut_sl h k (l.length - k) (by omega)
    rw [List.take_of_length_le (by simp), cutA_ne _ (by omega : ¬ cp = k)] at this
    rw [show Option.map (fun x : Addr => x.add k) (some ⟨g, 0, none⟩) = some ⟨g, k, none⟩ from congrArg some ((add_plain g 0 k).trans (by rw [Nat.zero_add]))] at this
    exact this
  have hq := sl3 (w := V) (x := (some ⟨g, 0, none⟩, cp, l.take k)) (y := (none, 0, [])) (z := (some ⟨g, k, none⟩, cp - k, l.drop k))
  simp only [e1, e2, List.length_nil] at hq
  have hs := sum_any (some ⟨V.heap.size, 0, none⟩) 3 [(some ⟨g, 0, none⟩, cp, l.take k), (none, 0, []), (some ⟨g, k, none⟩, cp - k, l.drop k)] _ hq (by simp) (fun x hx => by
    simp only [List.mem_cons, List.not_mem_nil, or_false] at hx
    rcases hx with rfl | rfl | rfl
    · exact ⟨hp1.below hb1, by simp only; omega⟩
    · exact ⟨SlOf.none _, by simp⟩
    · exact ⟨hp2.below hb1, by simp only; omega⟩)
  rw [show allB [((some ⟨g, 0, none⟩, cp, l.take k) : Sl), (none, 0, []), (some ⟨g, k, none⟩, cp - k, l.drop k)] = l by simp [allB]] at hs
  exact hs.mono (by rintro e w' ⟨rfl, rfl⟩; exact ⟨rfl, hb1⟩)
set_option maxHeartbeats 400000 in
set_option maxRecDepth 100000 in
theorem sums_law (q : Option Addr) (c : Nat) (l : List UInt8) (cut : Int) (w : World) (h : SlOf encB 1 w q c l) (hl : l.length + 1 ≤ 140737488355328) :
    Calls Try.prog 4 #[.slice q l.length c, .int .i64 cut] w fun e w' => e = .returned (.bool true) ∧ Below w.heap.size w w' := by
  obtain ⟨U, hU⟩ := wrapU cut
  have hL1 : IntKind.u64.wrap ((l.length : Int) + 1) = ((l.length + 1 : Nat) : Int) := by rw [IntKind.wrap_u64]; omega
  obtain ⟨D, hD⟩ : ∃ D, l.length + 1 = D := ⟨_, rfl⟩
  rw [hD] at hL1
  obtain ⟨k, hk⟩ : ∃ k, U % D = k := ⟨_, rfl⟩
  have hkl : k ≤ l.length := by have := Nat.mod_lt U (show 0 < D by omega); omega
  have hrem : (U : Int).tmod (D : Int) = (k : Int) := by rw [Int.tmod_eq_emod_of_nonneg (by omega), ← hk]; omega
  have hkw := wrap_nat k (by omega)
  have hD0 : ¬ (D : Int) = 0 := by omega
  have hDn : ¬ D = 0 := by omega
  have hlI : (l.length : Int) ≤ 140737488355327 := by omega
  have hkI : (k : Int) ≤ (l.length : Int) := by omega
  have hf := fixed_any w
  have hro := fun (W : World) (hW : SlOf encB 1 W q c l) => room_any q c l W hW hl
  have hrs := fun (W : World) (hW : SlOf encB 1 W q c l) => refSum_any q c l W hW (by omega)
  have hkp := fun (g cp : Nat) (W : World) (h1 : SlOf encB 1 W (some ⟨g, 0, none⟩) cp (l ++ [199])) (h2 : SlOf encB 1 W q c l) => kept_any g cp q c l W h1 h2 (by omega)
  have HS := hide h
  have HL := hide hl
  clear h hD hk hl
  go_enter Try.func4, Try.ntmps4
  go_wp2_with (first
    | (go_at_call 9; refine hf.mono ?_; rintro e w1 ⟨rfl, b1⟩; have B1 := hide b1; have S1 := hide ((unhide HS).below b1); clear b1)
    | (go_at_call 18; refine (hro _ (unhide S1)).mono ?_; rintro e w2 ⟨⟨g, cp, rfl, o2, hc2⟩, b2⟩; have O2 := hide o2.ls; have S2 := hide ((unhide S1).below b2); have B2 := hide ((unhide B1).trans (b2.mono (unhide B1).size)); have cpI : ¬ cp = k := (by omega); have cpJ : (l.length : Int) ≤ (cp : Int) := (by omega); have cpK : (k : Int) ≤ (cp : Int) := (by omega); have cpL : k ≤ cp := (by omega); clear o2 b2)
    | (go_at_call 19; refine (hrs _ (unhide S2)).mono ?_; rintro e w3 ⟨rfl, hw3⟩; obtain rfl := hw3.symm))
  have hs1 := sum1 (some ⟨g, 0, none⟩) cp l w2 w2 (Below.refl _ _) (sl_pre (unhide O2)) (by omega)
  have hs2 := fun (V : World) (hV : Below w2.heap.size w2 V) => sumCut g cp l k V (sl_pre ((unhide O2).below hV)) hkl (by omega) (by omega)
  have hs3 := fun (V : World) => sum_any none 0 [] V (SlOf.none _) (by simp) (by simp)
  rw [show sumB (allB []) = 0 by decide] at hs3
  simp only [List.length_nil] at hs3
  have hk2 := fun (V : World) (hV : Below w2.heap.size w2 V) => hkp g cp V ((unhide O2).below hV) ((unhide S2).below hV)
  have k0 : (0 : Int) ≤ (k : Int) := by omega
  generalize sumB l = SS at *
  clear hkp hro hrs hf
  go_region_held3 (fun _ => True) (trivial)
    ((first
      | (go_at_call 20; (with_reducible refine hs1.mono ?_); rintro e V1 ⟨rfl, v1⟩; have C1 := hide v1; clear v1)
      | (go_at_call 20; (with_reducible refine (hs2 V1 (unhide C1)).mono ?_); rintro e V2 ⟨rfl, v2⟩; have C2 := hide ((unhide C1).trans (v2.mono (unhide C1).size)); clear v2)
      | (go_at_call 20; (with_reducible refine (hs3 V2).mono ?_); rintro e V3 ⟨rfl, hV3⟩; obtain rfl := hV3.symm)
      | (go_at_call 21; (with_reducible refine (hk2 V2 (unhide C2)).mono ?_); rintro e V4 ⟨rfl, hV4⟩; obtain rfl := hV4.symm)))
  all_goals
    go_wp2
    go_ret
    exact ⟨rfl, (unhide B2).trans ((unhide C2).mono (unhide B2).size)⟩
end Go.Proofs.Ytalicnifjgcldaa

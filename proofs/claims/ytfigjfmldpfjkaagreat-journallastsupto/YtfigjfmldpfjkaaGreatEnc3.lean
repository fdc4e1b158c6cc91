/- Which change may be, its record, and the records of changes: what the program answers. -/
import Derived.Test.YtfigjfmldpfjkaaGreatEnc2
import Derived.Lib.AppendStr
namespace Go.Proofs.YtfigjfmldpfjkaaGreat
open Go.RowKit Go.Sort

theorem strB (t : ByteArray) : Lib.strCells t = t.data.toList.map bv := rfl
section
variable {o : Oper} {a : Act} {w : World} {K : Act → World → Prop} {Q : Exit → Act → World → Prop}
theorem wp_appS (s x : Operand) (ho : o.op = .call { callee := .builtin .append, args := #[s, x], argTypes := #[40, 9] }) (B : Nat) (q : Option Addr) (cap : Nat) (l : List UInt8) (t : ByteArray) (n N : Nat) (hn : l.length = n) (hN : n + t.size = N)
    (es : a.eval s = .slice q n cap) (ex : a.eval x = .string t) (hown : OwnK encB 5 1 B w q cap l) (hb : N ≤ 140737488355328) (hB : B ≤ w.heap.size)
    (h : ∀ q' cap' w', OwnK encB 5 1 B w' q' cap' (l ++ t.data.toList) → Below B w w' → K (a.put o.dst (.slice q' N cap')) w') : o.wp Tryz.prog a w K Q := by
  subst hn hN
  obtain ⟨i0, hi, hz0, hz1, hz2⟩ := info_parts Tryz.info5
  unfold OwnK at hown
  rw [flatB] at hown
  obtain ⟨v', w', hr, ho2, hg, _⟩ := Lib.run_append_own_string (P := Tryz.prog) w B 40 9 o.type 5 i0 Tryz.underlying40 Tryz.underlying9 hi hz0 hz1 hz2 _ _ _ hown t (by unfold maxLen; omega) hb hB
  obtain ⟨q', cap', rfl, hq⟩ := OwnK.shape ho2
  unfold Oper.wp execOp
  simp only [ho, resolve, invoke, builtin, Sem.run_bind, Sem.run_pure, Result.andThen_ok, List.map_toArray, List.map_cons, List.map_nil, es, ex, hr]
  refine h q' cap' w' ?_ ?_
  · unfold OwnK
    rw [flatB, List.map_append, List.length_append]
    rw [strB] at ho2
    simpa using ho2
  · exact (Below.refl _ _).grown hg hB fun j hj => (World.ownsRow.lt hown j hj).1
theorem step_appS {ops : Array Oper} {E : Prop} (hgd : o.guard = none) (s x : Operand) (ho : o.op = .call { callee := .builtin .append, args := #[s, x], argTypes := #[40, 9] }) (B : Nat) (q : Option Addr) (cap : Nat) (l : List UInt8) (t : ByteArray) (n N : Nat) (hn : l.length = n) (hN : n + t.size = N)
    (es : a.eval s = .slice q n cap) (ex : a.eval x = .string t) (hown : OwnK encB 5 1 B w q cap l) (hb : N ≤ 140737488355328) (hB : B ≤ w.heap.size)
    (h : ∀ q' cap' w', OwnK encB 5 1 B w' q' cap' (l ++ t.data.toList) → Below B w w' → K (a.put o.dst (.slice q' N cap')) w') :
    if Region.wanted o (yielded ops a.tmps) = true then Oper.wp Tryz.prog o a w K Q else E := by
  have hw : Region.wanted o (yielded ops a.tmps) = true := by simp [Region.wanted, hgd]
  rw [if_pos hw]
  exact wp_appS s x ho B q cap l t n N hn hN es ex hown hb hB h
end

theorem emp_iff (s : ByteArray) : s.toList.isEmpty = true ↔ s.size = 0 := by
  rw [List.isEmpty_iff, ← List.length_eq_zero_iff, ByteArray.toList_eq]; simp
instance (c : Ch) : Decidable (MayB c) := by unfold MayB; infer_instance
set_option maxHeartbeats 1000000 in
theorem may_any (c : Ch) (w : World) :
    Calls Tryz.prog 68 #[.agg #[.int .i64 c.kind, .int .i64 c.id, .string c.text]] w fun e w' => e = .returned (.bool (decide (MayB c))) ∧ Below w.heap.size w w' := by
  obtain ⟨R, hR⟩ : ∃ R, decide (MayB c) = R := ⟨_, rfl⟩
  rw [hR]
  have hP : R = true ↔ MayB c := by rw [← hR, decide_eq_true_eq]
  clear hR
  obtain ⟨kind, id, text⟩ := c
  have hM : MayB ⟨kind, id, text⟩ ↔ (1 ≤ id ∧ id ≤ 1099511627776) ∧ (((kind = 1 ∨ kind = 2) ∧ text.size ≤ 4096) ∨ (kind = 3 ∧ text.size = 0)) := Iff.rfl
  rw [hM] at hP
  clear hM
  have hno : ¬ ((1 ≤ id ∧ id ≤ 1099511627776) ∧ (((kind = 1 ∨ kind = 2) ∧ text.size ≤ 4096) ∨ (kind = 3 ∧ text.size = 0))) → R = false := fun h => by
    cases R
    · rfl
    · exact absurd (hP.1 rfl) h
  by_cases h1 : 1 ≤ id
  · by_cases h2 : id ≤ 1099511627776
    · by_cases k1 : kind = 1
      · have HE : Hid (R = decide ((text.size : Int) ≤ 4096)) := hide (by rw [Bool.eq_iff_iff, hP, decide_eq_true_eq]; omega)
        subst k1
        clear hP hno
        go_enter Tryz.func68, Tryz.ntmps68
        go_wp2
        all_goals (go_ret; exact ⟨ret_bool (by first | exact (unhide HE).symm | (rw [unhide HE]; symm; assumption) | (rw [unhide HE]; simp_all)), (Below.refl _ _).alloc (Nat.le_refl _) _⟩)
      · by_cases k2 : kind = 2
        · have HE : Hid (R = decide ((text.size : Int) ≤ 4096)) := hide (by rw [Bool.eq_iff_iff, hP, decide_eq_true_eq]; omega)
          subst k2
          clear hP hno k1
          go_enter Tryz.func68, Tryz.ntmps68
          go_wp2
          all_goals (go_ret; exact ⟨ret_bool (by first | exact (unhide HE).symm | (rw [unhide HE]; symm; assumption) | (rw [unhide HE]; simp_all)), (Below.refl _ _).alloc (Nat.le_refl _) _⟩)
        · by_cases k3 : kind = 3
          · have HE : Hid (R = text.toList.isEmpty) := hide (by rw [Bool.eq_iff_iff, hP, emp_iff]; omega)
            have HF : Hid (text.toList.isEmpty = decide (text.size = 0)) := hide (by rw [Bool.eq_iff_iff, emp_iff, decide_eq_true_eq])
            subst k3
            clear hP hno k1 k2
            go_enter Tryz.func68, Tryz.ntmps68
            go_wp2
            all_goals (go_ret; exact ⟨ret_bool (by first | exact (unhide HE).symm | (rw [unhide HE, unhide HF]; symm; first | exact decide_eq_true (by omega) | exact decide_eq_false (by omega)) | (rw [unhide HE]; simp_all)), (Below.refl _ _).alloc (Nat.le_refl _) _⟩)
          · have HE := hide (hno (by omega))
            clear hP hno
            go_enter Tryz.func68, Tryz.ntmps68
            go_wp2
            all_goals (go_ret; first | exact ⟨ret_bool (unhide HE).symm, (Below.refl _ _).alloc (Nat.le_refl _) _⟩ | (exfalso; first | omega | simp_all))
    · have HE := hide (hno (by omega))
      clear hP hno
      go_enter Tryz.func68, Tryz.ntmps68
      go_wp2
      all_goals (go_ret; first | exact ⟨ret_bool (unhide HE).symm, (Below.refl _ _).alloc (Nat.le_refl _) _⟩ | (exfalso; first | omega | simp_all))
  · have HE := hide (hno (by omega))
    clear hP hno
    go_enter Tryz.func68, Tryz.ntmps68
    go_wp2
    all_goals (go_ret; first | exact ⟨ret_bool (unhide HE).symm, (Below.refl _ _).alloc (Nat.le_refl _) _⟩ | (exfalso; first | omega | simp_all))
end Go.Proofs.YtfigjfmldpfjkaaGreat

/- Varints, sums behind bytes, heads: what the program answers. -/
import Derived.Test.YtfigjfmldpfjkaaGreatZad
import Derived.Lib.AppendStr
namespace Go.Proofs.YtfigjfmldpfjkaaGreat
open Go.RowKit Go.Sort

theorem OwnK.grow {α : Type} [Inhabited α] {enc : α → List Value} {e : TypeId} {k B : Nat} {w : World} {q : Option Addr} {cap : Nat} {l : List α} (h : OwnK enc e k B w q cap l) (o : Obj) : OwnK enc e k B (w.alloc o) q cap l := h.below ((Below.refl _ _).alloc (Nat.le_refl _) _)
/-- Bytes in a new block. -/
theorem srcA (w : World) (c : Nat) (m : List UInt8) : SrcK encB 1 (w.alloc (.cells (m.map bv).toArray 5)) (some ⟨w.heap.size, 0, none⟩) c m := by
  refine ⟨(fun h => by cases h), fun ad e j u hj => ?_⟩
  cases e
  rw [add_plain, Nat.zero_add, cellA]
  rw [flatB] at hj
  simpa using hj
theorem ownA (w : World) (B : Nat) (m : List UInt8) (hB : B ≤ w.heap.size) (hm : m.length ≤ maxLen) : OwnK encB 5 1 B (w.alloc (.cells (m.map bv).toArray 5)) (some ⟨w.heap.size, 0, none⟩) m.length m := by
  unfold OwnK
  rw [flatB]
  exact ⟨by simp, .inr ⟨w.heap.size, m.length, (m.map bv).toArray, rfl, hB, heap_alloc_new w _, Nat.le_refl _, hm, by simp, by simp [List.take_of_length_le]⟩⟩
set_option maxRecDepth 100000 in
theorem or128 : ∀ a < 256, a ||| 128 = a % 128 + 128 := by decide
theorem low_byte (n : Nat) : IntKind.u8.wrap (n : Int) = ((n % 256 : Nat) : Int) := by rw [IntKind.wrap_u8']; omega
theorem toNat_of (n : Nat) : (UInt8.ofNat n).toNat = n % 256 := by simp [UInt8.toNat_ofNat']
theorem vint_len_pos (n : Nat) : 0 < (vint n).length := by rw [vint]; split <;> simp
theorem vint_len (k : Nat) : ∀ n, n < 128 ^ k → (vint n).length ≤ max k 1 := by
  induction k with
  | zero => intro n h; have : n = 0 := by simpa using h
            subst this; rw [vint_lt (by omega)]; simp
  | succ k ih =>
    intro n h
    by_cases h1 : n < 128
    · rw [vint_lt h1]; simp
    · rw [vint_ge h1]
      have hk : 0 < k := by
        cases k with
        | zero => simp at h; omega
        | succ k => omega
      have := ih (n / 128) (by rw [Nat.pow_succ] at h; omega)
      simp; omega
theorem vint_len9 (n : Nat) (h : n ≤ 4611686018427387904) : (vint n).length ≤ 9 := by
  have := vint_len 9 n (by omega)
  omega

set_option maxHeartbeats 1000000 in
theorem vint_any (B : Nat) (q : Option Addr) (cap : Nat) (l : List UInt8) (n : Nat) (w : World) (ho : OwnK encB 5 1 B w q cap l) (hB : B ≤ w.heap.size) (hl : l.length ≤ 100000000000000) (hn : n ≤ 4611686018427387904) :
    Calls Tryz.prog 99 #[.slice q l.length cap, .int .i64 (n : Int)] w fun e w' => (∃ q' cap', e = .returned (.slice q' (l ++ vint n).length cap') ∧ OwnK encB 5 1 B w' q' cap' (l ++ vint n)) ∧ Below B w w' := by
  have hv := vint_len9 n hn
  obtain ⟨R, hR⟩ : ∃ R, l ++ vint n = R := ⟨_, rfl⟩
  have hRl : R.length ≤ 100000000000009 := by rw [← hR]; simp; omega
  rw [hR]
  have HR := hide hR
  have HO := hide ho
  clear ho hR hv
  go_enter Tryz.func99, Tryz.ntmps99
  go_wp2
  go_loopw [0, 1] (fun v i wr => ∃ (m : List UInt8) (k : Nat) (q' : Option Addr) (cap' : Nat), k ≤ 4611686018427387904 ∧ v = .slice q' m.length cap' ∧ i = .int .i64 (k : Int) ∧ Hid (OwnK encB 5 1 B wr q' cap' m) ∧ Hid (m ++ vint k = R) ∧ Hid (Below B w wr)) (fun _ i _ => (intOf i).toNat)
  case atStart => exact ⟨l, n, q, cap, hn, rfl, rfl, HO, HR, hide (Below.refl _ _)⟩
  case round =>
    obtain ⟨m, k, q', cap', hk, rfl, rfl, HOm, HE, HB⟩ := hrel
    have hs := (unhide HB).size
    have hvp := vint_len_pos k
    have hml : m.length + 1 ≤ 100000000000009 := by have := congrArg List.length (unhide HE); simp at this; omega
    have e1 := low_byte k
    by_cases h1 : k < 128
    · have hE := unhide HE
      rw [vint_lt h1] at hE
      obtain ⟨y, hy⟩ : ∃ y, UInt8.ofNat k = y := ⟨_, rfl⟩
      rw [hy] at hE
      have HE' := hide hE
      have e2 : ((k % 256 : Nat) : Int) = (y.toNat : Int) := by rw [← hy, toNat_of]
      rw [e2] at e1
      have hle : (k : Int) ≤ 127 := by omega
      clear hE hy e2 HE hvp
      go_wp2_with (at_builtin; refine wpList_app rowB rfl _ _ rfl B q' cap' m (some ⟨wr.heap.size, 0, none⟩) 1 [y] m.length 1 (m.length + 1) rfl rfl rfl rfl rfl ((unhide HOm).grow _) (srcA _ _ [y]) (by unfold maxLen; omega) (by omega) (by simp; omega) ?_; intro q2 c2 w2 ho2 hb2 _ _; have O2 := hide ho2; have B2 := hide ((unhide HB).trans (((Below.refl B wr).alloc (by omega) _).trans hb2)); clear ho2 hb2)
      go_ret
      rw [← unhide HE']
      exact ⟨⟨q2, c2, by simp, unhide O2⟩, unhide B2⟩
    · have hE := unhide HE
      rw [vint_ge h1] at hE
      obtain ⟨y, hy⟩ : ∃ y, UInt8.ofNat (k % 128 + 128) = y := ⟨_, rfl⟩
      rw [hy, List.append_cons] at hE
      have HE' := hide hE
      obtain ⟨u, hu⟩ : ∃ u, k / 128 = u := ⟨_, rfl⟩
      rw [hu] at HE'
      obtain ⟨v, hv⟩ : ∃ v, k % 256 = v := ⟨_, rfl⟩
      rw [hv] at e1
      have e2 : bits .or .u8 (v : Int) 128 = (y.toNat : Int) := by
        have := u8_or_nat v 128 (by omega) (by omega)
        rw [or128 v (by omega)] at this
        rw [← hy, toNat_of, show (k % 128 + 128) % 256 = v % 128 + 128 by omega]
        exact this
      have e3 : (k : Int) / 128 = (u : Int) := by omega
      have hgt : (127 : Int) < (k : Int) := by omega
      have hun : u < k := by omega
      have hk2 : u ≤ 4611686018427387904 := by omega
      clear hE hy HE hu hv hvp
      go_wp2_with (at_builtin; refine wpList_app rowB rfl _ _ rfl B q' cap' m (some ⟨wr.heap.size, 0, none⟩) 1 [y] m.length 1 (m.length + 1) rfl rfl rfl rfl rfl ((unhide HOm).grow _) (srcA _ _ [y]) (by unfold maxLen; omega) (by omega) (by simp; omega) ?_; intro q2 c2 w2 ho2 hb2 _ _; have O2 := hide ho2; have B2 := hide ((unhide HB).trans (((Below.refl B wr).alloc (by omega) _).trans hb2)); clear ho2 hb2)
      go_roundw
      case rel => exact ⟨m ++ [y], u, q2, c2, hk2, by simp, rfl, O2, HE', B2⟩
      case measure => simp [intOf]; omega
end Go.Proofs.YtfigjfmldpfjkaaGreat
namespace Go.Proofs.YtfigjfmldpfjkaaGreat
open Go.RowKit Go.Sort

theorem wrap8 (n : Nat) : IntKind.u8.wrap (n : Int) = ((UInt8.ofNat n).toNat : Int) := by rw [low_byte, toNat_of]
/-- One slice of bytes in a new block. -/
theorem slQ {w : World} {x : Sl} : SlOf encQ 1 (w.alloc (.cells #[.slice x.1 x.2.2.length x.2.1] 40)) (some ⟨w.heap.size, 0, none⟩) 1 [x] := by
  refine ⟨(fun h => by cases h), Nat.le_refl _, by unfold maxLen; omega, LsOf.one (by simp) fun c hc => ?_⟩
  obtain rfl : c = 0 := by omega
  rw [cellA]; rfl

set_option maxHeartbeats 1000000 in
theorem seal_any (q : Option Addr) (c : Nat) (l : List UInt8) (w : World) (h : SlOf encB 1 w q c l) (hl : l.length ≤ 1000000000000000) :
    Calls Tryz.prog 117 #[.slice q l.length c] w fun e w' => ∃ W, Below w.heap.size w W ∧ e = .returned (.slice (some ⟨W.heap.size, 0, none⟩) 4 4) ∧ w' = W.alloc (.cells ((four (sumB l)).map bv).toArray 5) := by
  have hb1 : Below w.heap.size w (w.alloc (.cells #[.slice q l.length c] 40)) := (Below.refl _ _).alloc (Nat.le_refl _) _
  have hs := sum_any (some ⟨w.heap.size, 0, none⟩) 1 [(q, c, l)] _ (slQ (w := w) (x := (q, c, l))) (by simp) (fun x hx => by
    obtain rfl : x = (q, c, l) := by simpa using hx
    exact ⟨h.below hb1, hl⟩)
  rw [show allB [(q, c, l)] = l by simp [allB]] at hs
  have hlt := sumB_lt l
  generalize sumB l = S at hs hlt ⊢
  have e0 := wrap8 S
  have d1 : (S : Int) / 256 = ((S / 256 : Nat) : Int) := by omega
  have d2 : (S : Int) / 65536 = ((S / 65536 : Nat) : Int) := by omega
  have d3 : (S : Int) / 16777216 = ((S / 16777216 : Nat) : Int) := by omega
  have e1 := wrap8 (S / 256)
  have e2 := wrap8 (S / 65536)
  have e3 := wrap8 (S / 16777216)
  have HB1 := hide hb1
  unfold four
  generalize S / 256 = S1 at *
  generalize S / 65536 = S2 at *
  generalize S / 16777216 = S3 at *
  generalize UInt8.ofNat S = y0 at *
  generalize UInt8.ofNat S1 = y1 at *
  generalize UInt8.ofNat S2 = y2 at *
  generalize UInt8.ofNat S3 = y3 at *
  clear h hb1
  go_enter Tryz.func117, Tryz.ntmps117
  go_wp2_with (go_at_call 129; refine hs.mono ?_; rintro e w1 ⟨rfl, rfl⟩)
  go_ret
  exact ⟨_, unhide HB1, by simp, rfl⟩

set_option maxHeartbeats 1000000 in
theorem sealed_any (B : Nat) (q : Option Addr) (cap : Nat) (l : List UInt8) (w : World) (ho : OwnK encB 5 1 B w q cap l) (hB : B ≤ w.heap.size) (hl : l.length ≤ 100000000000000) :
    Calls Tryz.prog 100 #[.slice q l.length cap] w fun e w' => (∃ q' cap', e = .returned (.slice q' (sealB l).length cap') ∧ OwnK encB 5 1 B w' q' cap' (sealB l)) ∧ Below B w w' := by
  have hs := seal_any q cap l w ho.ls (by omega)
  have HO := hide ho
  clear ho
  go_enter Tryz.func100, Tryz.ntmps100
  go_wp2_with (first
    | (go_at_call 117; refine hs.mono ?_; rintro e w1 ⟨W, hW, rfl, rfl⟩; have HW := hide hW; have sW := hW.size; clear hW)
    | (at_builtin; refine wpList_app rowB rfl _ _ rfl B q cap l (some ⟨W.heap.size, 0, none⟩) 4 (four (sumB l)) l.length 4 (l.length + 4) rfl rfl rfl rfl rfl (((unhide HO).below (unhide HW)).grow _) (srcA _ _ _) (by unfold maxLen; omega) (by omega) (by simp; omega) ?_; intro q2 c2 w2 ho2 hb2 _ _; have O2 := hide ho2; have B2 := hide (((unhide HW).mono hB).trans (((Below.refl B W).alloc (by omega) _).trans hb2)); clear ho2 hb2))
  go_ret
  exact ⟨⟨q2, c2, by simp [sealB, four], unhide O2⟩, unhide B2⟩

set_option maxHeartbeats 400000 in
theorem next_any (n : Int) (w : World) : Calls Tryz.prog 101 #[.int .i64 n] w fun e w' => e = .returned (.bool (decide (1 ≤ n ∧ n ≤ 1099511627777))) ∧ w' = w := by
  by_cases h1 : 1 ≤ n
  · by_cases h2 : n ≤ 1099511627777
    · rw [decide_eq_true (⟨h1, h2⟩ : 1 ≤ n ∧ n ≤ 1099511627777)]
      go_enter Tryz.func101, Tryz.ntmps101
      go_wp2
      go_ret
      exact ⟨rfl, rfl⟩
    · rw [decide_eq_false (fun h => h2 h.2)]
      go_enter Tryz.func101, Tryz.ntmps101
      go_wp2
      go_ret
      exact ⟨rfl, rfl⟩
  · rw [decide_eq_false (fun h => h1 h.1)]
    go_enter Tryz.func101, Tryz.ntmps101
    go_wp2
    go_ret
    exact ⟨rfl, rfl⟩
/-- A head. -/
def headB (n : Nat) : List UInt8 := sealB (72 :: vint n)
set_option maxHeartbeats 1000000 in
theorem head_no (n : Int) (hn : ¬ (1 ≤ n ∧ n ≤ 1099511627777)) (w : World) :
    Calls Tryz.prog 71 #[.int .i64 n] w fun e w' => e = .returned (.tuple #[.slice none 0 0, .int .i64 2]) ∧ w' = w := by
  have h := next_any n w
  rw [decide_eq_false hn] at h
  go_enter Tryz.func71, Tryz.ntmps71
  go_wp2_with (go_at_call 101; refine h.mono ?_; rintro e w1 ⟨rfl, rfl⟩)
  refine bodyPost_ret (v := .tuple #[.slice none 0 0, .int .i64 2]) (by simp [results, Tryz.f71, go_sem]) rfl ?_
  exact ⟨rfl, rfl⟩
set_option maxHeartbeats 1000000 in
theorem head_yes (n : Nat) (h1 : 1 ≤ n) (h2 : n ≤ 1099511627777) (w : World) :
    Calls Tryz.prog 71 #[.int .i64 (n : Int)] w fun e w' => (∃ q c, e = .returned (.tuple #[.slice q (headB n).length c, .int .i64 0]) ∧ OwnK encB 5 1 w.heap.size w' q c (headB n)) ∧ Below w.heap.size w w' := by
  have h := next_any (n : Int) w
  rw [decide_eq_true (by omega : 1 ≤ (n : Int) ∧ (n : Int) ≤ 1099511627777)] at h
  have hv := vint_any w.heap.size _ _ [72] n _ (ownA w w.heap.size [72] (Nat.le_refl _) (by unfold maxLen; simp)) (by simp) (by simp) (by omega)
  have hl := vint_len9 n (by omega)
  go_enter Tryz.func71, Tryz.ntmps71
  go_wp2_with (first
    | (go_at_call 101; refine h.mono ?_; rintro e w1 ⟨rfl, hw1⟩; obtain rfl := hw1.symm)
    | (go_at_call 99; refine hv.mono ?_; rintro e w2 ⟨⟨q2, c2, rfl, o2⟩, b2⟩; have O2 := hide o2; have B2 := hide (((Below.refl w.heap.size w).alloc (Nat.le_refl _) _).trans b2); clear o2 b2)
    | (go_at_call 100; refine (sealed_any w.heap.size q2 c2 ([72] ++ vint n) w2 (unhide O2) (unhide B2).size (by simp; omega)).mono ?_; rintro e w3 ⟨⟨q3, c3, rfl, o3⟩, b3⟩; have O3 := hide o3; have B3 := hide ((unhide B2).trans b3); clear o3 b3))
  refine bodyPost_ret (v := .tuple #[.slice q3 (headB n).length c3, .int .i64 0]) (by simp [results, Tryz.f71, go_sem, headB]) rfl ?_
  exact ⟨⟨q3, c3, rfl, unhide O3⟩, unhide B3⟩
end Go.Proofs.YtfigjfmldpfjkaaGreat
namespace Go.Proofs.YtfigjfmldpfjkaaGreat
open Go.RowKit Go.Sort

theorem strB (t : ByteArray) : Lib.strCells t = t.data.toList.map bv := rfl
section
variable {o : Oper} {a : Act} {w : World} {K : Act → World → Prop} {Q : Exit → Act → World → Prop}
theorem wp_appS (s x : Operand) (ho : o.op = .call { callee := .builtin .append, args := #[s, x], argTypes := #[40, 9] }) (B : Nat) (q : Option Addr) (cap : Nat) (l : List UInt8) (t : ByteArray) (n N : Nat) (hn : l.length = n) (hN : n + t.size = N)
    (es : a.eval s = .slice q n cap) (ex : a.eval x = .string t) (hown : OwnK encB 5 1 B w q cap l) (hb : N ≤ 140737488355328) (hB : B ≤ w.heap.size)
    (h : ∀ q' cap' w', OwnK encB 5 1 B w' q' cap' (l ++ t.data.toList) → Below B w w' → K (a.put o.dst (.slice q' N cap')) w') : o.wp Tryz.prog a w K Q := by
  subst hn hN
  obtain ⟨i0, hi, hz0, hz1, hz2⟩ := info_parts Tryz.info5
  unfold OwnK at hown
  rw [flatB] at hown
  obtain ⟨v', w', hr, ho2, hg, _⟩ := Lib.run_append_own_string (P := Tryz.prog) w B 40 9 o.type 5 i0 Tryz.underlying40 Tryz.underlying9 hi hz0 hz1 hz2 _ _ _ hown t (by unfold maxLen; omega) hb hB
  obtain ⟨q', cap', rfl, hq⟩ := OwnK.shape ho2
  unfold Oper.wp execOp
  simp only [ho, resolve, invoke, builtin, Sem.run_bind, Sem.run_pure, Result.andThen_ok, List.map_toArray, List.map_cons, List.map_nil, es, ex, hr]
  refine h q' cap' w' ?_ ?_
  · unfold OwnK
    rw [flatB, List.map_append, List.length_append]
    rw [strB] at ho2
    simpa using ho2
  · exact (Below.refl _ _).grown hg hB fun j hj => (World.ownsRow.lt hown j hj).1
theorem step_appS {ops : Array Oper} {E : Prop} (hgd : o.guard = none) (s x : Operand) (ho : o.op = .call { callee := .builtin .append, args := #[s, x], argTypes := #[40, 9] }) (B : Nat) (q : Option Addr) (cap : Nat) (l : List UInt8) (t : ByteArray) (n N : Nat) (hn : l.length = n) (hN : n + t.size = N)
    (es : a.eval s = .slice q n cap) (ex : a.eval x = .string t) (hown : OwnK encB 5 1 B w q cap l) (hb : N ≤ 140737488355328) (hB : B ≤ w.heap.size)
    (h : ∀ q' cap' w', OwnK encB 5 1 B w' q' cap' (l ++ t.data.toList) → Below B w w' → K (a.put o.dst (.slice q' N cap')) w') :
    if Region.wanted o (yielded ops a.tmps) = true then Oper.wp Tryz.prog o a w K Q else E := by
  have hw : Region.wanted o (yielded ops a.tmps) = true := by simp [Region.wanted, hgd]
  rw [if_pos hw]
  exact wp_appS s x ho B q cap l t n N hn hN es ex hown hb hB h
end

theorem emp_iff (s : ByteArray) : s.toList.isEmpty = true ↔ s.size = 0 := by
  rw [List.isEmpty_iff, ← List.length_eq_zero_iff, ByteArray.toList_eq]; simp
instance (c : Ch) : Decidable (MayB c) := by unfold MayB; infer_instance
set_option maxHeartbeats 1000000 in
theorem may_any (c : Ch) (w : World) :
    Calls Tryz.prog 68 #[.agg #[.int .i64 c.kind, .int .i64 c.id, .string c.text]] w fun e w' => e = .returned (.bool (decide (MayB c))) ∧ Below w.heap.size w w' := by
  obtain ⟨R, hR⟩ : ∃ R, decide (MayB c) = R := ⟨_, rfl⟩
  rw [hR]
  have hP : R = true ↔ MayB c := by rw [← hR, decide_eq_true_eq]
  clear hR
  obtain ⟨kind, id, text⟩ := c
  have hM : MayB ⟨kind, id, text⟩ ↔ (1 ≤ id ∧ id ≤ 1099511627776) ∧ (((kind = 1 ∨ kind = 2) ∧ text.size ≤ 4096) ∨ (kind = 3 ∧ text.size = 0)) := Iff.rfl
  rw [hM] at hP
  clear hM
  have hno : ¬ ((1 ≤ id ∧ id ≤ 1099511627776) ∧ (((kind = 1 ∨ kind = 2) ∧ text.size ≤ 4096) ∨ (kind = 3 ∧ text.size = 0))) → R = false := fun h => by
    cases R
    · rfl
    · exact absurd (hP.1 rfl) h
  by_cases h1 : 1 ≤ id
  · by_cases h2 : id ≤ 1099511627776
    · by_cases k1 : kind = 1
      · have HE : Hid (R = decide ((text.size : Int) ≤ 4096)) := hide (by rw [Bool.eq_iff_iff, hP, decide_eq_true_eq]; omega)
        subst k1
        clear hP hno
        go_enter Tryz.func68, Tryz.ntmps68
        go_wp2
        all_goals (go_ret; exact ⟨ret_bool (by first | exact (unhide HE).symm | (rw [unhide HE]; symm; assumption) | (rw [unhide HE]; simp_all)), (Below.refl _ _).alloc (Nat.le_refl _) _⟩)
      · by_cases k2 : kind = 2
        · have HE : Hid (R = decide ((text.size : Int) ≤ 4096)) := hide (by rw [Bool.eq_iff_iff, hP, decide_eq_true_eq]; omega)
          subst k2
          clear hP hno k1
          go_enter Tryz.func68, Tryz.ntmps68
          go_wp2
          all_goals (go_ret; exact ⟨ret_bool (by first | exact (unhide HE).symm | (rw [unhide HE]; symm; assumption) | (rw [unhide HE]; simp_all)), (Below.refl _ _).alloc (Nat.le_refl _) _⟩)
        · by_cases k3 : kind = 3
          · have HE : Hid (R = text.toList.isEmpty) := hide (by rw [Bool.eq_iff_iff, hP, emp_iff]; omega)
            have HF : Hid (text.toList.isEmpty = decide (text.size = 0)) := hide (by rw [Bool.eq_iff_iff, emp_iff, decide_eq_true_eq])
            subst k3
            clear hP hno k1 k2
            go_enter Tryz.func68, Tryz.ntmps68
            go_wp2
            all_goals (go_ret; exact ⟨ret_bool (by first | exact (unhide HE).symm | (rw [unhide HE, unhide HF]; symm; first | exact decide_eq_true (by omega) | exact decide_eq_false (by omega)) | (rw [unhide HE]; simp_all)), (Below.refl _ _).alloc (Nat.le_refl _) _⟩)
          · have HE := hide (hno (by omega))
            clear hP hno
            go_enter Tryz.func68, Tryz.ntmps68
            go_wp2
            all_goals (go_ret; first | exact ⟨ret_bool (unhide HE).symm, (Below.refl _ _).alloc (Nat.le_refl _) _⟩ | (exfalso; first | omega | simp_all))
    · have HE := hide (hno (by omega))
      clear hP hno
      go_enter Tryz.func68, Tryz.ntmps68
      go_wp2
      all_goals (go_ret; first | exact ⟨ret_bool (unhide HE).symm, (Below.refl _ _).alloc (Nat.le_refl _) _⟩ | (exfalso; first | omega | simp_all))
  · have HE := hide (hno (by omega))
    clear hP hno
    go_enter Tryz.func68, Tryz.ntmps68
    go_wp2
    all_goals (go_ret; first | exact ⟨ret_bool (unhide HE).symm, (Below.refl _ _).alloc (Nat.le_refl _) _⟩ | (exfalso; first | omega | simp_all))
end Go.Proofs.YtfigjfmldpfjkaaGreat
namespace Go.Proofs.YtfigjfmldpfjkaaGreat
open Go.RowKit Go.Sort

/-- The body of a change's record, and the record. -/
def bodyB (c : Ch) : List UInt8 := UInt8.ofNat c.kind.toNat :: (vint c.id.toNat ++ c.text.data.toList)
def recB (b : List UInt8) : List UInt8 := sealB (67 :: (vint b.length ++ b))
def oneB (c : Ch) : List UInt8 := recB (bodyB c)

theorem Tryz.info52s : (Tryz.prog.info? 113).map (·.size) = some 4 := by kernel_rfl
set_option maxHeartbeats 2000000 in
set_option maxRecDepth 100000 in
theorem write_any (c : Ch) (k n : Nat) (hk : c.kind = (k : Int)) (hn : c.id = (n : Int)) (hn2 : n ≤ 4611686018427387904) (ht : c.text.size ≤ 1000000000) (w : World) :
    Calls Tryz.prog 69 #[.agg #[.int .i64 c.kind, .int .i64 c.id, .string c.text]] w fun e w' => (∃ q cap, e = .returned (.agg #[.int .i64 c.kind, .int .i64 c.id, .string c.text, .slice q (oneB c).length cap]) ∧ OwnK encB 5 1 w.heap.size w' q cap (oneB c)) ∧ Below w.heap.size w w' := by
  obtain ⟨kind, id, text⟩ := c
  simp only at hk hn ht ⊢
  subst hk hn
  have hv9 := vint_len9 n hn2
  obtain ⟨body, hbody⟩ : ∃ b, bodyB ⟨(k : Int), (n : Int), text⟩ = b := ⟨_, rfl⟩
  have hbl : UInt8.ofNat k :: (vint n ++ text.data.toList) = body := hbody
  have hblen : body.length ≤ 1000000010 := by
    rw [← hbl]; simp; have : text.data.size = text.size := rfl; omega
  rw [show oneB ⟨(k : Int), (n : Int), text⟩ = recB body by unfold oneB; rw [hbody]]
  have e1 := wrap8 k
  generalize hy : UInt8.ofNat k = y at hbl e1
  have hv9b := vint_len9 body.length (by omega)
  have HBL := hide hbl
  have HBN := hide hblen
  clear hbody hy hbl
  obtain ⟨z1, hz1⟩ : ∃ z1, w.alloc (.cells #[.int .i64 (k : Int), .int .i64 (n : Int), .string text] 63) = z1 := ⟨_, rfl⟩
  obtain ⟨z2, hz2⟩ : ∃ z2, z1.alloc (.cells #[.int .i64 0, .int .i64 0, .string ⟨#[]⟩, .slice none 0 0] 113) = z2 := ⟨_, rfl⟩
  have s1 : z1.heap.size = w.heap.size + 1 := by rw [← hz1]; simp
  have s2 : z2.heap.size = w.heap.size + 2 := by rw [← hz2]; simp [s1]
  have b1 : Below w.heap.size w z1 := by rw [← hz1]; exact (Below.refl _ _).alloc (Nat.le_refl _) _
  have b12 : Below z1.heap.size z1 z2 := by rw [← hz2]; exact (Below.refl _ _).alloc (Nat.le_refl _) _
  have b2 : Below w.heap.size w z2 := below_sub b1 b12
  have blk1 : z2.heap[w.heap.size]? = some (.cells #[.int .i64 (k : Int), .int .i64 (n : Int), .string text] 63 (0, 0)) := by
    rw [b12.block _ (by omega), ← hz1]; exact heap_alloc_new _ _
  have blk2 : z2.heap[z1.heap.size]? = some (.cells #[.int .i64 0, .int .i64 0, .string ⟨#[]⟩, .slice none 0 0] 113 (0, 0)) := by
    rw [← hz2]; exact heap_alloc_new _ _
  have a0 : z2.cell? ⟨w.heap.size, 0, none⟩ = some (.int .i64 (k : Int)) := by unfold World.cell?; rw [blk1]; rfl
  have a1 : z2.cell? ⟨w.heap.size, 1, none⟩ = some (.int .i64 (n : Int)) := by unfold World.cell?; rw [blk1]; rfl
  have a2 : z2.cell? ⟨w.heap.size, 2, none⟩ = some (.string text) := by unfold World.cell?; rw [blk1]; rfl
  have keepS : ∀ W, Below z1.heap.size z2 W → (W.cell? ⟨w.heap.size, 0, none⟩ = some (.int .i64 (k : Int)) ∧ W.cell? ⟨w.heap.size, 1, none⟩ = some (.int .i64 (n : Int))) ∧ W.cell? ⟨w.heap.size, 2, none⟩ = some (.string text) := fun W h =>
    ⟨⟨(h.cell (p := ⟨w.heap.size, 0, none⟩) (by show w.heap.size < _; omega)).trans a0, (h.cell (p := ⟨w.heap.size, 1, none⟩) (by show w.heap.size < _; omega)).trans a1⟩, (h.cell (p := ⟨w.heap.size, 2, none⟩) (by show w.heap.size < _; omega)).trans a2⟩
  have hv : ∀ W, OwnK encB 5 1 z2.heap.size W (some ⟨z2.heap.size, 0, none⟩) 1 [y] → z2.heap.size ≤ W.heap.size → Calls Tryz.prog 99 #[.slice (some ⟨z2.heap.size, 0, none⟩) 1 1, .int .i64 (n : Int)] W fun e w' => (∃ q' cap', e = .returned (.slice q' ([y] ++ vint n).length cap') ∧ OwnK encB 5 1 z2.heap.size w' q' cap' ([y] ++ vint n)) ∧ Below z2.heap.size W w' := fun W h1 h2 => vint_any z2.heap.size _ 1 [y] n W h1 h2 (by simp) hn2
  have hoa := ownA z2 z2.heap.size [y] (Nat.le_refl _) (by unfold maxLen; simp)
  have HB2 := hide b2
  have HKS := hide keepS
  obtain ⟨N1, hN1⟩ : ∃ N1, ([y] ++ vint n).length = N1 := ⟨_, rfl⟩
  have hN1b : N1 ≤ 10 := by rw [← hN1]; simp; omega
  obtain ⟨N2, hN2⟩ : ∃ N2, body.length = N2 := ⟨_, rfl⟩
  have hN12 : Hid (N1 + text.size = N2) := hide (by rw [← hN1, ← hN2, ← unhide HBL]; have : text.data.size = text.size := rfl; simp; omega)
  have hN2b : N2 ≤ 1000000010 := by omega
  rw [hN1] at hv
  have hvA := hv (z2.alloc (.cells #[.int .u8 (y.toNat : Int)] 5)).drew hoa (by simp)
  have HN1 := hide hN1
  have HN2 := hide hN2
  have hle12 : z1.heap.size ≤ z2.heap.size := by omega
  have set4 : ∀ W, Below z2.heap.size z2 W → ∀ v0 v1 v2 v3 : Value, Below z1.heap.size z2 ((((W.setCell ⟨z1.heap.size, 0, none⟩ v0).setCell ⟨z1.heap.size, 1, none⟩ v1).setCell ⟨z1.heap.size, 2, none⟩ v2).setCell ⟨z1.heap.size, 3, none⟩ v3) := fun W h v0 v1 v2 v3 => ((((h.mono hle12).setCell (p := ⟨z1.heap.size, 0, none⟩) (Nat.le_refl _) v0).setCell (p := ⟨z1.heap.size, 1, none⟩) (Nat.le_refl _) v1).setCell (p := ⟨z1.heap.size, 2, none⟩) (Nat.le_refl _) v2).setCell (p := ⟨z1.heap.size, 3, none⟩) (Nat.le_refl _) v3
  have S1 := hide s1
  have S2 := hide s2
  clear blk1 b12 b1 b2 keepS hN1 hN2 s1 s2
  go_enter Tryz.func69, Tryz.ntmps69
  go_wp2
  clear hz1 hz2
  go_region_held3 (fun W => (W.cell? ⟨w.heap.size, 0, none⟩ = some (.int .i64 (k : Int)) ∧ W.cell? ⟨w.heap.size, 1, none⟩ = some (.int .i64 (n : Int))) ∧ W.cell? ⟨w.heap.size, 2, none⟩ = some (.string text))
    (first | exact unhide HKS _ ((unhide C3).mono hle12) | exact unhide HKS _ ((unhide C2).mono hle12) | exact unhide HKS _ ((Below.refl _ _).alloc hle12 _) | exact unhide HKS _ ((Below.refl _ _).alloc hle12 _).drew | exact unhide HKS _ (Below.refl _ _).drew | exact unhide HKS _ (Below.refl _ _))
    ((first
      | (go_at_call 99; refine hvA.mono ?_; rintro e w2 ⟨⟨q2, c2, rfl, o2⟩, b2⟩; have O2 := hide o2; have C2 := hide ((((Below.refl z2.heap.size z2).alloc (Nat.le_refl _) (.cells #[.int .u8 (y.toNat : Int)] 5)).drew).trans b2); clear o2 b2)
      | (refine step_appS (by rfl) (.tmp 11) (.tmp 13) (by rfl) z2.heap.size q2 c2 ([y] ++ vint n) text N1 N2 (unhide HN1) (unhide hN12) (by rfl) (by rfl) (unhide O2) (by omega) (unhide C2).size ?_; intro q3 c3 w3 o3 b3; have O3 := hide o3; have C3 := hide ((unhide C2).trans b3); clear o3 b3)))
  have OA2 := hide (ownA w3 w3.heap.size [67] (Nat.le_refl _) (by unfold maxLen; simp))
  obtain ⟨N3, hN3⟩ : ∃ N3, ([67] ++ vint N2).length = N3 := ⟨_, rfl⟩
  have hN3b : N3 ≤ 10 := by rw [← hN3]; have := vint_len9 N2 (by omega); simp; omega
  have hv3 := vint_any w3.heap.size _ 1 [67] N2 _ (unhide OA2) (by simp) (by simp) (by omega)
  rw [hN3] at hv3
  have HN3 := hide hN3
  clear hN3
  go_wp2_with (go_at_call 99; refine hv3.mono ?_; rintro e w4 ⟨⟨q4, c4, rfl, o4⟩, b4⟩; have O4 := hide o4; have C4 := hide (((Below.refl w3.heap.size w3).alloc (Nat.le_refl _) (.cells #[.int .u8 67] 5)).trans b4); clear o4 b4)
  have hb4 : Below z2.heap.size z2 w4 := (unhide C3).trans ((unhide C4).mono (unhide C3).size)
  obtain ⟨⟨d0, d1⟩, d2⟩ := unhide HKS _ (hb4.mono hle12)
  obtain ⟨N4, hN4⟩ : ∃ N4, N3 + N2 = N4 := ⟨_, rfl⟩
  have HN4 := hide hN4
  have hN4b : N4 ≤ 1000000020 := by omega
  have e0 := (hb4.block z1.heap.size (by have := unhide S1; have := unhide S2; omega)).trans blk2
  have O4d := hide ((unhide O4).below (Below.refl w4.heap.size w4).drew)
  have O3b : OwnK encB 5 1 z2.heap.size w3 q3 c3 body := by
    have := unhide O3
    rw [show [y] ++ vint n ++ text.data.toList = body from unhide HBL] at this
    exact this
  have P4d := hide (((O3b.below (unhide C4)).below (Below.refl w4.heap.size w4).drew).ls.src)
  have hs5 : ∀ (q5 : Option Addr) (c5 : Nat) (W : World), OwnK encB 5 1 w3.heap.size W q5 c5 ([67] ++ vint N2 ++ body) → w3.heap.size ≤ W.heap.size → Calls Tryz.prog 100 #[.slice q5 N4 c5] W fun e w' => (∃ q' cap', e = .returned (.slice q' (recB body).length cap') ∧ OwnK encB 5 1 w3.heap.size w' q' cap' (recB body)) ∧ Below w3.heap.size W w' := fun q5 c5 W h1 h2 => by
    have hl : ([67] ++ vint N2 ++ body).length = N4 := by rw [List.length_append, unhide HN3, unhide HN2, unhide HN4]
    have h := sealed_any w3.heap.size q5 c5 ([67] ++ vint N2 ++ body) W h1 h2 (by omega)
    rw [hl, show sealB ([67] ++ vint N2 ++ body) = recB body by unfold recB; rw [unhide HN2]; rfl] at h
    exact h
  have wr4 : ∀ (W : World), W.heap[z1.heap.size]? = some (.cells #[.int .i64 0, .int .i64 0, .string ⟨#[]⟩, .slice none 0 0] 113 (0, 0)) → (W.cell? ⟨z1.heap.size, 0, none⟩ = some (.int .i64 0) ∧ W.cell? ⟨z1.heap.size, 1, none⟩ = some (.int .i64 0) ∧ W.cell? ⟨z1.heap.size, 2, none⟩ = some (.string ⟨#[]⟩) ∧ W.cell? ⟨z1.heap.size, 3, none⟩ = some (.slice none 0 0)) ∧ ∀ o, W.frozen? ⟨z1.heap.size, o, none⟩ = false := fun W h => by
    refine ⟨⟨?_, ?_, ?_, ?_⟩, fun o => frozen_free h⟩ <;> (unfold World.cell?; rw [h]; rfl)
  have hlt1 : z1.heap.size < z2.heap.size := by have := unhide S1; have := unhide S2; omega
  have hlt2 : z2.heap.size ≤ w3.heap.size := (unhide C3).size
  have HS5 := hide hs5
  clear hs5 O3b
  have C4d := hide (unhide C4).drew
  have hb4d := hb4.drew
  clear hN4 blk2 a0 a1 a2 hv hvA hv3 hoa
  go_region_held3 (fun W => (W.cell? ⟨w.heap.size, 0, none⟩ = some (.int .i64 (k : Int)) ∧ W.cell? ⟨w.heap.size, 1, none⟩ = some (.int .i64 (n : Int))) ∧ W.cell? ⟨w.heap.size, 2, none⟩ = some (.string text))
    (first | exact unhide HKS _ (set4 _ (unhide C6) _ _ _ _) | exact unhide HKS _ ((unhide C6).mono hle12) | exact unhide HKS _ ((unhide C5).mono hle12) | exact unhide HKS _ (hb4.mono hle12).drew | exact unhide HKS _ (hb4.mono hle12))
    ((first
      | (refine step_app rowB (by rfl) (.tmp 20) (.tmp 21) (by rfl) w3.heap.size q4 c4 ([67] ++ vint N2) q3 c3 body N3 N2 N4 (unhide HN3) (unhide HN2) (unhide HN4) (by rfl) (by rfl) (unhide O4d) (unhide P4d) (by unfold maxLen; omega) (by omega) (unhide C4d).size ?_; intro q5 c5 w5 o5 b5 _ _; have O5 := hide o5; have D5 := hide ((unhide C4d).trans b5); have C5 := hide (hb4d.trans (b5.mono (unhide C3).size)); have E5 := hide (((b5.mono hlt2).block z1.heap.size hlt1).trans e0); clear o5 b5)
      | (go_at_call 100; refine (unhide HS5 q5 c5 w5 (unhide O5) (unhide D5).size).mono ?_; rintro e w6 ⟨⟨q6, c6, rfl, o6⟩, b6⟩; have O6 := hide o6; have C6 := hide ((unhide C5).trans (b6.mono (unhide C3).size)); have E6 := hide (((b6.mono hlt2).block z1.heap.size hlt1).trans (unhide E5)); obtain ⟨⟨x0, x1, x2, x3⟩, xf⟩ := wr4 w6 (unhide E6); have xf0 := xf 0; have xf1 := xf 1; have xf2 := xf 2; have xf3 := xf 3; clear o6 b6)))
  have hO6 := (unhide O6).mono (unhide C3).size
  have hblk : ∀ v0 v1 v2 v3 : Value, ((((w6.setCell ⟨z1.heap.size, 0, none⟩ v0).setCell ⟨z1.heap.size, 1, none⟩ v1).setCell ⟨z1.heap.size, 2, none⟩ v2).setCell ⟨z1.heap.size, 3, none⟩ v3).heap[z1.heap.size]? = some (.cells #[v0, v1, v2, v3] 113 (0, 0)) := fun v0 v1 v2 v3 => by
    have h0 := heap_setCell_same w6 z1.heap.size 0 _ 113 v0 (unhide E6)
    have h1 := heap_setCell_same _ z1.heap.size 1 _ 113 v1 h0
    have h2 := heap_setCell_same _ z1.heap.size 2 _ 113 v2 h1
    have h3 := heap_setCell_same _ z1.heap.size 3 _ 113 v3 h2
    exact h3
  have hrow : ∀ (W : World) (p : Nat) (v : Value), OwnK encB 5 1 z2.heap.size W q6 c6 (recB body) → OwnK encB 5 1 z2.heap.size (W.setCell ⟨z1.heap.size, p, none⟩ v) q6 c6 (recB body) := fun W p v h => by
    refine ⟨h.1, ?_⟩
    rcases h.2 with h0 | ⟨g, cp, cur, hv, hB, hblk, hr⟩
    · exact Or.inl h0
    · exact Or.inr ⟨g, cp, cur, hv, hB, (Below.heap_setCell _ _ _ _ (fun e => by have e' : g = z1.heap.size := e; omega)).trans hblk, hr⟩
  have hfin := hrow _ 3 (.slice q6 (recB body).length c6) (hrow _ 2 (.string text) (hrow _ 1 (.int .i64 (n : Int)) (hrow _ 0 (.int .i64 (k : Int)) hO6)))
  have hres := hblk (.int .i64 (k : Int)) (.int .i64 (n : Int)) (.string text) (.slice q6 (recB body).length c6)
  have hbel := set4 _ (unhide C6) (.int .i64 (k : Int)) (.int .i64 (n : Int)) (.string text) (.slice q6 (recB body).length c6)
  generalize ((((w6.setCell ⟨z1.heap.size, 0, none⟩ (.int .i64 (k : Int))).setCell ⟨z1.heap.size, 1, none⟩ (.int .i64 (n : Int))).setCell ⟨z1.heap.size, 2, none⟩ (.string text)).setCell ⟨z1.heap.size, 3, none⟩ (.slice q6 (recB body).length c6)) = W7 at hfin hres hbel ⊢
  have HF := hide hfin
  have HR := hide hres
  have HL := hide hbel
  clear hfin hbel hrow hblk hO6 x0 x1 x2 x3 xf xf0 xf1 xf2 xf3 d0 d1 d2 e0 set4 wr4
  go_wp2
  refine bodyPost_ret (results_cell_row rfl _ _ z1.heap.size 113 _ (0, 0) _ rfl (unhide HR) Tryz.underlying113 rfl Tryz.info52s) rfl ?_
  refine ⟨⟨q6, c6, rfl, (unhide HF).mono (by have := unhide S2; omega)⟩, ?_⟩
  have h1 := unhide S1
  exact (unhide HB2).trans ((unhide HL).mono (by omega))
end Go.Proofs.YtfigjfmldpfjkaaGreat
namespace Go.Proofs.YtfigjfmldpfjkaaGreat
open Go.RowKit Go.Sort

theorem four_len (s : Nat) : (four s).length = 4 := rfl
theorem seal_len (l : List UInt8) : (sealB l).length = l.length + 4 := by simp [sealB, four_len]
theorem body_len (c : Ch) (h : MayB c) : (bodyB c).length ≤ 4110 := by
  have h9 := vint_len9 c.id.toNat (by have := h.1; omega)
  have : c.text.data.size = c.text.size := rfl
  have : c.text.size ≤ 4096 := by rcases h.2 with h | h <;> omega
  simp [bodyB]; omega
theorem one_lenR (c : Ch) (h : MayB c) : (oneB c).length ≤ 4130 := by
  have := body_len c h
  have h9 := vint_len9 (bodyB c).length (by omega)
  simp [oneB, recB, seal_len]; omega
/-- The records of changes. -/
def encs (cs : List Ch) : List UInt8 := (cs.map oneB).flatten
theorem encs_snoc (cs : List Ch) (c : Ch) : encs (cs ++ [c]) = encs cs ++ oneB c := by simp [encs]
theorem encs_cons (cs : List Ch) (c : Ch) : encs (c :: cs) = oneB c ++ encs cs := by simp [encs]
theorem encs_len (cs : List Ch) (h : ∀ c ∈ cs, MayB c) : (encs cs).length ≤ cs.length * 4130 := by
  induction cs with
  | nil => simp [encs]
  | cons c cs ih =>
    rw [encs_cons]
    have := ih (fun x hx => h x (List.mem_cons_of_mem _ hx))
    have := one_lenR c (h c (by simp))
    simp; omega
theorem may_nums {c : Ch} (h : MayB c) : ∃ k n : Nat, c.kind = (k : Int) ∧ c.id = (n : Int) ∧ n ≤ 4611686018427387904 ∧ c.text.size ≤ 1000000000 := by
  obtain ⟨⟨h1, h2⟩, h3⟩ := h
  refine ⟨c.kind.toNat, c.id.toNat, ?_, ?_, ?_, ?_⟩
  · rcases h3 with h | h <;> omega
  · omega
  · omega
  · rcases h3 with h | h <;> omega
theorem write_may (c : Ch) (hc : MayB c) (w : World) :
    Calls Tryz.prog 69 #[.agg #[.int .i64 c.kind, .int .i64 c.id, .string c.text]] w fun e w' => (∃ q cap, e = .returned (.agg #[.int .i64 c.kind, .int .i64 c.id, .string c.text, .slice q (oneB c).length cap]) ∧ OwnK encB 5 1 w.heap.size w' q cap (oneB c)) ∧ Below w.heap.size w w' := by
  obtain ⟨k, n, h1, h2, h3, h4⟩ := may_nums hc
  exact write_any c k n h1 h2 h3 h4 w
theorem field52 (a b c d : Value) (w : World) : (Instr.field 113 (.agg #[a, b, c, d]) 1).run Tryz.prog w = .ok d w := by kernel_rfl
attribute [local go_sem] field52
/-- What Encode answers. -/
def EncR (B : Nat) (cs : List Ch) (e : Ending) (w' : World) : Prop :=
  ((∀ c ∈ cs, MayB c) ∧ ∃ q cap, e = .returned (.tuple #[.slice q (encs cs).length cap, .int .i64 0]) ∧ OwnK encB 5 1 B w' q cap (encs cs)) ∨
  ((¬ ∀ c ∈ cs, MayB c) ∧ e = .returned (.tuple #[.slice none 0 0, .int .i64 1]))
set_option maxHeartbeats 2000000 in
theorem encode_any (q : Option Addr) (cp : Nat) (cs : List Ch) (w : World) (h : SlOf encC 3 w q cp cs) (hn : cs.length ≤ 10000000000) :
    Calls Tryz.prog 35 #[.slice q cs.length cp] w fun e w' => EncR w.heap.size cs e w' ∧ Below w.heap.size w w' := by
  have hm := fun (c : Ch) (W : World) => may_any c W
  have hw := fun (c : Ch) (hc : MayB c) (W : World) => write_may c hc W
  go_enter Tryz.func35, Tryz.ntmps35
  go_wp2
  go_loopw [4, 9] (fun v i wr => ∃ (k N : Nat) (q' : Option Addr) (cap' : Nat), k ≤ cs.length ∧ i = .int .i64 (k : Int) ∧ v = .slice q' N cap' ∧ Hid (N = (encs (cs.take k)).length) ∧ Hid (OwnK encB 5 1 w.heap.size wr q' cap' (encs (cs.take k))) ∧ Hid (∀ c ∈ cs.take k, MayB c) ∧ Hid (Below w.heap.size w wr)) (fun _ i _ => cs.length - (intOf i).toNat)
  case atStart => exact ⟨0, 0, none, 0, Nat.zero_le _, rfl, rfl, hide (by simp [encs]), hide (OwnK.nil _ _), hide (by simp), hide (Below.refl _ _)⟩
  case round =>
    obtain ⟨k, N, q', cap', hk, rfl, rfl, HN, HO, HM, HB⟩ := hrel
    by_cases hlt : k < cs.length
    · obtain ⟨x, hx, _⟩ := get_at hlt
      obtain ⟨b, off, hq, hb, c0, c1, c2⟩ := changeAt (h.below (unhide HB)) hx
      subst hq
      have HT := hide (take_snoc_of hx)
      have HX := hide (List.mem_of_getElem? hx)
      have ki0 : (0 : Int) ≤ (k : Int) := by omega
      have ki1 : (k : Int) < (cs.length : Int) := by omega
      have hsB := (unhide HB).size
      have hb1 : Below wr.heap.size wr (wr.alloc (.cells #[.int .i64 x.kind, .int .i64 x.id, .string x.text] 63)) := (Below.refl _ _).alloc (Nat.le_refl _) _
      have hblk := heap_alloc_new wr (.cells #[.int .i64 x.kind, .int .i64 x.id, .string x.text] 63)
      have hm1 := hm x (wr.alloc (.cells #[.int .i64 x.kind, .int .i64 x.id, .string x.text] 63))
      have hcl : ∀ W : World, W.heap[wr.heap.size]? = some (.cells #[.int .i64 x.kind, .int .i64 x.id, .string x.text] 63 (0, 0)) → W.cell? ⟨wr.heap.size, 0, none⟩ = some (.int .i64 x.kind) ∧ W.cell? ⟨wr.heap.size, 1, none⟩ = some (.int .i64 x.id) ∧ W.cell? ⟨wr.heap.size, 2, none⟩ = some (.string x.text) := fun W h => by
        refine ⟨?_, ?_, ?_⟩ <;> (unfold World.cell?; rw [h]; rfl)
      have hnl := encs_len (cs.take k) (unhide HM)
      have hnl2 : (cs.take k).length ≤ k := List.length_take_le _ _
      by_cases hmay : MayB x
      · have hol := one_lenR x hmay
        have hw1 := hw x hmay
        rw [decide_eq_true hmay] at hm1
        have hN := unhide HN
        have hNb : N + (oneB x).length ≤ 50000000000000 := by omega
        have HB1 := hide hb1
        have HBLK := hide hblk
        have HM2 := hide (show ∀ c ∈ cs.take (k + 1), MayB c by
          rw [unhide HT]; intro c hc
          rcases List.mem_append.1 hc with h | h
          · exact unhide HM c h
          · obtain rfl : c = x := by simpa using h
            exact hmay)
        have hfd := fun (d : Value) (W : World) => field52 (.int .i64 x.kind) (.int .i64 x.id) (.string x.text) d W
        clear h hm hw hb1 hblk hnl hnl2 hN
        go_wp2_with (first
          | (go_at_call 68; refine hm1.mono ?_; rintro e w1 ⟨rfl, b1⟩; obtain ⟨d0, d1, d2⟩ := hcl w1 ((b1.block _ (by simp)).trans (unhide HBLK)); have B1 := hide (below_sub (unhide HB1) b1); clear b1)
          | (go_at_call 69; refine (hw1 _).mono ?_; rintro e w2 ⟨⟨q2, c2', rfl, o2⟩, b2⟩; have O2 := hide o2; have B2 := hide (below_sub (unhide B1) b2); clear o2 b2)
          | (at_builtin; refine wpList_app rowB rfl _ _ rfl w.heap.size q' cap' (encs (cs.take k)) q2 c2' (oneB x) N (oneB x).length (N + (oneB x).length) (unhide HN).symm rfl rfl rfl rfl ((unhide HO).below (unhide B2)) (unhide O2).ls.src (by unfold maxLen; omega) (by omega) (by have := (unhide B2).size; omega) ?_; intro q3 c3 w3 o3 b3 _ _; have O3 := hide o3; have B3 := hide ((unhide HB).trans (((unhide B2).mono hsB).trans b3)); clear o3 b3))
        go_roundw
        case rel => exact ⟨k + 1, N + (oneB x).length, q3, c3, by omega, by go_num, rfl, hide (by rw [unhide HT, encs_snoc, List.length_append, ← unhide HN]), hide (by rw [unhide HT, encs_snoc]; exact unhide O3), HM2, B3⟩
        case measure => simp [intOf]; omega
      · rw [decide_eq_false hmay] at hm1
        have HB1 := hide hb1
        have HNM := hide hmay
        clear h hm hw hb1 hblk hcl hnl hnl2 hmay
        go_wp2_with (go_at_call 68; refine hm1.mono ?_; rintro e w1 ⟨rfl, b1⟩; have B1 := hide (below_sub (unhide HB1) b1); clear b1)
        refine bodyPost_ret (v := .tuple #[.slice none 0 0, .int .i64 1]) (by simp [results, Tryz.f35, go_sem]) rfl ?_
        exact ⟨.inr ⟨fun hall => unhide HNM (hall x (unhide HX)), rfl⟩, (unhide HB).trans ((unhide B1).mono hsB)⟩
    · obtain rfl : k = cs.length := by omega
      have ki1 : ¬ (cs.length : Int) < (cs.length : Int) := by omega
      clear h hm hw
      go_wp2
      refine bodyPost_ret (v := .tuple #[.slice q' N cap', .int .i64 0]) (by simp [results, Tryz.f35, go_sem]) rfl ?_
      have h1 := unhide HN
      have h2 := unhide HO
      have h3 := unhide HM
      rw [List.take_length] at h1 h2 h3
      exact ⟨.inl ⟨h3, q', cap', by rw [h1], h2⟩, unhide HB⟩
end Go.Proofs.YtfigjfmldpfjkaaGreat
namespace Go.Proofs.YtfigjfmldpfjkaaGreat
open Go.RowKit Go.Sort

theorem grown_drew (w : World) (r : Option Nat) : w.grownBy w.drew r := ⟨rfl, rfl, rfl, Nat.le_refl _, fun _ _ _ => rfl⟩
theorem grown_below {w w' : World} (h : Below w.heap.size w w') (r : Option Nat) : w.grownBy w' r := ⟨h.os, h.tape, h.output, h.size, fun k hk _ => h.block k hk⟩
theorem below_grown {w w' : World} {B g : Nat} (h : w.grownBy w' (some g)) (hB : B ≤ g) (hs : B ≤ w.heap.size) : Below B w w' :=
  ⟨h.os, h.tape, h.output, h.size, fun k hk => h.block k (by omega) (by intro e; cases e; omega)⟩

/-- The reader at block g goes through the bytes l, which lie at q; it stands at a, and is torn or not. -/
def Rd (w : World) (g : Nat) (q : Option Addr) (cap : Nat) (l : List UInt8) (a : Nat) (t : Bool) : Prop :=
  w.heap[g]? = some (.cells #[.slice q l.length cap, .int .i64 (a : Int), .bool t] 150 (0, 0)) ∧ SlOf encB 1 w q cap l ∧ a ≤ l.length
theorem Rd.cells {w : World} {g : Nat} {q : Option Addr} {cap : Nat} {l : List UInt8} {a : Nat} {t : Bool} (h : Rd w g q cap l a t) : w.cell? ⟨g, 0, none⟩ = some (.slice q l.length cap) ∧ w.cell? ⟨g, 1, none⟩ = some (.int .i64 (a : Int)) ∧ w.cell? ⟨g, 2, none⟩ = some (.bool t) := by
  refine ⟨?_, ?_, ?_⟩ <;> (unfold World.cell?; rw [h.1]; rfl)
theorem Rd.free {w : World} {g : Nat} {q : Option Addr} {cap : Nat} {l : List UInt8} {a : Nat} {t : Bool} (h : Rd w g q cap l a t) (o : Nat) : w.frozen? ⟨g, o, none⟩ = false := frozen_free h.1
theorem Rd.lt {w : World} {g : Nat} {q : Option Addr} {cap : Nat} {l : List UInt8} {a : Nat} {t : Bool} (h : Rd w g q cap l a t) : g < w.heap.size := (Array.getElem?_eq_some_iff.1 h.1).1
theorem Rd.off {w : World} {g : Nat} {q : Option Addr} {cap : Nat} {l : List UInt8} {a : Nat} {t : Bool} (h : Rd w g q cap l a t) {b off : Nat} (hl : 0 < l.length) (hq : q = some ⟨b, off, none⟩) : b ≠ g := by
  rintro rfl
  obtain ⟨x, hx, _⟩ := get_at hl
  obtain ⟨b', off', hq', _, hc⟩ := byteAt h.2.1 hx
  rw [hq] at hq'
  injection hq' with hq'
  injection hq' with h1 h2
  subst h1 h2
  have : (#[Value.slice q l.length cap, .int .i64 (a : Int), .bool t] : Array Value)[off]? = some (.int .u8 (x.toNat : Int)) := by
    have h2 := hc
    unfold World.cell? at h2; rw [h.1] at h2; simpa using h2
  rcases off with _ | _ | _ | off <;> simp at this
theorem Rd.keep {w w' : World} {g : Nat} {q : Option Addr} {cap : Nat} {l : List UInt8} {a : Nat} {t : Bool} (h : Rd w g q cap l a t) (hg : w.grownBy w' (some g)) : SlOf encB 1 w' q cap l := by
  refine ⟨h.2.1.1, h.2.1.2.1, h.2.1.2.2.1, fun hl => ?_⟩
  obtain ⟨b, off, hq, hb, hA⟩ := h.2.1.2.2.2 hl
  have hne := h.off hl hq
  refine ⟨b, off, hq, Nat.lt_of_lt_of_le hb hg.size, fun j u hj => ?_⟩
  have hblk := hg.block b hb (fun e => hne (by injection e with e))
  have hc : w'.cell? ⟨b, off + j, none⟩ = w.cell? ⟨b, off + j, none⟩ := by unfold World.cell?; simp only [hblk]
  exact hc.trans (hA j u hj)
theorem Rd.turn {w w' : World} {g : Nat} {q : Option Addr} {cap : Nat} {l : List UInt8} {a a' : Nat} {t t' : Bool} (h : Rd w g q cap l a t) (hg : w.grownBy w' (some g)) (hb : w'.heap[g]? = some (.cells #[.slice q l.length cap, .int .i64 (a' : Int), .bool t'] 150 (0, 0))) (ha : a' ≤ l.length) : Rd w' g q cap l a' t' := ⟨hb, h.keep hg, ha⟩
theorem Rd.below {w w' : World} {g : Nat} {q : Option Addr} {cap : Nat} {l : List UInt8} {a : Nat} {t : Bool} (h : Rd w g q cap l a t) (hb : Below w.heap.size w w') : Rd w' g q cap l a t := ⟨(hb.block g h.lt).trans h.1, h.2.1.below hb, h.2.2⟩
theorem Rd.setT {w : World} {g : Nat} {q : Option Addr} {cap : Nat} {l : List UInt8} {a : Nat} {t : Bool} (h : Rd w g q cap l a t) (t' : Bool) : Rd (w.setCell ⟨g, 2, none⟩ (.bool t')) g q cap l a t' := by
  refine h.turn (grown_set _ _ _ _) ?_ h.2.2
  rw [heap_setCell_same w g 2 _ 150 _ h.1]; rfl
theorem Rd.setA {w : World} {g : Nat} {q : Option Addr} {cap : Nat} {l : List UInt8} {a : Nat} {t : Bool} (h : Rd w g q cap l a t) (a' : Nat) (ha : a' ≤ l.length) : Rd (w.setCell ⟨g, 1, none⟩ (.int .i64 (a' : Int))) g q cap l a' t := by
  refine h.turn (grown_set _ _ _ _) ?_ ha
  rw [heap_setCell_same w g 1 _ 150 _ h.1]; rfl

set_option maxHeartbeats 1000000 in
theorem need_any (g : Nat) (q : Option Addr) (cap : Nat) (l : List UInt8) (a : Nat) (t ok : Bool) (w : World) (h : Rd w g q cap l a t) :
    Calls Tryz.prog 121 #[.pointer (some ⟨g, 0, none⟩), .bool ok] w fun e w' => (∃ v, e = .returned v) ∧ Rd w' g q cap l a (t || !ok) ∧ w.grownBy w' (some g) := by
  obtain ⟨c0, c1, c2⟩ := h.cells
  have f2 := h.free 2
  have H := hide h
  clear h
  cases t
  · cases ok
    · go_enter Tryz.func121, Tryz.ntmps121
      go_wp2
      go_end0
      exact ⟨⟨_, rfl⟩, (unhide H).setT true, grown_set _ _ _ _⟩
    · go_enter Tryz.func121, Tryz.ntmps121
      go_wp2
      go_end0
      exact ⟨⟨_, rfl⟩, (unhide H).setT false, grown_set _ _ _ _⟩
  · go_enter Tryz.func121, Tryz.ntmps121
    go_wp2
    go_end0
    exact ⟨⟨_, rfl⟩, (unhide H).setT true, grown_set _ _ _ _⟩
/-- Where what is behind lies. -/
def cutA (q : Option Addr) (cap a : Nat) : Option Addr := if cap = a then q else Option.map (fun x => x.add a) q
theorem cutA_same (q : Option Addr) (a : Nat) : cutA q a a = q := if_pos rfl
theorem cutA_ne (q : Option Addr) {cap a : Nat} (h : ¬ cap = a) : cutA q cap a = Option.map (fun x => x.add a) q := if_neg h
set_option maxHeartbeats 1000000 in
theorem ahead_any (g : Nat) (q : Option Addr) (cap : Nat) (l : List UInt8) (a : Nat) (t : Bool) (w : World) (h : Rd w g q cap l a t) :
    Calls Tryz.prog 123 #[.pointer (some ⟨g, 0, none⟩)] w fun e w' => e = .returned (.slice q a cap) ∧ w' = w.drew := by
  obtain ⟨c0, c1, c2⟩ := h.cells
  have h1 : (a : Int) ≤ (cap : Int) := by have := h.2.2; have := h.2.1.2.1; omega
  have h2 : a ≤ cap := by omega
  clear h
  go_enter Tryz.func123, Tryz.ntmps123
  go_wp2
  go_region_held3 (fun w' => w'.cell? ⟨g, 0, none⟩ = some (.slice q l.length cap) ∧ w'.cell? ⟨g, 1, none⟩ = some (.int .i64 (a : Int))) (go_keep) (fail)
  all_goals
    go_wp2
    go_ret
    exact ⟨rfl, rfl⟩
set_option maxHeartbeats 1000000 in
theorem behind_any (g : Nat) (q : Option Addr) (cap : Nat) (l : List UInt8) (a : Nat) (t : Bool) (w : World) (h : Rd w g q cap l a t) :
    Calls Tryz.prog 141 #[.pointer (some ⟨g, 0, none⟩)] w fun e w' => e = .returned (.slice (cutA q cap a) (l.length - a) (cap - a)) ∧ w' = w.drew := by
  obtain ⟨c0, c1, c2⟩ := h.cells
  have h0 : (a : Int) ≤ (l.length : Int) := by have := h.2.2; omega
  have h1 : (l.length : Int) ≤ (cap : Int) := by have := h.2.1.2.1; omega
  have h2 : a ≤ cap := by omega
  clear h
  go_enter Tryz.func141, Tryz.ntmps141
  go_wp2
  go_region_held3 (fun w' => w'.cell? ⟨g, 0, none⟩ = some (.slice q l.length cap) ∧ w'.cell? ⟨g, 1, none⟩ = some (.int .i64 (a : Int))) (go_keep) (fail)
  all_goals go_wp2
  all_goals go_ret
  all_goals first | exact ⟨by rw [show cutA q a a = q from cutA_same q a]; rfl, rfl⟩ | exact ⟨by rw [cutA_ne q (by assumption)]; rfl, rfl⟩
/-- What is behind, and its beginning. -/
theorem cut_sl {w : World} {q : Option Addr} {cap : Nat} {l : List UInt8} (h : SlOf encB 1 w q cap l) (a n : Nat) (han : a + n ≤ l.length) : SlOf encB 1 w (cutA q cap a) (cap - a) ((l.drop a).take n) := by
  have hlen : ((l.drop a).take n).length = n := by simp; omega
  refine ⟨fun hq => ?_, by have := h.2.1; omega, by have := h.2.2.1; omega, fun hp => ?_⟩
  · have hq0 : q = none := by
      unfold cutA at hq
      split at hq
      · exact hq
      · simpa using hq
    have := h.1 hq0
    omega
  · obtain ⟨b, off, hq, hb, hA⟩ := h.2.2.2 (by omega)
    have hne : ¬ cap = a := by have := h.2.1; omega
    refine ⟨b, off + a, by rw [cutA_ne q hne, hq]; exact congrArg some (add_plain b off a), hb, fun j u hj => ?_⟩
    rw [flatB] at hj
    have hjl : j < n := by have := (List.getElem?_eq_some_iff.1 hj).1; simp at this; omega
    have h2 := hA (a + j) u (by
      rw [flatB, List.getElem?_map]
      rw [List.getElem?_map, List.getElem?_take_of_lt hjl, List.getElem?_drop] at hj
      exact hj)
    rw [← Nat.add_assoc] at h2
    exact h2
end Go.Proofs.YtfigjfmldpfjkaaGreat
namespace Go.Proofs.YtfigjfmldpfjkaaGreat
open Go.RowKit Go.Sort

theorem Rd.drew {w : World} {g : Nat} {q : Option Addr} {cap : Nat} {l : List UInt8} {a : Nat} {t : Bool} (h : Rd w g q cap l a t) : Rd w.drew g q cap l a t := h
set_option maxHeartbeats 1000000 in
theorem take_yes (g : Nat) (q : Option Addr) (cap : Nat) (l : List UInt8) (a n : Nat) (w : World) (h : Rd w g q cap l a false) (hl : l.length ≤ 1000000000000000) (hn : a + n ≤ l.length) :
    Calls Tryz.prog 125 #[.pointer (some ⟨g, 0, none⟩), .int .i64 (n : Int)] w fun e w' => e = .returned (.slice (cutA q cap a) n (cap - a)) ∧ Rd w' g q cap l (a + n) false ∧ w.grownBy w' (some g) := by
  have hcap := h.2.1.2.1
  have hb := behind_any g q cap l a false
  have hnd := fun (W : World) (H : Rd W g q cap l a false) => need_any g q cap l a false true W H
  obtain ⟨m, hm⟩ : ∃ m, l.length - a = m := ⟨_, rfl⟩
  obtain ⟨cp, hcp⟩ : ∃ cp, cap - a = cp := ⟨_, rfl⟩
  rw [hm, hcp] at hb
  rw [hcp]
  have hnm : (n : Int) ≤ (m : Int) := by omega
  have hnc : (n : Int) ≤ (cp : Int) := by omega
  have hw1 : IntKind.i64.wrap ((a : Int) + (n : Int)) = ((a + n : Nat) : Int) := by
    rw [show (a : Int) + (n : Int) = ((a + n : Nat) : Int) by omega]; exact wrap_nat _ (by omega)
  have H := hide h
  have HN := hide hn
  clear h hm hcp hcap
  go_enter Tryz.func125, Tryz.ntmps125
  go_wp2_with (first
    | (go_at_call 141; have tst := unhide H2; clear tst; refine (hb _ (unhide H2)).mono ?_; rintro e w3 ⟨rfl, rfl⟩)
    | (go_at_call 141; refine (hb _ (unhide H)).mono ?_; rintro e w1 ⟨rfl, rfl⟩)
    | (go_at_call 121; refine (hnd _ (unhide H).drew).mono ?_; rintro e w2 ⟨⟨v2, rfl⟩, r2, g2⟩; obtain ⟨d0, d1, d2⟩ := r2.cells; have f1 := r2.free 1; have H2 := hide r2; have G2 := hide (grown_trans (grown_drew w (some g)) g2); clear r2 g2))
  go_ret
  exact ⟨rfl, (unhide H2).drew.setA (a + n) (unhide HN), grown_trans (unhide G2) (grown_trans (grown_drew _ _) (grown_set _ _ _ _))⟩
set_option maxHeartbeats 1000000 in
theorem take_no (g : Nat) (q : Option Addr) (cap : Nat) (l : List UInt8) (a : Nat) (t : Bool) (n : Nat) (w : World) (h : Rd w g q cap l a t) (hn : ¬ (t = false ∧ a + n ≤ l.length)) :
    Calls Tryz.prog 125 #[.pointer (some ⟨g, 0, none⟩), .int .i64 (n : Int)] w fun e w' => e = .returned (.slice none 0 0) ∧ Rd w' g q cap l a true ∧ w.grownBy w' (some g) := by
  have hal := h.2.2
  have hb := behind_any g q cap l a t
  obtain ⟨m, hm⟩ : ∃ m, l.length - a = m := ⟨_, rfl⟩
  rw [hm] at hb
  obtain ⟨ok, hok⟩ : ∃ ok, decide ((n : Int) ≤ (m : Int)) = ok := ⟨_, rfl⟩
  have hok2 : decide (n ≤ m) = ok := by rw [← hok]; exact decide_eq_decide.2 (by omega)
  have hor : (t || !ok) = true := by
    cases t
    · have : ¬ n ≤ m := fun h1 => hn ⟨rfl, by omega⟩
      rw [← hok2, decide_eq_false this]; rfl
    · rfl
  have hnd := fun (W : World) (H : Rd W g q cap l a t) => need_any g q cap l a t ok W H
  rw [hor] at hnd
  have H := hide h
  clear h hm hn hor hal
  go_enter Tryz.func125, Tryz.ntmps125
  go_wp2_with (first
    | (go_at_call 141; refine (hb _ (unhide H)).mono ?_; rintro e w1 ⟨rfl, rfl⟩)
    | (go_at_call 121; refine (hnd _ (unhide H).drew).mono ?_; rintro e w2 ⟨⟨v2, rfl⟩, r2, g2⟩; obtain ⟨d0, d1, d2⟩ := r2.cells; have f1 := r2.free 1; have H2 := hide r2; have G2 := hide (grown_trans (grown_drew w (some g)) g2); clear r2 g2))
  go_ret
  exact ⟨rfl, unhide H2, unhide G2⟩
/-- A byte is read: the byte, where the reader stands then, whether it is torn. -/
def st1 (l : List UInt8) (a : Nat) (t : Bool) : UInt8 × Nat × Bool := match t, l[a]? with
  | false, some x => (x, a + 1, false)
  | _, _ => (0, a, true)
theorem st1_yes {l : List UInt8} {a : Nat} {x : UInt8} (h : l[a]? = some x) : st1 l a false = (x, a + 1, false) := by unfold st1; rw [h]
theorem st1_torn (l : List UInt8) (a : Nat) : st1 l a true = (0, a, true) := rfl
theorem st1_end {l : List UInt8} {a : Nat} (t : Bool) (h : l.length ≤ a) : st1 l a t = (0, a, true) := by
  cases t
  · unfold st1; rw [List.getElem?_eq_none h]
  · rfl
set_option maxHeartbeats 1000000 in
theorem one_any (g : Nat) (q : Option Addr) (cap : Nat) (l : List UInt8) (a : Nat) (t : Bool) (w : World) (h : Rd w g q cap l a t) (hl : l.length ≤ 1000000000000000) :
    Calls Tryz.prog 122 #[.pointer (some ⟨g, 0, none⟩)] w fun e w' => e = .returned (.int .u8 ((st1 l a t).1.toNat : Int)) ∧ Rd w' g q cap l (st1 l a t).2.1 (st1 l a t).2.2 ∧ w.grownBy w' (some g) := by
  have H := hide h
  by_cases hc : t = false ∧ a + 1 ≤ l.length
  · obtain ⟨rfl, hlt⟩ := hc
    obtain ⟨x, hx, _⟩ := get_at (show a < l.length by omega)
    rw [st1_yes hx]
    have ht := take_yes g q cap l a 1 w h hl hlt
    have hcs := fun (W : World) (hW : Rd W g q cap l (a + 1) false) => byteAt (cut_sl hW.2.1 a 1 hlt) (j := 0) (x := x) (by rw [List.getElem?_take_of_lt (by omega), List.getElem?_drop]; exact hx)
    obtain ⟨cp, hcp⟩ : ∃ cp, cap - a = cp := ⟨_, rfl⟩
    rw [hcp] at ht
    obtain ⟨Z, hZ⟩ : ∃ Z, cutA q cap a = Z := ⟨_, rfl⟩
    rw [hZ] at ht hcs
    clear h hZ hcp hx
    go_enter Tryz.func122, Tryz.ntmps122
    go_wp2_with (go_at_call 125; refine ht.mono ?_; rintro e w1 ⟨rfl, r1, g1⟩; obtain ⟨d0, d1, d2⟩ := r1.cells; obtain ⟨b, off, rfl, _, y0⟩ := hcs _ r1; rw [Nat.add_zero] at y0; have H1 := hide r1; have G1 := hide g1; clear r1 g1)
    go_ret
    exact ⟨rfl, unhide H1, unhide G1⟩
  · have he : st1 l a t = (0, a, true) := by
      cases t
      · exact st1_end _ (by have : ¬ a + 1 ≤ l.length := fun h => hc ⟨rfl, h⟩
                            omega)
      · rfl
    rw [he]
    have ht := take_no g q cap l a t 1 w h hc
    clear h hc he
    go_enter Tryz.func122, Tryz.ntmps122
    go_wp2_with (go_at_call 125; refine ht.mono ?_; rintro e w1 ⟨rfl, r1, g1⟩; obtain ⟨d0, d1, d2⟩ := r1.cells; have H1 := hide r1; have G1 := hide g1; clear r1 g1)
    go_ret
    exact ⟨rfl, unhide H1, unhide G1⟩
set_option maxHeartbeats 1000000 in
theorem mark_any (g : Nat) (q : Option Addr) (cap : Nat) (l : List UInt8) (a : Nat) (t : Bool) (y : UInt8) (w : World) (h : Rd w g q cap l a t) (hl : l.length ≤ 1000000000000000) :
    Calls Tryz.prog 107 #[.pointer (some ⟨g, 0, none⟩), .int .u8 (y.toNat : Int)] w fun e w' => (∃ v, e = .returned v) ∧ Rd w' g q cap l (st1 l a t).2.1 ((st1 l a t).2.2 || !(((st1 l a t).1.toNat : Int) == (y.toNat : Int))) ∧ w.grownBy w' (some g) := by
  have h1 := one_any g q cap l a t w h hl
  clear h
  generalize st1 l a t = s at h1 ⊢
  obtain ⟨x, a', t'⟩ := s
  simp only at h1 ⊢
  have hnd := fun (W : World) (H : Rd W g q cap l a' t') => need_any g q cap l a' t' ((x.toNat : Int) == (y.toNat : Int)) W H
  generalize hok : ((x.toNat : Int) == (y.toNat : Int)) = ok at hnd ⊢
  go_enter Tryz.func107, Tryz.ntmps107
  go_wp2_with (first
    | (go_at_call 122; refine h1.mono ?_; rintro e w1 ⟨rfl, r1, g1⟩; have H1 := hide r1; have G1 := hide g1; clear r1 g1)
    | (go_at_call 121; refine (hnd _ (unhide H1)).mono ?_; rintro e w2 ⟨⟨v2, rfl⟩, r2, g2⟩; have H2 := hide r2; have G2 := hide (grown_trans (unhide G1) g2); clear r2 g2))
  go_end0
  exact ⟨⟨_, rfl⟩, unhide H2, unhide G2⟩
end Go.Proofs.YtfigjfmldpfjkaaGreat

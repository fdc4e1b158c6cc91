/- The calls whose answers the document fixes. -/
import Derived.Test.YtalicnifjgcldaaDecQ
import Derived.Lib.SmallJoins
namespace Go.Proofs.Ytalicnifjgcldaa
open Go.RowKit Go.Sort Go.Shelf

def cX : Ch := ⟨3, 300, ⟨#[]⟩⟩
theorem mayX : MayB cX := ⟨⟨by decide, by decide⟩, .inr ⟨rfl, rfl⟩⟩
theorem vint300 : vint 300 = [172, 2] := by rw [vint_ge (by omega), vint_lt (by omega)]; rfl
theorem bodyX : bodyB cX = [3, 172, 2] := by
  show UInt8.ofNat 3 :: (vint 300 ++ []) = _
  rw [vint300]; rfl
theorem oneX : ∃ r, oneB cX = 67 :: 3 :: 3 :: 172 :: 2 :: r ∧ r.length = 4 := by
  unfold oneB recB
  rw [bodyX, show ([3, 172, 2] : List UInt8).length = 3 from rfl, vint_lt (by omega : 3 < 128)]
  rw [show (67 : UInt8) :: ([UInt8.ofNat 3] ++ [3, 172, 2]) = [67, 3, 3, 172, 2] from rfl]
  unfold sealB
  generalize sumB [67, 3, 3, 172, 2] = S
  exact ⟨four S, rfl, four_len _⟩
theorem one9 : (oneB cX).length = 9 := by obtain ⟨r, hr, hr4⟩ := oneX; rw [hr]; simp [hr4]
theorem encsX : encs [cX] = oneB cX := by simp [encs]
theorem headX : (headB 1).length = 6 := by unfold headB; rw [seal_len, vint_lt (by omega)]; rfl
theorem sumX : sumB [49, 50, 51, 52, 53, 54, 55, 56, 57] = 3421780262 := by decide +kernel
theorem scanX : ∀ l, l = headB 1 ++ oneB cX → headOk l = true ∧ (headV l).1 = 1 ∧ (sealS l (headV l).2.1 (headV l).2.2).1 = 6 ∧ scanL (l.length + 1) (l.drop 6) = ([cX], 9) := by
  intro l hl
  obtain ⟨h1, h2, h3⟩ := head_read (n := 1) (by omega) (by omega) hl
  rw [headX] at h3
  obtain ⟨r, hr, hr4⟩ := oneX
  have h9 : (oneB cX).length = 9 := by rw [hr]; simp [hr4]
  refine ⟨h1, h2, h3, ?_⟩
  have hd : l.drop 6 = oneB cX := by rw [← headX]; exact drop_pre hl
  have hll : l.length = 15 := by rw [hl]; simp [headX, h9]
  rw [hd, hll, scanL_some (decS_read mayX (r := []) (by simp)), h9]
  rw [show (oneB cX).drop 9 = [] from List.drop_of_length_le (by omega), scanL_none decS_nil]
  rfl
theorem srcC1 (w : World) : SlOf encC 3 (w.alloc (.cells #[.int .i64 3, .int .i64 300, .string ⟨#[]⟩] 32)) (some ⟨w.heap.size, 0, none⟩) 1 [cX] := by
  refine ⟨(fun h => by cases h), Nat.le_refl _, by unfold maxLen; omega, LsOf.one (by simp) fun j hj => ?_⟩
  rw [cellA]
  have hm : j = 0 ∨ j = 1 ∨ j = 2 := by omega
  rcases hm with e | e | e <;> rw [e] <;> rfl
theorem ownX {w : World} {B : Nat} {q : Option Addr} {c : Nat} (h : OwnK encB 5 1 B w q c (oneB cX)) : ∃ b off, q = some ⟨b, off, none⟩ ∧ w.cell? ⟨b, off, none⟩ = some (.int .u8 67) ∧ w.cell? ⟨b, off + 3, none⟩ = some (.int .u8 172) := by
  obtain ⟨r, hr, _⟩ := oneX
  obtain ⟨b, off, hq, _, h0⟩ := byteAt h.ls (j := 0) (x := 67) (by rw [hr]; rfl)
  obtain ⟨b', off', hq', _, h3⟩ := byteAt h.ls (j := 3) (x := 172) (by rw [hr]; rfl)
  rw [hq] at hq'
  injection hq' with hq'
  injection hq' with e1 e2
  subst e1 e2
  exact ⟨b, off, hq, h0, h3⟩
/-- Bytes in a new block, marked. -/
theorem slM (w : World) (m : List UInt8) (fr : Nat × Nat) (hm : m.length ≤ maxLen) : SlOf encB 1 (w.alloc (.cells (m.map bv).toArray 5 fr)) (some ⟨w.heap.size, 0, none⟩) m.length m := by
  refine ⟨(fun h => by cases h), Nat.le_refl _, hm, fun _ => ⟨w.heap.size, 0, rfl, by simp, fun j u hj => ?_⟩⟩
  have h := heap_alloc_new w (.cells (m.map bv).toArray 5 fr)
  unfold World.cell?
  simp only [h]
  rw [flatB] at hj
  rw [Nat.zero_add]
  simpa using hj
theorem sumXX (w : World) : Calls Try.prog 20 #[.slice (some ⟨w.heap.size + 1 + 1, 0, none⟩) 2 2] (((w.alloc (.cells #[.int .u8 49, .int .u8 50, .int .u8 51, .int .u8 52] 5 (4, 5))).alloc (.cells #[.int .u8 53, .int .u8 54, .int .u8 55, .int .u8 56, .int .u8 57] 5 (5, 6))).alloc (.cells #[.slice (some ⟨w.heap.size, 0, none⟩) 4 4, .slice (some ⟨w.heap.size + 1, 0, none⟩) 5 5] 24)) fun e w' => e = .returned (.int .u32 3421780262) ∧ Below w.heap.size w w' := by
  obtain ⟨X1, h1⟩ : ∃ X1, w.alloc (.cells #[.int .u8 49, .int .u8 50, .int .u8 51, .int .u8 52] 5 (4, 5)) = X1 := ⟨_, rfl⟩
  obtain ⟨X2, h2⟩ : ∃ X2, X1.alloc (.cells #[.int .u8 53, .int .u8 54, .int .u8 55, .int .u8 56, .int .u8 57] 5 (5, 6)) = X2 := ⟨_, rfl⟩
  obtain ⟨X3, h3⟩ : ∃ X3, X2.alloc (.cells #[.slice (some ⟨w.heap.size, 0, none⟩) 4 4, .slice (some ⟨w.heap.size + 1, 0, none⟩) 5 5] 24) = X3 := ⟨_, rfl⟩
  have s1 : X1.heap.size = w.heap.size + 1 := by rw [← h1]; simp
  have s2 : X2.heap.size = w.heap.size + 1 + 1 := by rw [← h2]; simp [s1]
  have b1 : Below w.heap.size w X1 := by rw [← h1]; exact (Below.refl _ _).alloc (Nat.le_refl _) _
  have b2 : Below X1.heap.size X1 X2 := by rw [← h2]; exact (Below.refl _ _).alloc (Nat.le_refl _) _
  have b3 : Below X2.heap.size X2 X3 := by rw [← h3]; exact (Below.refl _ _).alloc (Nat.le_refl _) _
  have q1 : SlOf encB 1 X1 (some ⟨w.heap.size, 0, none⟩) 4 [49, 50, 51, 52] := by rw [← h1]; exact slM w [49, 50, 51, 52] (4, 5) (by decide)
  have q2 : SlOf encB 1 X2 (some ⟨w.heap.size + 1, 0, none⟩) 5 [53, 54, 55, 56, 57] := by
    rw [← s1, ← h2]; exact slM X1 [53, 54, 55, 56, 57] (5, 6) (by decide)
  have q3 : SlOf encQ 1 X3 (some ⟨w.heap.size + 1 + 1, 0, none⟩) 2 [(some ⟨w.heap.size, 0, none⟩, 4, [49, 50, 51, 52]), (some ⟨w.heap.size + 1, 0, none⟩, 5, [53, 54, 55, 56, 57])] := by
    refine ⟨(fun h => by cases h), Nat.le_refl _, by unfold maxLen; omega, fun _ => ⟨w.heap.size + 1 + 1, 0, rfl, by rw [← h3]; simp [s2], fun j u hj => ?_⟩⟩
    have hj2 : j < 2 := by have := (List.getElem?_eq_some_iff.1 hj).1; simpa [flatK] using this
    rw [← s2, ← h3, Nat.zero_add, cellA]
    have hm : j = 0 ∨ j = 1 := by omega
    rcases hm with e | e
    · subst e
      exact (flat_at (enc := encQ) (k := 1) (l := [((some ⟨w.heap.size, 0, none⟩, 4, [49, 50, 51, 52]) : Sl), (some ⟨w.heap.size + 1, 0, none⟩, 5, [53, 54, 55, 56, 57])]) (j := 0) rfl 0 (by omega)).symm.trans hj
    · subst e
      exact (flat_at (enc := encQ) (k := 1) (l := [((some ⟨w.heap.size, 0, none⟩, 4, [49, 50, 51, 52]) : Sl), (some ⟨w.heap.size + 1, 0, none⟩, 5, [53, 54, 55, 56, 57])]) (j := 1) rfl 0 (by omega)).symm.trans hj
  rw [h1, h2, h3]
  have h := sum_any (some ⟨w.heap.size + 1 + 1, 0, none⟩) 2 [(some ⟨w.heap.size, 0, none⟩, 4, [49, 50, 51, 52]), (some ⟨w.heap.size + 1, 0, none⟩, 5, [53, 54, 55, 56, 57])] X3 q3 (by simp) (fun x hx => by
    simp only [List.mem_cons, List.not_mem_nil, or_false] at hx
    rcases hx with rfl | rfl
    · exact ⟨(q1.below b2).below b3, by simp⟩
    · exact ⟨q2.below b3, by simp⟩)
  rw [show allB [((some ⟨w.heap.size, 0, none⟩, 4, [49, 50, 51, 52]) : Sl), (some ⟨w.heap.size + 1, 0, none⟩, 5, [53, 54, 55, 56, 57])] = [49, 50, 51, 52, 53, 54, 55, 56, 57] from rfl, sumX] at h
  exact h.mono (by rintro e w' ⟨rfl, rfl⟩; exact ⟨rfl, below_sub b1 (below_sub b2 b3)⟩)
theorem decX (q : Option Addr) (c : Nat) (w : World) (h : SlOf encB 1 w q c (oneB cX)) : Calls Try.prog 22 #[.slice q 9 c] w fun e w' => e = .returned (.tuple #[.agg #[.int .i64 3, .int .i64 300, .string ⟨#[]⟩], .int .i64 9, .int .i64 0]) ∧ Below w.heap.size w w' := by
  obtain ⟨r, hr, hr4⟩ := oneX
  have h9 : (oneB cX).length = 9 := by rw [hr]; simp [hr4]
  have hd := decode_any q c (oneB cX) w h (by omega)
  rw [DecV_some (decS_read mayX (r := []) (by simp)), h9] at hd
  exact hd
theorem scX (q : Option Addr) (c : Nat) (w : World) (h : SlOf encB 1 w q c (headB 1 ++ oneB cX)) : Calls Try.prog 24 #[.slice q 15 c] w fun e w' => (∃ q' c', e = .returned (.tuple #[.int .i64 1, .slice q' 1 c', .int .i64 15, .int .i64 0])) ∧ Below w.heap.size w w' := by
  obtain ⟨r, hr, hr4⟩ := oneX
  have h9 : (oneB cX).length = 9 := by rw [hr]; simp [hr4]
  have hll : (headB 1 ++ oneB cX).length = 15 := by simp [headX, h9]
  obtain ⟨s1, s2, s3, s4⟩ := scanX _ rfl
  have hs := scan_any q c (headB 1 ++ oneB cX) w h (by omega)
  rw [hll] at hs
  refine hs.mono ?_
  rintro e w' ⟨hR, hB⟩
  refine ⟨?_, hB⟩
  rcases hR with ⟨hn, _⟩ | ⟨_, q', c', a, ha, he, _⟩
  · rw [s1] at hn; cases hn
  · rw [s3] at ha
    subst ha
    rw [s2, s4] at he
    exact ⟨q', c', he⟩
theorem afterX (w3 : World) :
    OwnK encB 5 1 (w3.heap.size + 1) ((w3.alloc (.cells #[.int .i64 3, .int .i64 300, .string ⟨#[]⟩] 32)).alloc (.cells #[] 5)) (some ⟨w3.heap.size + 1, 0, none⟩) 0 ([] : List UInt8) ∧
    Below w3.heap.size w3 ((w3.alloc (.cells #[.int .i64 3, .int .i64 300, .string ⟨#[]⟩] 32)).alloc (.cells #[] 5)) ∧
    ((w3.alloc (.cells #[.int .i64 3, .int .i64 300, .string ⟨#[]⟩] 32)).alloc (.cells #[] 5)).heap[w3.heap.size]? = some (.cells #[.int .i64 3, .int .i64 300, .string ⟨#[]⟩] 32 (0, 0)) := by
  obtain ⟨Y, hY⟩ : ∃ Y, w3.alloc (.cells #[.int .i64 3, .int .i64 300, .string ⟨#[]⟩] 32) = Y := ⟨_, rfl⟩
  have hs : Y.heap.size = w3.heap.size + 1 := by rw [← hY]; simp
  have hb : Below w3.heap.size w3 Y := by rw [← hY]; exact (Below.refl _ _).alloc (Nat.le_refl _) _
  have hk : Y.heap[w3.heap.size]? = some (.cells #[.int .i64 3, .int .i64 300, .string ⟨#[]⟩] 32 (0, 0)) := by rw [← hY]; exact heap_alloc_new _ _
  have hb2 : Below Y.heap.size Y (Y.alloc (.cells #[] 5)) := (Below.refl _ _).alloc (Nat.le_refl _) _
  rw [hY]
  have hm := OwnK.made (enc := encB) (k := 1) (e := 5) Y.heap.size Y (Nat.le_refl _)
  rw [hs] at hm
  exact ⟨hm, below_sub hb hb2, (hb2.block _ (by omega)).trans hk⟩
set_option maxRecDepth 100000 in
set_option maxHeartbeats 1000000 in
theorem fixed_any (w : World) : Calls Try.prog 9 #[] w fun e w' => e = .returned (.bool true) ∧ Below w.heap.size w w' := by
  have he := encode_any (some ⟨w.heap.size, 0, none⟩) 1 [cX] _ (srcC1 w) (by simp)
  have hb0 : Below w.heap.size w (w.alloc (.cells #[.int .i64 3, .int .i64 300, .string ⟨#[]⟩] 32)) := (Below.refl _ _).alloc (Nat.le_refl _) _
  have he2 : Calls Try.prog 10 #[.slice (some ⟨w.heap.size, 0, none⟩) 1 1] (w.alloc (.cells #[.int .i64 3, .int .i64 300, .string ⟨#[]⟩] 32)) fun e w' => (∃ q cap, e = .returned (.tuple #[.slice q 9 cap, .int .i64 0]) ∧ OwnK encB 5 1 w.heap.size w' q cap (oneB cX)) ∧ Below w.heap.size w w' := he.mono (by
    rintro e w' ⟨hE, hB⟩
    have hB2 := below_sub hb0 hB
    rcases hE with ⟨_, q, cap, rfl, ho⟩ | ⟨hn, _⟩
    · obtain ⟨r, hr, hr4⟩ := oneX
      rw [encsX] at ho ⊢
      have h9 : (oneB cX).length = 9 := by rw [hr]; simp [hr4]
      rw [h9]
      exact ⟨⟨q, cap, rfl, ho.mono (by simp)⟩, hB2⟩
    · exact absurd (fun c hc => by obtain rfl : c = cX := by simpa using hc
                                   exact mayX) hn)
  have hh := fun W : World => head_yes 1 (by omega) (by omega) W
  rw [headX] at hh
  clear he
  have hmy := fun W : World => may_any cX W
  rw [decide_eq_true mayX] at hmy
  go_enter Try.func9, Try.ntmps9
  go_wp2_with (first
    | (go_at_call 10; refine he2.mono ?_; rintro e w1 ⟨⟨q1, c1, rfl, o1⟩, b1⟩; have O1 := hide o1; have B1 := hide b1; clear o1 b1)
    | (go_at_call 12; refine (hh _).mono ?_; rintro e w2 ⟨⟨q2, c2, rfl, o2⟩, b2⟩; have O2 := hide o2; have p2 := (unhide O1).below b2; obtain ⟨b, off, rfl, y0, y3⟩ := ownX p2; have P2 := hide p2; have B2 := hide ((unhide B1).trans (b2.mono (unhide B1).size)); clear o2 b2 p2)
    | (go_at_call 22; refine (decX _ _ _ (unhide P2).ls).mono ?_; rintro e w3 ⟨rfl, b3⟩; have A3 := hide (afterX w3); have O3 := hide ((unhide O2).below b3); have P3 := hide ((unhide P2).below b3); have B3 := hide ((unhide B2).trans (b3.mono (unhide B2).size)); clear b3)
    | (at_builtin; refine wpList_app rowB rfl (.tmp 57) (.tmp 58) rfl (w3.heap.size + 1) (some ⟨w3.heap.size + 1, 0, none⟩) 0 [] q2 c2 (headB 1) 0 6 6 rfl headX rfl rfl rfl (unhide A3).1 ((unhide O3).ls.below (unhide A3).2.1).src (by unfold maxLen; omega) (by omega) (by simp) ?_; intro q4 c4 w4 o4 b4 _ _; have O4 := hide o4; have B4 := hide ((unhide A3).2.1.trans (b4.mono (by omega))); have K4 := hide ((b4.block w3.heap.size (by omega)).trans (unhide A3).2.2); have S4 := hide (show w3.heap.size + 1 ≤ w4.heap.size by have h := b4.size; simp at h; omega); clear o4 b4)
    | (at_builtin; refine wpList_app rowB rfl (.tmp 59) (.tmp 60) rfl (w3.heap.size + 1) q4 c4 ([] ++ headB 1) (some ⟨b, off, none⟩) c1 (oneB cX) 6 9 15 headX one9 rfl rfl rfl (unhide O4) ((unhide P3).ls.below (unhide B4)).src (by unfold maxLen; omega) (by omega) (unhide S4) ?_; intro q5 c5 w5 o5 b5 _ _; have O5 := hide o5; have B5 := hide ((unhide B4).trans (b5.mono (by omega))); have K5 := hide ((b5.block w3.heap.size (by omega)).trans (unhide K4)); have S5 := hide (Nat.le_trans (unhide S4) b5.size); clear o5 b5)
    | (go_at_call 24; refine (scX q5 c5 w5 (unhide O5).ls).mono ?_; rintro e w6 ⟨⟨q6, c6, rfl⟩, b6⟩; have b6' := (unhide B5).trans (b6.mono (unhide B5).size); have hk6 := (b6.block w3.heap.size (unhide S5)).trans (unhide K5); have S6 := hide (Nat.le_trans (unhide S5) b6.size); obtain ⟨⟨d0, d1, d2⟩, _⟩ := cells3 hk6; have hcv1 := _root_.Go.Joins.run_convert_bytes_const_at w6 24 5 #[.int .u8 49, .int .u8 50, .int .u8 51, .int .u8 52] 4 4 w6.heap.size rfl Try.underlying24 Try.underlying5; have hcv2 := _root_.Go.Joins.run_convert_bytes_const_at (w6.alloc (.cells #[.int .u8 49, .int .u8 50, .int .u8 51, .int .u8 52] 5 (4, 5))) 24 5 #[.int .u8 53, .int .u8 54, .int .u8 55, .int .u8 56, .int .u8 57] 5 5 (w6.heap.size + 1) (by simp) Try.underlying24 Try.underlying5; have B6 := hide b6'; have K6 := hide hk6; clear b6 b6' hk6)
    | (go_at_call 20; refine (sumXX w6).mono ?_; rintro e w7 ⟨rfl, b7⟩; obtain ⟨⟨e0, e1, e2⟩, _⟩ := cells3 ((b7.block w3.heap.size (unhide S6)).trans (unhide K6)); have B7 := hide ((unhide B6).trans (b7.mono (unhide B6).size)); clear b7)
    | (go_at_call 15; refine (hmy _).mono ?_; rintro e w8 ⟨rfl, b8⟩; have B8 := hide ((unhide B7).trans (b8.mono (unhide B7).size)); clear b8))
  go_ret
  exact ⟨rfl, (unhide B3).trans ((unhide B8).mono (unhide B3).size)⟩
end Go.Proofs.Ytalicnifjgcldaa

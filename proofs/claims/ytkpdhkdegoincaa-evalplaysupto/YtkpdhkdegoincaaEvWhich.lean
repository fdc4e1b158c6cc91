/- What eval.Which returns, and the helpers of the laws of layer 6. -/
import Derived.Test.YtkpdhkdegoincaaEvEval
import Derived.Test.YtkpdhkdegoincaaJoin
namespace Go.Proofs.Ytkpdhkdegoincaa
open Go.RowKit Go.Sort

/-- The places of the true ones. -/
def whc (ev : List Pr) : Nat → List Nd → List Int
  | _, [] => []
  | k, x :: xs => if evalN ev x then (k : Int) :: whc ev (k + 1) xs else whc ev (k + 1) xs
theorem whc_app (ev : List Pr) (a b : List Nd) : ∀ n, whc ev n (a ++ b) = whc ev n a ++ whc ev (n + a.length) b := by
  induction a with
  | nil => intro n; simp [whc]
  | cons x a ih => intro n; simp only [List.cons_append, whc, ih, List.length_cons]; split <;> simp [Nat.add_assoc, Nat.add_comm 1]
theorem whc_yes {ev : List Pr} {l : List Nd} {k : Nat} {x : Nd} (h : l[k]? = some x) (hx : evalN ev x = true) : whc ev 0 (l.take (k + 1)) = whc ev 0 (l.take k) ++ [(k : Int)] := by
  have hk : k < l.length := (List.getElem?_eq_some_iff.1 h).1
  rw [take_snoc_of h, whc_app]; simp [whc, hx]; omega
theorem whc_no {ev : List Pr} {l : List Nd} {k : Nat} {x : Nd} (h : l[k]? = some x) (hx : evalN ev x = false) : whc ev 0 (l.take (k + 1)) = whc ev 0 (l.take k) := by
  rw [take_snoc_of h, whc_app]; simp [whc, hx]
theorem whc_len (ev : List Pr) (l : List Nd) : ∀ n, (whc ev n l).length ≤ l.length := by
  induction l with
  | nil => intro n; simp [whc]
  | cons x l ih => intro n; simp only [whc]; split <;> simp <;> have := ih (n + 1) <;> omega
theorem int_src {w : World} {M : Nat} {x : Int} (h : w.heap[M]? = some (.cells #[.int .i64 x] 3 (0, 0))) : SrcK encI 1 w (some ⟨M, 0, none⟩) 1 [x] :=
  ⟨(fun h => by cases h), fun ad had j u hj => by
    cases had
    rw [add_plain, Nat.zero_add, Lib.cell_of_heap h]
    have hj0 : j = 0 := by
      have := (List.getElem?_eq_some_iff.1 hj).1
      simp [flatK] at this
      omega
    subst hj0
    have := flat_at (enc := encI) (k := 1) (l := [x]) (j := 0) rfl 0 (by decide)
    rw [Nat.zero_mul, Nat.zero_add] at this
    rw [this] at hj
    exact hj⟩
set_option maxRecDepth 100000 in
set_option maxHeartbeats 2000000 in
theorem which_any (ev : List Pr) (qe : Option Addr) (ce : Nat) (q : Option Addr) (c : Nat) (kids : List Nd) (w : World) (he : SlOf encP 4 w qe ce ev) (h : NdsOf w q c kids) (hwt : wtL kids ≤ 1000000000) (l3 : ev.length ≤ 100000000000000) :
    Calls Try.prog 13 #[.slice qe ev.length ce, .slice q kids.length c] w fun e w' => (∃ q' c', e = .returned (.slice q' (whc ev 0 kids).length c') ∧ OwnK encI 3 1 w.heap.size w' q' c' (whc ev 0 kids)) ∧ Below w.heap.size w w' := by
  have HA := hide h
  have HE := hide he
  have hlen := Nat.le_trans (Nat.le_trans (len_size kids) (sizeL_wt kids)) hwt
  have HWT := hide hwt
  have a0 : (kids.length : Int) ≤ 1000000000 := by omega
  clear h he hwt
  go_enter Try.func13, Try.ntmps13
  go_wp2
  go_loopw [5, 10] (fun s i wr => ∃ k : Nat, k ≤ kids.length ∧ i = .int .i64 k ∧ Below w.heap.size w wr ∧ ∃ q' c' n, s = .slice q' n c' ∧ (whc ev 0 (kids.take k)).length = n ∧ OwnK encI 3 1 w.heap.size wr q' c' (whc ev 0 (kids.take k))) (fun _ i _ => kids.length - (intOf i).toNat)
  case atStart => exact ⟨0, by omega, rfl, Below.refl _ _, none, 0, 0, rfl, rfl, OwnK.nil _ _⟩
  case round =>
    obtain ⟨k, hk, rfl, hbel, q', c', n, rfl, hn, hown⟩ := hrel
    have hnk : n ≤ k := by
      have h1 := whc_len ev (kids.take k) 0
      have h2 := List.length_take_le k kids
      omega
    have HO := hide hown
    have HN := hide hn
    clear hown hn
    by_cases hlt : k < kids.length
    · obtain ⟨x, hx, hd⟩ := get_at hlt
      clear hd
      obtain ⟨bb, off, v, hq0, hin, g0, g1, g2, g3, g4, g5, g6, g7⟩ := (unhide HA).on hx hbel
      subst hq0
      have hxm : x ∈ kids := List.mem_of_getElem? hx
      have ki0 : (0 : Int) ≤ (k : Int) := by omega
      have ki1 : (k : Int) < (kids.length : Int) := by omega
      have hT := fun (W : World) (hb : Below wr.heap.size wr W) => eval_any x v qe ce ev W (hin.keep hb) ((unhide HE).below (below_sub hbel hb)) (Nat.le_trans (wtL_mem hxm) (unhide HWT)) l3
      simp only [Nv.val] at hT
      have Hx := hide hx
      have HB := hide hbel
      clear hx hxm hin hbel
      cases hq : evalN ev x with
      | true =>
        rw [hq] at hT
        have HY := hide (whc_yes (unhide Hx) hq)
        go_wp2_with (first
          | (go_at_call 8; refine (hT _ ((Below.refl _ _).alloc (Nat.le_refl _) _)).mono ?_; rintro e w1 ⟨rfl, b1⟩; have B1 := hide (below_sub ((Below.refl wr.heap.size wr).alloc (Nat.le_refl _) _) b1); clear b1)
          | (at_builtin; refine wpList_app rowI rfl _ _ rfl w.heap.size q' c' (whc ev 0 (kids.take k)) (some ⟨w1.heap.size, 0, none⟩) 1 [(k : Int)] n 1 (n + 1) (unhide HN) rfl rfl rfl rfl ((unhide HO).below (below_sub (unhide B1) ((Below.refl _ _).alloc (Nat.le_refl _) _))) (int_src (box_nw _ _)) (by unfold maxLen; omega) (by omega) (by simp; have := (unhide HB).size; have := (unhide B1).size; omega) ?_; intro q2 c2 w2 hown2 hb2 _ hg2))
        go_roundw
        case rel => exact ⟨k + 1, by omega, by go_num, ((below_sub (unhide HB) (unhide B1)).alloc (below_sub (unhide HB) (unhide B1)).size _).trans hb2, q2, c2, n + 1, rfl, by rw [unhide HY]; simp [unhide HN], by rw [unhide HY]; exact hown2⟩
        case measure => simp [intOf]; omega
      | false =>
        rw [hq] at hT
        have HY := hide (whc_no (unhide Hx) hq)
        go_wp2_with (go_at_call 8; refine (hT _ ((Below.refl _ _).alloc (Nat.le_refl _) _)).mono ?_; rintro e w1 ⟨rfl, b1⟩; have B1 := hide (below_sub ((Below.refl wr.heap.size wr).alloc (Nat.le_refl _) _) b1); clear b1)
        go_roundw
        case rel => exact ⟨k + 1, by omega, by go_num, below_sub (unhide HB) (unhide B1), q', c', n, rfl, by rw [unhide HY]; exact unhide HN, by rw [unhide HY]; exact (unhide HO).below (unhide B1)⟩
        case measure => simp [intOf]; omega
    · have ki1 : ¬ (k : Int) < (kids.length : Int) := by omega
      have HZ := hide (List.take_of_length_le (l := kids) (i := k) (by omega))
      go_wp2
      go_ret
      have hn := unhide HN
      have ho := unhide HO
      rw [unhide HZ] at hn ho
      exact ⟨⟨q', c', by rw [hn]; rfl, ho⟩, hbel⟩
end Go.Proofs.Ytkpdhkdegoincaa

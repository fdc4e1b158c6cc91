/- post.Merge. -/
import Derived.Test.YtelgpmjafaopmaaDrop
namespace Go.Proofs.Ytelgpmjafaopmaa
open Go.RowKit Go.Sort Go.Shelf

/-- A slice of lists: their boxes, and what each holds. -/
def Lsts (w : World) (q : Option Addr) (bs : List (Nat × List Pt)) : Prop := ∀ (j : Nat) (x : Nat × List Pt), bs[j]? = some x → ∃ b off, q = some ⟨b, off, none⟩ ∧ b < w.heap.size ∧ w.cell? ⟨b, off + j, none⟩ = some (.pointer (some ⟨x.1, 0, none⟩)) ∧ ∃ ql capl, x.1 < w.heap.size ∧ w.cell? ⟨x.1, 0, none⟩ = some (.slice ql x.2.length capl) ∧ SlOf encP 2 w ql capl x.2
theorem Lsts.below {w w' : World} {q : Option Addr} {bs : List (Nat × List Pt)} (h : Lsts w q bs) (hb : Below w.heap.size w w') : Lsts w' q bs := fun j x hj => by
  obtain ⟨b, off, hq, hbl, c0, ql, capl, hx, c1, hs⟩ := h j x hj
  exact ⟨b, off, hq, Nat.lt_of_lt_of_le hbl hb.size, (hb.cell (p := ⟨b, off + j, none⟩) hbl).trans c0, ql, capl, Nat.lt_of_lt_of_le hx hb.size, (hb.cell (p := ⟨x.1, 0, none⟩) hx).trans c1, hs.below hb⟩
def allOf (bs : List (Nat × List Pt)) : List Pt := (bs.map (·.2)).flatten
theorem allOf_snoc {bs : List (Nat × List Pt)} {k : Nat} {x : Nat × List Pt} (h : bs[k]? = some x) : allOf (bs.take (k + 1)) = allOf (bs.take k) ++ x.2 := by
  unfold allOf; rw [take_snoc_of h, List.map_append, List.flatten_append]; simp
theorem allOf_le (bs : List (Nat × List Pt)) (k : Nat) : (allOf (bs.take k)).length ≤ (allOf bs).length := by
  have h := List.take_append_drop k bs
  have e : allOf bs = allOf (bs.take k) ++ allOf (bs.drop k) := by unfold allOf; rw [← List.flatten_append, ← List.map_append, h]
  rw [e, List.length_append]; omega
set_option maxHeartbeats 2000000 in
set_option maxRecDepth 100000 in
theorem mergeL (q : Option Addr) (c : Nat) (bs : List (Nat × List Pt)) (w : World) (h : Lsts w q bs) (hn : bs.length ≤ 100000000000000) (hb : (allOf bs).length * 16 ≤ 140737488355328) :
    Calls Try.prog 15 #[.slice q bs.length c] w fun e w' => (∃ q' cap', e = .returned (.slice q' (ris (allOf bs)).length cap') ∧ OwnK encP 43 2 w.heap.size w' q' cap' (ris (allOf bs))) ∧ Below w.heap.size w w' := by
  have n0 : (bs.length : Int) ≤ 100000000000000 := by omega
  have HL := hide h
  clear h
  go_enter Try.func15, Try.ntmps15
  go_wp2
  go_loopw [3, 8] (fun s i wr => ∃ (k : Nat) (q1 : Option Addr) (cap1 : Nat), k ≤ bs.length ∧ i = .int .i64 k ∧ s = .slice q1 (allOf (bs.take k)).length cap1 ∧ OwnK encP 43 2 w.heap.size wr q1 cap1 (allOf (bs.take k)) ∧ Below w.heap.size w wr) (fun _ i _ => bs.length - (intOf i).toNat)
  case atStart => exact ⟨0, none, 0, Nat.zero_le _, rfl, rfl, OwnK.nil _ _, Below.refl _ _⟩
  case round =>
    obtain ⟨k, q1, cap1, hk, rfl, rfl, ho, hbw⟩ := hrel
    have HO := hide ho
    have HB := hide hbw
    have hsz := hbw.size
    by_cases hlt : k < bs.length
    · obtain ⟨x, hx, _⟩ := get_at hlt
      obtain ⟨b, off, hq, hbl, c0, ql, capl, hxl, c1, hs⟩ := ((unhide HL).below hbw) k x hx
      have ki0 : (0 : Int) ≤ (k : Int) := by omega
      have ki1 : (k : Int) < (bs.length : Int) := by omega
      have HX := hide (allOf_snoc hx)
      have HS := hide hs
      have hle := allOf_le bs (k + 1)
      rw [unhide HX, List.length_append] at hle
      obtain ⟨n2, hn2⟩ : ∃ n2, (allOf (bs.take k)).length = n2 := ⟨_, rfl⟩
      have HN2 := hide hn2
      rw [hn2] at hle ⊢
      subst hq
      clear hx ho hbw hs hn2
      go_wp2_with (at_builtin; refine wpList_app rowP rfl _ _ rfl w.heap.size q1 cap1 (allOf (bs.take k)) ql capl x.2 n2 x.2.length (n2 + x.2.length) (unhide HN2) rfl rfl rfl rfl (unhide HO) (unhide HS).src (by unfold maxLen; omega) (by omega) (by omega) ?_; intro q2 cap2 w2 ho2 hb2 _ _; have HO2 := hide ho2; have HB2 := hide hb2; clear ho2 hb2)
      go_roundw
      case rel => exact ⟨k + 1, q2, cap2, by omega, by go_num, by rw [unhide HX, List.length_append, unhide HN2], by rw [unhide HX]; exact unhide HO2, (unhide HB).trans (unhide HB2)⟩
      case measure => simp [intOf]; omega
    · obtain rfl : k = bs.length := by omega
      have ki1 : ¬ (bs.length : Int) < (bs.length : Int) := by omega
      rw [List.take_length] at HO ⊢
      have hri := risingP q1 cap1 (allOf bs) hb wr (unhide HO).ls
      clear ho hbw
      go_wp2_with (go_at_call 24; refine hri.mono ?_; rintro e w2 ⟨⟨q2, cap2, rfl, ho2⟩, hb2⟩; have HO2 := hide ho2; have HB2 := hide hb2; clear ho2 hb2)
      go_ret
      exact ⟨⟨q2, cap2, rfl, (unhide HO2).mono hsz⟩, (unhide HB).trans ((unhide HB2).mono hsz)⟩
end Go.Proofs.Ytelgpmjafaopmaa

/- post.without. -/
import Derived.Test.YtelgpmjafaopmaaSortI
import Derived.Test.YtelgpmjafaopmaaCursor2
namespace Go.Proofs.Ytelgpmjafaopmaa
open Go.RowKit Go.Sort Go.Shelf

/-- The posts with none of the IDs. -/
def wo (l : List Pt) (ids : List Int) : List Pt := l.filter fun x => !decide (x.1 ∈ ids)
theorem str_wo {l : List Pt} (h : Str l) (ids : List Int) : Str (wo l ids) := h.sub List.filter_sublist
theorem wo_len (l : List Pt) (ids : List Int) : (wo l ids).length ≤ l.length := List.length_filter_le _ _
theorem wo_take {l : List Pt} {k : Nat} {x : Pt} {ids : List Int} (hx : l[k]? = some x) : wo (l.take (k + 1)) ids = if x.1 ∈ ids then wo (l.take k) ids else wo (l.take k) ids ++ [x] := by
  unfold wo
  rw [take_snoc_of hx, List.filter_append]
  by_cases h : x.1 ∈ ids
  · simp [h]
  · simp [h]
theorem wo_perm (l : List Pt) {a b : List Int} (h : a.Perm b) : wo l a = wo l b := by
  unfold wo
  congr 1
  funext x
  rw [decide_eq_decide.2 (h.mem_iff (a := x.1))]
theorem wo_take_len (l : List Pt) (ids : List Int) (k : Nat) : (wo (l.take k) ids).length ≤ k := Nat.le_trans (wo_len _ _) (by rw [List.length_take]; omega)
theorem srcP {w : World} {b : Nat} {x : Pt} (h : w.heap[b]? = some (.cells #[.int .i64 x.1, .bool x.2] 43 (0, 0))) : SrcK encP 2 w (some ⟨b, 0, none⟩) 1 [x] := by
  refine ⟨(fun h => by cases h), fun ad hq j u hj => ?_⟩
  cases hq
  rw [flat_oneP] at hj
  exact news_blk h j u hj
set_option maxHeartbeats 2000000 in
set_option maxRecDepth 100000 in
theorem withoutP (p : Option Addr) (c : Nat) (l : List Pt) (pi : Option Addr) (ci : Nat) (ids : List Int) (w : World) (hs : SlOf encP 2 w p c l) (hi : SlOf encI 1 w pi ci ids) (hw : WkI ids) (hl : l.length * 16 ≤ 140737488355328) (hil : ids.length ≤ 100000000000000) :
    Calls Try.prog 39 #[.slice p l.length c, .slice pi ids.length ci] w fun e w' => (∃ q cap, e = .returned (.slice q (wo l ids).length cap) ∧ OwnK encP 43 2 w.heap.size w' q cap (wo l ids)) ∧ Below w.heap.size w w' := by
  have l1 : (l.length : Int) ≤ 100000000000000 := by omega
  have HS := hide hs
  have HI := hide hi
  have HW := hide hw
  clear hs hi hw
  go_enter Try.func39, Try.ntmps39
  go_wp2
  go_loopw [5, 12] (fun s i wr => ∃ (k : Nat) (q : Option Addr) (cap : Nat), k ≤ l.length ∧ i = .int .i64 k ∧ s = .slice q (wo (l.take k) ids).length cap ∧ OwnK encP 43 2 w.heap.size wr q cap (wo (l.take k) ids) ∧ Below w.heap.size w wr) (fun _ i _ => l.length - (intOf i).toNat)
  case atStart => exact ⟨0, none, 0, Nat.zero_le _, rfl, rfl, OwnK.nil _ _, Below.refl _ _⟩
  case round =>
    obtain ⟨k, q, cap, hk, rfl, rfl, ho, hb⟩ := hrel
    have HO := hide ho
    have HB := hide hb
    have hsz := hb.size
    by_cases hlt : k < l.length
    · obtain ⟨x, hx, _⟩ := get_at hlt
      obtain ⟨b, off, hq, hbs, c0, c1⟩ := postAt ((unhide HS).below hb) hx
      have ki0 : (0 : Int) ≤ (k : Int) := by omega
      have ki1 : (k : Int) < (l.length : Int) := by omega
      obtain ⟨W1, hW1⟩ : ∃ W1, W1 = wr.alloc (.cells #[.int .i64 x.1, .bool x.2] 43) := ⟨_, rfl⟩
      have hb1 : Below wr.heap.size wr W1 := by rw [hW1]; exact (Below.refl _ _).alloc (Nat.le_refl _) _
      have hblk : W1.heap[wr.heap.size]? = some (.cells #[.int .i64 x.1, .bool x.2] 43 (0, 0)) := by rw [hW1]; exact World.alloc_heap_new wr _
      obtain ⟨x0, x1⟩ := cells_of_block hblk
      have hsr := searchI pi ci ids x.1 W1 (((unhide HI).below hb).below hb1) hil (unhide HW)
      have HTL := hide (wo_take_len l ids k)
      subst hq
      by_cases hm : x.1 ∈ ids
      · have HX := hide (show wo (l.take (k + 1)) ids = wo (l.take k) ids by rw [wo_take hx, if_pos hm])
        rw [decide_eq_true hm] at hsr
        rw [hW1] at hsr
        have HB1 := hide (hW1 ▸ hb1)
        clear hx ho hb hblk hm x0 x1 hb1 hW1
        go_wp2_with (go_at_call 50; refine hsr.mono ?_; rintro e w1 ⟨⟨n, rfl⟩, rfl⟩)
        go_roundw
        case rel => exact ⟨k + 1, q, cap, by omega, by go_num, by rw [unhide HX], by rw [unhide HX]; exact (unhide HO).below (unhide HB1), (unhide HB).trans ((unhide HB1).mono hsz)⟩
        case measure => simp [intOf]; omega
      · have HX := hide (show wo (l.take (k + 1)) ids = wo (l.take k) ids ++ [x] by rw [wo_take hx, if_neg hm])
        rw [decide_eq_false hm] at hsr
        rw [hW1] at hsr x0 x1
        have HB1 := hide (hW1 ▸ hb1)
        clear hx ho hb hblk hm hb1 hW1
        go_wp2_with (first
          | (go_at_call 50; refine hsr.mono ?_; rintro e w1 ⟨⟨n, rfl⟩, rfl⟩)
          | (at_builtin; refine wpList_app rowP rfl _ _ rfl w.heap.size q cap (wo (l.take k) ids) (some ⟨wr.heap.size + 1, 0, none⟩) 1 [x] (wo (l.take k) ids).length 1 ((wo (l.take k) ids).length + 1) rfl rfl rfl rfl rfl (((unhide HO).below (unhide HB1)).below ((Below.refl _ _).alloc (Nat.le_refl _) _)) (srcP (by have := World.alloc_heap_new (wr.alloc (.cells #[.int .i64 x.1, .bool x.2] 43)) (.cells #[.int .i64 x.1, .bool x.2] 43); rwa [World.size_alloc] at this)) (by have := unhide HTL; unfold maxLen; omega) (by have := unhide HTL; omega) (by simp; omega) ?_; intro q2 cap2 w2 ho2 hb2 _ _; have HO2 := hide ho2; have HB2 := hide hb2; clear ho2 hb2))
        go_roundw
        case rel => exact ⟨k + 1, q2, cap2, by omega, by go_num, by rw [unhide HX, List.length_append]; rfl, by rw [unhide HX]; exact unhide HO2, ((unhide HB).trans (((unhide HB1).mono hsz).alloc (by simp; omega) _)).trans (unhide HB2)⟩
        case measure => simp [intOf]; omega
    · obtain rfl : k = l.length := by omega
      rw [List.take_length] at HO
      have ki1 : ¬ (l.length : Int) < (l.length : Int) := by omega
      have e1 : l.take l.length = l := List.take_length
      have HL := hide (show (wo (l.take l.length) ids).length = (wo l ids).length by rw [e1])
      rw [e1]
      clear ho hb e1
      go_wp2
      go_ret
      exact ⟨⟨q, cap, rfl, unhide HO⟩, unhide HB⟩
end Go.Proofs.Ytelgpmjafaopmaa

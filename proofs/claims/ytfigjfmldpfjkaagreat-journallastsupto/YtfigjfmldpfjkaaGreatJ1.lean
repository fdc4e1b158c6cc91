/- slices.Contains of names; journal.has. -/
import Derived.Test.YtfigjfmldpfjkaaGreatJm
namespace Go.Proofs.YtfigjfmldpfjkaaGreat
open Go.RowKit Go.Sort Go.Shelf

theorem bne_list {a b : ByteArray} (h : a ≠ b) : (a.toList == b.toList) = false := beq_eq_false_iff_ne.2 fun e => h (ba_extR e)
set_option maxHeartbeats 1000000 in
set_option maxRecDepth 100000 in
theorem index_any (q : Option Addr) (c : Nat) (l : List ByteArray) (nm : ByteArray) (w : World) (h : SlOf encS 1 w q c l) (hl : l.length ≤ 1000000000) :
    Calls Tryz.prog 105 #[.slice q l.length c, .string nm] w fun e w' => (∃ v : Int, e = .returned (.int .i64 v) ∧ (0 ≤ v ↔ nm ∈ l)) ∧ w' = w := by
  go_enter Tryz.func105, Tryz.ntmps105
  go_wp2
  go_loopw [8] (fun i wr => ∃ k : Nat, k ≤ l.length ∧ i = .int .i64 (k : Int) ∧ Hid (nm ∉ l.take k) ∧ wr = w) (fun i _ => l.length - (intOf i).toNat)
  case atStart => exact ⟨0, Nat.zero_le _, rfl, hide (by simp), rfl⟩
  case round =>
    obtain ⟨j, hj, rfl, HA, hw⟩ := hrel
    obtain rfl := hw.symm
    by_cases hlt : j < l.length
    · obtain ⟨x, hx, _⟩ := get_at hlt
      obtain ⟨b, off, hq, hb, cx⟩ := strAt h hx
      subst hq
      have ki0 : (0 : Int) ≤ (j : Int) := by omega
      have ki1 : (j : Int) < (l.length : Int) := by omega
      have HT := hide (take_snoc_of hx)
      have HX := hide (List.mem_of_getElem? hx)
      by_cases hok : nm = x
      · subst hok
        clear h hx
        go_wp2
        go_ret
        exact ⟨⟨(j : Int), rfl, ⟨fun _ => unhide HX, fun _ => by omega⟩⟩, rfl⟩
      · have heq := bne_list hok
        have HO := hide hok
        clear h hx hok
        go_wp2
        go_roundw
        case rel => exact ⟨j + 1, by omega, by go_num, hide (by rw [unhide HT]; intro hy; rcases List.mem_append.1 hy with h | h; exact unhide HA h; exact unhide HO (by simpa using h)), trivial⟩
        case measure => simp [intOf]; omega
    · obtain rfl : j = l.length := by omega
      have ki1 : ¬ (l.length : Int) < (l.length : Int) := by omega
      clear h
      go_wp2
      go_ret
      have h9 := unhide HA
      rw [List.take_length] at h9
      exact ⟨⟨-1, rfl, ⟨fun h => by omega, fun h => absurd h h9⟩⟩, rfl⟩
theorem contains_any (q : Option Addr) (c : Nat) (l : List ByteArray) (nm : ByteArray) (w : World) (h : SlOf encS 1 w q c l) (hl : l.length ≤ 1000000000) :
    Calls Tryz.prog 81 #[.slice q l.length c, .string nm] w fun e w' => (∃ b : Bool, e = .returned (.bool b) ∧ (b = true ↔ nm ∈ l)) ∧ w' = w := by
  have hi := index_any q c l nm w h hl
  clear h
  go_enter Tryz.func81, Tryz.ntmps81
  go_wp2_with (go_at_call 105; refine hi.mono ?_; rintro e w1 ⟨⟨v, rfl, hv⟩, hw1⟩; obtain rfl := hw1.symm; have HV := hide hv; clear hv)
  go_ret
  exact ⟨⟨_, rfl, by simpa using unhide HV⟩, rfl⟩
theorem has_any {B : Nat → Prop} {w : World} {g : Nat} {s : JS} (hd : JAt B w g s) (ha : s.acts ≤ 100000000) (ho : s.off = false) (nm : ByteArray) :
    Calls Tryz.prog 42 #[.pointer (some ⟨g, 0, none⟩), .string nm] w fun e w' => e = .returned (.bool (s.get nm).isSome) ∧ Below w.heap.size w w' := by
  obtain ⟨n, hn, hd⟩ := hd
  have hn0 := off_nat ho
  have hna := names_any hd (by show n ≤ _; omega) ho
  have hco := fun (q : Option Addr) (c : Nat) (l : List ByteArray) (W : World) (h : SlOf encS 1 W q c l) (hl : l.length ≤ 1000000000) => contains_any q c l nm W h hl
  have hnn : (s.dk n).n ≤ 1000000000 := by show n ≤ _; omega
  have HNN := hide hnn
  clear hd hnn
  go_enter Tryz.func42, Tryz.ntmps42
  go_wp2_with (first
    | (go_at_call 82; refine hna.mono ?_; rintro e w1 ⟨⟨q1, c1, l, rfl, o1, n1, l1⟩, b1⟩; have O1 := hide o1; have N1 := hide n1; have L1 := hide l1; have B1 := hide b1; clear o1 n1 l1 b1)
    | (go_at_call 81; refine (hco q1 c1 l w1 (unhide O1).ls (Nat.le_trans (unhide L1) (unhide HNN))).mono ?_; rintro e w2 ⟨⟨bb, rfl, hbb⟩, hw2⟩; obtain rfl := hw2.symm; have HBB := hide hbb; clear hbb))
  go_ret
  refine ⟨ret_bool ?_, unhide B1⟩
  have h9 := (unhide HBB).trans ((unhide N1).2 nm)
  exact Bool.eq_iff_iff.2 h9
end Go.Proofs.YtfigjfmldpfjkaaGreat

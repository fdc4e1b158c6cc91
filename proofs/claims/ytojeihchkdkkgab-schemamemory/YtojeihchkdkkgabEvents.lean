/- What Event returns of a schema, for every list of pairs: the walk. -/
import Derived.Test.YtojeihchkdkkgabEvent
namespace Go.Proofs.Ytojeihchkdkkgab
open Go.RowKit Go.Sort Go.Shelf

set_option maxHeartbeats 1000000 in
theorem allP_any (b : Nat) (al : List (ByteArray × Int)) (p : Option Addr) (cap : Nat) (l : List (ByteArray × Int × Int × ByteArray)) (w : World) (ha : al.length ≤ 140737488355328) (hm : l.length ≤ 140737488355328) (hS : SchAt w b al) (hA : PrsOf w p l) :
    Calls Try.prog 32 #[.slice p l.length cap, .func (.func 33) #[.pointer (some ⟨b, 0, none⟩)] #[]] w fun e w' => e = .returned (.bool (l.all (fitOk al))) ∧ Below w.heap.size w w' := by
  have HA := hide hA
  have HS := hide hS
  clear hA hS
  go_enter Try.func32, Try.ntmps32
  go_wp2
  go_loopw [9] (fun i wr => ∃ k : Nat, k ≤ l.length ∧ i = .int .i64 k ∧ Below w.heap.size w wr ∧ ∀ (j : Nat) (x : ByteArray × Int × Int × ByteArray), j < k → l[j]? = some x → fitOk al x = true) (fun i _ => l.length - (intOf i).toNat)
  case atStart => exact ⟨0, by omega, rfl, Below.refl _ _, fun j x h => by omega⟩
  case round =>
    obtain ⟨k, hk, rfl, hbel, hall⟩ := hrel
    have Hall := hide hall
    clear hall
    by_cases hlt : k < l.length
    · obtain ⟨bb, off, rfl, hbb, hAt⟩ := unhide HA (by omega)
      obtain ⟨x, hx, _⟩ := get_at hlt
      have ki0 : (0 : Int) ≤ (k : Int) := by omega
      have ki1 : (k : Int) < (l.length : Int) := by omega
      obtain ⟨g0, g1, g2, g3⟩ := hAt.below hbel hbb k x hx
      have Hx := hide hx
      clear hx
      have hf := fun (W : World) (hW : Below w.heap.size w W) => fits_any b al x W ha ((unhide HS).below hW)
      have hbn := hide (hbel.alloc hbel.size (.cells #[.string x.1, .int .i64 x.2.1, .int .i64 x.2.2.1, .string x.2.2.2] 52))
      cases ho : fitOk al x with
      | false =>
        have Hn := hide (all_no (unhide Hx) ho)
        rw [ho] at hf
        clear ho
        go_wp2_with (first | (go_at_call 33; refine (hf _ (unhide hbn)).mono ?_; rintro e w1 ⟨rfl, b1⟩))
        go_ret
        exact ⟨ret_bool (unhide Hn).symm, below_sub (unhide hbn) b1⟩
      | true =>
        have Ho := hide ho
        rw [ho] at hf
        clear ho
        go_wp2_with (first | (go_at_call 33; refine (hf _ (unhide hbn)).mono ?_; rintro e w1 ⟨rfl, b1⟩))
        go_roundw
        case rel => exact ⟨k + 1, by omega, by go_num, below_sub (unhide hbn) b1, fun j x' hj hx' => by
            by_cases e : j = k
            · subst e
              obtain rfl : x' = x := Option.some.inj (hx'.symm.trans (unhide Hx))
              exact unhide Ho
            · exact unhide Hall j x' (by omega) hx'⟩
        case measure => simp [intOf]; omega
    · obtain rfl : k = l.length := by omega
      have Hy := hide (all_yes (unhide Hall))
      go_wp2
      go_ret
      exact ⟨ret_bool (unhide Hy).symm, hbel⟩

/-- What Event returns. -/
def EventRes (B : Nat) (al : List (ByteArray × Int)) (p : Option Addr) (l : List (ByteArray × Int × Int × ByteArray)) (e : Ending) (w' : World) : Prop :=
  (¬ (l.all (fitOk al) = true ∧ (l.map nmP).Nodup) ∧ e = .returned (.tuple #[.slice none 0 0, .int .i64 12])) ∨
  (l.all (fitOk al) = true ∧ (l.map nmP).Nodup ∧ ∃ l' q cap, e = .returned (.tuple #[.slice q l'.length cap, .int .i64 0]) ∧ l'.Perm l ∧ Strict nmP l' ∧ NewP B w' q cap l' ∧ (q = none ↔ p = none))

set_option maxHeartbeats 1000000 in
theorem event_any (b : Nat) (al : List (ByteArray × Int)) (p : Option Addr) (cap : Nat) (l : List (ByteArray × Int × Int × ByteArray)) (w : World) (ha : al.length ≤ 140737488355328) (hl : l.length * 48 ≤ 140737488355328) (hS : SchAt w b al) (hp : p = none → l.length = 0 ∧ cap = 0) (hA : PrsOf w p l) :
    Calls Try.prog 13 #[.pointer (some ⟨b, 0, none⟩), .slice p l.length cap] w fun e w' => EventRes w.heap.size al p l e w' ∧ Below w.heap.size w w' := by
  have hal := allP_any b al p cap l w ha (by omega) hS hA
  cases ho : l.all (fitOk al) with
  | false =>
    rw [ho] at hal
    have Ho := hide ho
    clear ho hA hp hS
    go_enter Try.func13, Try.ntmps13
    go_wp2_with (first | (go_at_call 32; refine hal.mono ?_; rintro e w1 ⟨rfl, b1⟩))
    go_ret2
    exact ⟨Or.inl ⟨(fun h => by rw [unhide Ho] at h; cases h.1), rfl⟩, b1⟩
  | true =>
    rw [ho] at hal
    have Ho := hide ho
    have hri := fun (W : World) (hb : Below w.heap.size w W) => risingP_any p cap l W hl hp (hA.below hb)
    clear ho hA hp hS
    go_enter Try.func13, Try.ntmps13
    go_wp2_with (first
      | (go_at_call 32; refine hal.mono ?_; rintro e w1 ⟨rfl, b1⟩)
      | (go_at_call 34; refine (hri _ b1).mono ?_; rintro e w2 ⟨hres, b2⟩; rcases hres with ⟨l', q, cap', rfl, hperm, hstr, hN, hq⟩ | ⟨rfl, hno⟩))
    · have HN := hide hN
      have Hp := hide hperm
      have Hs := hide hstr
      have Hq := hide hq
      have hbb := hide (below_sub b1 b2)
      have hb1 := b1.size
      have hb2 := b2.size
      clear hN hperm hstr hri b1 b2 hq
      go_wp2
      go_ret2
      exact ⟨Or.inr ⟨unhide Ho, strict_nodup (unhide Hs) (unhide Hp), l', q, cap', rfl, unhide Hp, unhide Hs, (unhide HN).mono hb1, unhide Hq⟩, unhide hbb⟩
    · have Hn := hide hno
      have hbb := hide (below_sub b1 b2)
      clear hri b1 b2 hno
      go_wp2
      go_ret2
      exact ⟨Or.inl ⟨fun h => unhide Hn h.2, rfl⟩, unhide hbb⟩

theorem number_any (s : ByteArray) (n : Int) (w : World) :
    Calls Try.prog 26 #[.string s, .int .i64 n] w fun e w' => e = .returned (.agg #[.string s, .int .i64 1, .int .i64 n, .string ⟨#[]⟩]) ∧ Below w.heap.size w w' := by
  go_enter Try.func26, Try.ntmps26
  go_wp2
  exact bodyPost_ret (v := .agg #[.string s, .int .i64 1, .int .i64 n, .string ⟨#[]⟩]) (by simp [results, Try.results26, go_sem]) rfl ⟨rfl, (Below.refl _ _).alloc (Nat.le_refl _) _⟩
end Go.Proofs.Ytojeihchkdkkgab

/- What the reference's members, pred, Print and Text return, for every tree in form: what the program writes. -/
import Derived.Test.YtmdkdkcjgjknoaaDoorRefQuote
import Derived.Test.YtmdkdkcjgjknoaaDoorRefCheck
import Derived.Test.YtmdkdkcjgjknoaaDoorSameText
namespace Go.Proofs.YtmdkdkcjgjknoaaDoor
open Go.RowKit Go.Sort

theorem jl_snoc (sep : List UInt8) (x : List UInt8) : ∀ (l : List (List UInt8)) (i : Nat), jl sep i (l ++ [x]) = jl sep i l ++ (if 0 < i + l.length then sep else []) ++ x
  | [], i => by simp [jl]
  | y :: l, i => by
    rw [List.cons_append]
    simp only [jl]
    rw [jl_snoc sep x l (i + 1)]
    have e : (0 < i + 1 + l.length) ↔ (0 < i + (y :: l).length) := by rw [List.length_cons]; omega
    simp only [e, List.append_assoc]
theorem jl_take {α : Type} (f : α → List UInt8) (sep : List UInt8) {l : List α} {k : Nat} {x : α} (h : l[k]? = some x) : jl sep 0 ((l.take (k + 1)).map f) = jl sep 0 ((l.take k).map f) ++ (if 0 < k then sep else []) ++ f x := by
  have hk : k < l.length := (List.getElem?_eq_some_iff.1 h).1
  rw [take_snoc_of h, List.map_append, List.map_cons, List.map_nil, jl_snoc]
  simp only [List.length_map, List.length_take, Nat.zero_add]
  rw [Nat.min_eq_left (by omega)]
theorem jl_part {α : Type} (f : α → List UInt8) (sep : List UInt8) (l : List α) (k : Nat) : (jl sep 0 ((l.take k).map f)).length ≤ (jl sep 0 (l.map f)).length := by
  have key : ∀ (a b : List (List UInt8)) (i : Nat), (jl sep i a).length ≤ (jl sep i (a ++ b)).length := by
    intro a
    induction a with
    | nil => intro b i; simp [jl]
    | cons y a ih =>
      intro b i
      have := ih b (i + 1)
      simp only [List.cons_append, jl, List.length_append] at this ⊢
      omega
  have := key ((l.take k).map f) ((l.drop k).map f) 0
  rwa [← List.map_append, List.take_append_drop] at this
theorem app_list (a b : ByteArray) : (a ++ b).data.toList = a.data.toList ++ b.data.toList := by simp
theorem list_size (a : ByteArray) : a.size = a.data.toList.length := by simp
theorem itoa_list (n : Int) : (itoaB n).data.toList = Lib.itoa n := rfl
theorem quote_list (s : ByteArray) : (quoteB s).data.toList = quoteL s.data.toList := rfl
/-- What members tells. -/
def memL (ints : List Int) (words : List ByteArray) : List UInt8 := jl [44, 32] 0 (ints.map itI) ++ jl [44, 32] 0 (words.map itW)
set_option maxRecDepth 100000 in
set_option maxHeartbeats 4000000 in
theorem members_any (kind : Int) (attr : ByteArray) (qi : Option Addr) (ci : Nat) (ints : List Int) (qw : Option Addr) (cw : Nat) (words : List ByteArray) (lo hi : Int) (w : World) (h1 : SlOf encI 1 w qi ci ints) (h2 : SlOf encS 1 w qw cw words) (i1 : ∀ x ∈ ints, numOk x = true) (i2 : ∀ x ∈ words, wordOk x = true) (l1 : ints.length ≤ 1000000000) (l2 : words.length ≤ 1000000000) (hlen : (memL ints words).length ≤ 140737488355328) :
    Calls Tryd.prog 82 #[.agg #[.int .i64 kind, .string attr, .slice qi ints.length ci, .slice qw words.length cw, .int .i64 lo, .int .i64 hi]] w fun e w' => e = .returned (.string ⟨(memL ints words).toArray⟩) ∧ Below w.heap.size w w' := by
  obtain ⟨X, HX⟩ : ∃ X, w.alloc (.cells #[.int .i64 kind, .string attr, .slice qi ints.length ci, .slice qw words.length cw, .int .i64 lo, .int .i64 hi] 25) = X := ⟨_, rfl⟩
  have hX0 : X.heap[w.heap.size]? = some (.cells #[.int .i64 kind, .string attr, .slice qi ints.length ci, .slice qw words.length cw, .int .i64 lo, .int .i64 hi] 25 (0, 0)) := by rw [← HX]; exact box_nw _ _
  have hwX : Below w.heap.size w X := by rw [← HX]; exact (Below.refl _ _).alloc (Nat.le_refl _) _
  obtain ⟨x0, x1, x2, x3, x4, x5⟩ := of6 hX0
  have hz0 := heap_lt hX0
  have HX0 := hide hX0
  have HWX := hide hwX
  have H1 := hide (h1.below hwX)
  have H2 := hide (h2.below hwX)
  have I1 := hide i1
  have I2 := hide i2
  have a0 : (ints.length : Int) ≤ 1000000000 := by omega
  have a1 : (words.length : Int) ≤ 1000000000 := by omega
  simp only [memL, List.length_append] at hlen
  clear h1 h2 i1 i2 hX0 hwX
  go_enter Tryd.func82, Tryd.ntmps82
  go_wp2
  go_loopw [3, 4] (fun s i wr => ∃ (k : Nat) (t : ByteArray), k ≤ ints.length ∧ i = .int .i64 k ∧ s = .string t ∧ t.data.toList = jl [44, 32] 0 ((ints.take k).map itI) ∧ Below X.heap.size X wr) (fun _ i _ => ints.length - (intOf i).toNat)
  case atStart => exact ⟨0, ⟨#[]⟩, by omega, rfl, rfl, rfl, Below.refl _ _⟩
  case round =>
    obtain ⟨k, t, hkk, rfl, rfl, ht, hbel⟩ := hrel
    obtain ⟨t0, t1, t2, t3, t4, t5⟩ := of6 ((hbel.block _ hz0).trans (unhide HX0))
    have hpl := jl_part itI [44, 32] ints k
    rw [← ht, bytes_len] at hpl
    by_cases hlt : k < ints.length
    · obtain ⟨x, hx, hxd⟩ := get_at hlt
      clear hxd
      obtain ⟨b, off, hq, hb, hc⟩ := intsAt (unhide H1) hx
      subst hq
      have g := (hbel.cell (p := ⟨b, off + k, none⟩) hb).trans hc
      have ki0 : (0 : Int) ≤ (k : Int) := by omega
      have ki1 : (k : Int) < (ints.length : Int) := by omega
      have hok := unhide I1 x (List.mem_of_getElem? hx)
      have hrg := hok
      unfold numOk at hrg
      simp only [Bool.and_eq_true, decide_eq_true_eq] at hrg
      have hd := fun w => decimal_any x w (by omega) (by omega)
      have HS := hide (jl_take itI [44, 32] hx)
      have hil := itI_len x
      have HE := hide (itI_eq hok)
      have hsz : (itoaB x).size ≤ 21 := by rw [list_size, itoa_list, ← itI_eq hok]; exact hil
      have HT := hide ht
      have HB := hide hbel
      have hc1 : (⟨#[44, 32]⟩ : ByteArray).size = 2 := rfl
      have hadd1 := fun W => run_string_add_sum (P := Tryd.prog) W t ⟨#[44, 32]⟩ (by rw [hc1]; omega)
      have hadd2 := fun W => run_string_add_sum (P := Tryd.prog) W (t ++ ⟨#[44, 32]⟩) (itoaB x) (by rw [ByteArray.size_append, hc1]; omega)
      have hadd3 := fun W => run_string_add_sum (P := Tryd.prog) W t (itoaB x) (by omega)
      clear hx hc hok hrg hbel ht hil hsz hc1 hlt
      by_cases hk0 : 0 < k
      · have hk1 : (0 : Int) < (k : Int) := by omega
        go_wp2_with (go_at_call 81; refine (hd _).mono ?_; rintro e w1 ⟨rfl, b1⟩; have B1 := hide b1; clear b1)
        go_roundw
        case rel => exact ⟨k + 1, _, by omega, by go_num, rfl, by rw [unhide HS, if_pos hk0, app_list, app_list, unhide HT, itoa_list, unhide HE], below_sub (unhide HB) (unhide B1)⟩
        case measure => simp [intOf]; omega
      · have hk1 : ¬ (0 : Int) < (k : Int) := by omega
        go_wp2_with (go_at_call 81; refine (hd _).mono ?_; rintro e w1 ⟨rfl, b1⟩; have B1 := hide b1; clear b1)
        go_roundw
        case rel => exact ⟨k + 1, _, by omega, by go_num, rfl, by rw [unhide HS, if_neg hk0, List.append_nil, app_list, unhide HT, itoa_list, unhide HE], below_sub (unhide HB) (unhide B1)⟩
        case measure => simp [intOf]; omega
    · have hkl : k = ints.length := by omega
      subst hkl
      rw [List.take_of_length_le (Nat.le_refl _)] at ht
      have ki1 : ¬ (ints.length : Int) < (ints.length : Int) := by omega
      have HT := hide ht
      have HB := hide hbel
      have htl : t.size = (jl [44, 32] 0 (ints.map itI)).length := by rw [list_size, ht]
      clear ht hbel hpl hlt hkk
      go_wp2
      go_loopw [3, 5] (fun s i wr => ∃ (k : Nat) (u : ByteArray), k ≤ words.length ∧ i = .int .i64 k ∧ s = .string u ∧ u.data.toList = jl [44, 32] 0 (ints.map itI) ++ jl [44, 32] 0 ((words.take k).map itW) ∧ Below X.heap.size X wr) (fun _ i _ => words.length - (intOf i).toNat)
      case atStart => exact ⟨0, t, by omega, rfl, rfl, by rw [unhide HT]; simp [jl], unhide HB⟩
      case round =>
        clear HT HB t0 t1 t2 t3 t4 t5
        obtain ⟨k, u, hkk, rfl, rfl, ht, hbel⟩ := hrel
        obtain ⟨t0, t1, t2, t3, t4, t5⟩ := of6 ((hbel.block _ hz0).trans (unhide HX0))
        have hpl := jl_part itW [44, 32] words k
        have hul : u.size = (jl [44, 32] 0 (ints.map itI)).length + (jl [44, 32] 0 ((words.take k).map itW)).length := by rw [list_size, ht, List.length_append]
        by_cases hlt : k < words.length
        · obtain ⟨x, hx, hxd⟩ := get_at hlt
          clear hxd
          obtain ⟨b, off, hq, hb, hc⟩ := wordsAt (unhide H2) hx
          subst hq
          have g := (hbel.cell (p := ⟨b, off + k, none⟩) hb).trans hc
          have ki0 : (0 : Int) ≤ (k : Int) := by omega
          have ki2 : (k : Int) < (words.length : Int) := by omega
          have hok := unhide I2 x (List.mem_of_getElem? hx)
          have hrg := hok
          unfold wordOk at hrg
          simp only [decide_eq_true_eq] at hrg
          have hd := fun w => refQuote_any x w (by omega)
          have HS := hide (jl_take itW [44, 32] hx)
          have hil := itW_len x
          have HE := hide (itW_eq hok)
          have hsz : (quoteB x).size ≤ 300 := by rw [list_size, quote_list, ← itW_eq hok]; omega
          have HT := hide ht
          have HB := hide hbel
          have hc1 : (⟨#[44, 32]⟩ : ByteArray).size = 2 := rfl
          have hadd1 := fun W => run_string_add_sum (P := Tryd.prog) W u ⟨#[44, 32]⟩ (by rw [hc1]; omega)
          have hadd2 := fun W => run_string_add_sum (P := Tryd.prog) W (u ++ ⟨#[44, 32]⟩) (quoteB x) (by rw [ByteArray.size_append, hc1]; omega)
          have hadd3 := fun W => run_string_add_sum (P := Tryd.prog) W u (quoteB x) (by omega)
          clear hx hc hok hrg hbel ht hil hsz hc1 hlt hul htl
          by_cases hk0 : 0 < k
          · have hk1 : (0 : Int) < (k : Int) := by omega
            go_wp2_with (go_at_call 86; refine (hd _).mono ?_; rintro e w1 ⟨rfl, b1⟩; have B1 := hide b1; clear b1)
            go_roundw
            case rel => exact ⟨k + 1, _, by omega, by go_num, rfl, by rw [unhide HS, if_pos hk0, app_list, app_list, unhide HT, quote_list, unhide HE]; simp only [List.append_assoc], below_sub (unhide HB) (unhide B1)⟩
            case measure => simp [intOf]; omega
          · have hk1 : ¬ (0 : Int) < (k : Int) := by omega
            go_wp2_with (go_at_call 86; refine (hd _).mono ?_; rintro e w1 ⟨rfl, b1⟩; have B1 := hide b1; clear b1)
            go_roundw
            case rel => exact ⟨k + 1, _, by omega, by go_num, rfl, by rw [unhide HS, if_neg hk0, List.append_nil, app_list, unhide HT, quote_list, unhide HE]; simp only [List.append_assoc], below_sub (unhide HB) (unhide B1)⟩
            case measure => simp [intOf]; omega
        · have hkl : k = words.length := by omega
          subst hkl
          rw [List.take_of_length_le (Nat.le_refl _)] at ht
          have ki2 : ¬ (words.length : Int) < (words.length : Int) := by omega
          have HT := hide ht
          have HB := hide hbel
          clear ht hbel hpl hlt hkk hul htl
          go_wp2
          go_ret
          exact ⟨ret_ba (WideShapes.bytes_inj (by rw [unhide HT]; simp [memL])), below_sub (unhide HWX) (unhide HB)⟩
end Go.Proofs.YtmdkdkcjgjknoaaDoor

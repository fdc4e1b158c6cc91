/- The law EvalMembers returns true, whatever it is given. -/
import Derived.Test.YtmdkdkcjgjknoaaEvMemPlain
namespace Go.Proofs.Ytmdkdkcjgjknoaa
open Go.RowKit Go.Sort

theorem flP1' (x : Pr) : (flatK encP 4 [x].toArray).toList = encP x := by
  apply List.ext_getElem?
  intro i
  by_cases hi : i < 4
  · have h := flat_at (enc := encP) (k := 4) (l := [x]) (j := 0) rfl i hi
    rw [Nat.zero_mul, Nat.zero_add] at h
    rw [h]
    have hm : i = 0 ∨ i = 1 ∨ i = 2 ∨ i = 3 := by omega
    rcases hm with e | e | e | e <;> rw [e] <;> rfl
  · rw [List.getElem?_eq_none (by simp [flatK]; omega), List.getElem?_eq_none (by simp [encP]; omega)]
theorem one_ints {w : World} {M : Nat} {x : Int} (h : w.heap[M]? = some (.cells #[.int .i64 x] 3 (0, 0))) : SlOf encI 1 w (some ⟨M, 0, none⟩) 1 [x] := block_of (enc := encI) (k := 1) (l := [x]) h (by
    have := flat_at (enc := encI) (k := 1) (l := [x]) (j := 0) rfl 0 (by decide)
    apply List.ext_getElem?
    intro i
    by_cases hi : i = 0
    · subst hi; rw [Nat.zero_mul, Nat.zero_add] at this; rw [this]; rfl
    · rw [List.getElem?_eq_none (by simp [flatK]; omega), List.getElem?_eq_none (by simp; omega)]) (by simp)
theorem one_words {w : World} {M : Nat} {x : ByteArray} (h : w.heap[M]? = some (.cells #[.string x] 9 (0, 0))) : SlOf encS 1 w (some ⟨M, 0, none⟩) 1 [x] := block_of (enc := encS) (k := 1) (l := [x]) h (by
    have := flat_at (enc := encS) (k := 1) (l := [x]) (j := 0) rfl 0 (by decide)
    apply List.ext_getElem?
    intro i
    by_cases hi : i = 0
    · subst hi; rw [Nat.zero_mul, Nat.zero_add] at this; rw [this]; rfl
    · rw [List.getElem?_eq_none (by simp [flatK]; omega), List.getElem?_eq_none (by simp; omega)]) (by simp)
theorem any_snoc {α : Type} {f : α → Bool} {l : List α} {k : Nat} {x : α} (h : l[k]? = some x) : (l.take (k + 1)).any f = ((l.take k).any f || f x) := by
  rw [take_snoc_of h]; simp
set_option maxRecDepth 100000 in
set_option maxHeartbeats 16000000 in
theorem evalMembers_any (attr : ByteArray) (qi : Option Addr) (ci : Nat) (ints : List Int) (qw : Option Addr) (cw : Nat) (words : List ByteArray) (vk vn : Int) (vs : ByteArray) (w : World) (h1 : SlOf encI 1 w qi ci ints) (h2 : SlOf encS 1 w qw cw words) (m1 : ints.length * 8 + 64 ≤ 140737488355328) (m2 : words.length * 16 + 64 ≤ 140737488355328) :
    Calls Try.prog 6 #[.string attr, .slice qi ints.length ci, .slice qw words.length cw, .agg #[.int .i64 vk, .int .i64 vn, .string vs]] w fun e w' => e = .returned (.bool true) ∧ Below w.heap.size w w' := by
  obtain ⟨X, HX⟩ : ∃ X, w.alloc (.cells #[.int .i64 vk, .int .i64 vn, .string vs] 46) = X := ⟨_, rfl⟩
  have x8 : X.heap[w.heap.size]? = some (.cells #[.int .i64 vk, .int .i64 vn, .string vs] 46 (0, 0)) := by rw [← HX]; exact box_nw _ _
  have bX : Below w.heap.size w X := by rw [← HX]; exact (Below.refl _ _).alloc (Nat.le_refl _) _
  have hfx := fixed_any X
  have X8 := hide x8
  have BX := hide bX
  have HI := hide h1
  have HW := hide h2
  have li : (ints.length : Int) ≤ 17592186044416 := by omega
  have lw : (words.length : Int) ≤ 8796093022208 := by omega
  clear h1 h2 x8 bX
  go_enter Try.func6, Try.ntmps6
  go_wp2_with (go_at_call 7; refine hfx.mono ?_; rintro e w1 ⟨rfl, b1⟩; have ww := (b1.block _ (heap_lt (unhide X8))).trans (unhide X8); obtain ⟨v0, v1, v2⟩ := of3' ww; have W8 := hide ww; have B1 := hide (below_sub (unhide BX) b1); clear b1 ww)
  have M1 := hide (box_nw w1 (.cells #[.string attr, .int .i64 vk, .int .i64 vn, .string vs] 48))
  have bb1 := (Below.refl w1.heap.size w1).alloc (Nat.le_refl _) (.cells #[.string attr, .int .i64 vk, .int .i64 vn, .string vs] 48)
  have V1 := hide ((bb1.block _ (heap_lt (unhide W8))).trans (unhide W8))
  obtain ⟨Wb, hWb⟩ : ∃ Wb, w1.alloc (.cells #[.string attr, .int .i64 vk, .int .i64 vn, .string vs] 48) = Wb := ⟨_, rfl⟩
  rw [hWb] at M1 V1 bb1
  rw [hWb]
  have HI1 := hide ((unhide HI).below (below_sub (unhide B1) bb1))
  have HW1 := hide ((unhide HW).below (below_sub (unhide B1) bb1))
  have EV := hide (block_of (enc := encP) (k := 4) (l := ([⟨attr, vk, vn, vs⟩] : List Pr)) (unhide M1) (by rw [flP1']; rfl) (by simp))
  have B2 := hide (below_sub (unhide B1) bb1)
  have zv := heap_lt (unhide V1)
  have hE := fun (kind : Int) (is : List Int) (ws : List ByteArray) (lo hi : Int) (u : Nv) (W : World) (hb : Below Wb.heap.size Wb W) (hin : NdIn W u (.mk kind attr is ws lo hi 1 [])) (l1 : is.length ≤ 100000000000000) (l2 : ws.length ≤ 100000000000000) => eval_leaf u (some ⟨w1.heap.size, 0, none⟩) 1 ([⟨attr, vk, vn, vs⟩] : List Pr) W hin ((unhide EV).below hb) l1 l2 (by simp)
  simp only [Nv.val, List.length_cons, List.length_nil, Nat.zero_add] at hE
  clear hfx HX X8 BX HI HW hWb bb1 v0 v1 v2
  go_loopw [10, 27] (fun s i wr => ∃ k : Nat, k ≤ ints.length ∧ i = .int .i64 k ∧ s = .bool ((ints.take k).any (fun x => holdsB 1 attr [x] [] 0 0 [⟨attr, vk, vn, vs⟩])) ∧ Below Wb.heap.size Wb wr) (fun _ i _ => ints.length - (intOf i).toNat)
  case atStart => exact ⟨0, by omega, rfl, rfl, Below.refl _ _⟩
  case round =>
    obtain ⟨k, hk, rfl, rfl, hbel⟩ := hrel
    by_cases hlt : k < ints.length
    · obtain ⟨x, hx, hd⟩ := get_at hlt
      clear hd
      obtain ⟨b, off, hq0, hb0, g0⟩ := intsAt ((unhide HI1).below hbel) hx
      subst hq0
      have ki0 : (0 : Int) ≤ (k : Int) := by omega
      have ki1 : (k : Int) < (ints.length : Int) := by omega
      have HS := hide (any_snoc (f := fun x => holdsB 1 attr [x] [] 0 0 [⟨attr, vk, vn, vs⟩]) hx)
      have hEx := hE 1 [x] [] 0 0
      have HB := hide hbel
      clear hx hbel hb0
      cases hA : (ints.take k).any (fun x => holdsB 1 attr [x] [] 0 0 [⟨attr, vk, vn, vs⟩]) with
      | true =>
        cases hb1 : holdsB 1 attr [x] [] 0 0 [⟨attr, vk, vn, vs⟩] with
        | true =>
          have hRx := hE 3 [] [] x x
          rw [range_same, hb1] at hRx
          rw [hb1] at hEx
          obtain ⟨hk1, hn1⟩ := one_int hb1
          have nk : (vk != 1) = false := by simp [hk1]
          have nn : (vn != x) = false := by simp [hn1]
          clear hk1 hn1
          go_wp2_with (first
            | (go_at_call 10; refine (hRx _ _ (unhide R2) (unhide N2) (by simp) (by simp)).mono ?_; rintro e w5 ⟨rfl, b5⟩; obtain ⟨q0, q1, q2⟩ := of3' (((below_sub (unhide R2) b5).block _ zv).trans (unhide V1)); have R3 := hide (below_sub (unhide R2) b5); clear b5)
            | (go_at_call 25; refine (ints_big attr (some ⟨wr.heap.size, 0, none⟩) 1 [x] _ (one_ints (box_nw _ _)) (by simp)).mono ?_; rintro e w2 ⟨⟨u1, rfl, n1⟩, b2⟩; simp only [Nv.val]; have N1 := hide n1.toIn; have R1 := hide (below_sub (unhide HB) (below_sub ((Below.refl _ _).alloc (Nat.le_refl _) _) b2)); clear n1 b2)
            | (go_at_call 26; refine (range_any attr x x _).mono ?_; rintro e w4 ⟨⟨u2, rfl, n2⟩, b4⟩; simp only [Nv.val]; have N2 := hide n2.toIn; have R2 := hide (below_sub (unhide R) b4); clear n2 b4)
            | (go_at_call 10; refine (hEx _ _ (unhide R1) (unhide N1) (by simp) (by simp)).mono ?_; rintro e w3 ⟨rfl, b3⟩; have R := hide (below_sub (unhide R1) b3); clear b3))
          go_roundw
          case rel => exact ⟨k + 1, by omega, by go_num, congrArg Value.bool (by rw [unhide HS, hA, hb1]; rfl), unhide R3⟩
          case measure => simp [intOf]; omega
        | false =>
          have hRx := hE 3 [] [] x x
          rw [range_same, hb1] at hRx
          rw [hb1] at hEx
          go_wp2_with (first
            | (go_at_call 10; refine (hRx _ _ (unhide R2) (unhide N2) (by simp) (by simp)).mono ?_; rintro e w5 ⟨rfl, b5⟩; obtain ⟨q0, q1, q2⟩ := of3' (((below_sub (unhide R2) b5).block _ zv).trans (unhide V1)); have R3 := hide (below_sub (unhide R2) b5); clear b5)
            | (go_at_call 25; refine (ints_big attr (some ⟨wr.heap.size, 0, none⟩) 1 [x] _ (one_ints (box_nw _ _)) (by simp)).mono ?_; rintro e w2 ⟨⟨u1, rfl, n1⟩, b2⟩; simp only [Nv.val]; have N1 := hide n1.toIn; have R1 := hide (below_sub (unhide HB) (below_sub ((Below.refl _ _).alloc (Nat.le_refl _) _) b2)); clear n1 b2)
            | (go_at_call 26; refine (range_any attr x x _).mono ?_; rintro e w4 ⟨⟨u2, rfl, n2⟩, b4⟩; simp only [Nv.val]; have N2 := hide n2.toIn; have R2 := hide (below_sub (unhide R) b4); clear n2 b4)
            | (go_at_call 10; refine (hEx _ _ (unhide R1) (unhide N1) (by simp) (by simp)).mono ?_; rintro e w3 ⟨rfl, b3⟩; have R := hide (below_sub (unhide R1) b3); clear b3))
          go_roundw
          case rel => exact ⟨k + 1, by omega, by go_num, congrArg Value.bool (by rw [unhide HS, hA, hb1]; rfl), unhide R3⟩
          case measure => simp [intOf]; omega
      | false =>
        cases hb1 : holdsB 1 attr [x] [] 0 0 [⟨attr, vk, vn, vs⟩] with
        | true =>
          have hRx := hE 3 [] [] x x
          rw [range_same, hb1] at hRx
          rw [hb1] at hEx
          obtain ⟨hk1, hn1⟩ := one_int hb1
          have nk : (vk != 1) = false := by simp [hk1]
          have nn : (vn != x) = false := by simp [hn1]
          clear hk1 hn1
          go_wp2_with (first
            | (go_at_call 10; refine (hRx _ _ (unhide R2) (unhide N2) (by simp) (by simp)).mono ?_; rintro e w5 ⟨rfl, b5⟩; obtain ⟨q0, q1, q2⟩ := of3' (((below_sub (unhide R2) b5).block _ zv).trans (unhide V1)); have R3 := hide (below_sub (unhide R2) b5); clear b5)
            | (go_at_call 25; refine (ints_big attr (some ⟨wr.heap.size, 0, none⟩) 1 [x] _ (one_ints (box_nw _ _)) (by simp)).mono ?_; rintro e w2 ⟨⟨u1, rfl, n1⟩, b2⟩; simp only [Nv.val]; have N1 := hide n1.toIn; have R1 := hide (below_sub (unhide HB) (below_sub ((Below.refl _ _).alloc (Nat.le_refl _) _) b2)); clear n1 b2)
            | (go_at_call 26; refine (range_any attr x x _).mono ?_; rintro e w4 ⟨⟨u2, rfl, n2⟩, b4⟩; simp only [Nv.val]; have N2 := hide n2.toIn; have R2 := hide (below_sub (unhide R) b4); clear n2 b4)
            | (go_at_call 10; refine (hEx _ _ (unhide R1) (unhide N1) (by simp) (by simp)).mono ?_; rintro e w3 ⟨rfl, b3⟩; have R := hide (below_sub (unhide R1) b3); clear b3))
          go_roundw
          case rel => exact ⟨k + 1, by omega, by go_num, congrArg Value.bool (by rw [unhide HS, hA, hb1]; rfl), unhide R3⟩
          case measure => simp [intOf]; omega
        | false =>
          have hRx := hE 3 [] [] x x
          rw [range_same, hb1] at hRx
          rw [hb1] at hEx
          go_wp2_with (first
            | (go_at_call 10; refine (hRx _ _ (unhide R2) (unhide N2) (by simp) (by simp)).mono ?_; rintro e w5 ⟨rfl, b5⟩; obtain ⟨q0, q1, q2⟩ := of3' (((below_sub (unhide R2) b5).block _ zv).trans (unhide V1)); have R3 := hide (below_sub (unhide R2) b5); clear b5)
            | (go_at_call 25; refine (ints_big attr (some ⟨wr.heap.size, 0, none⟩) 1 [x] _ (one_ints (box_nw _ _)) (by simp)).mono ?_; rintro e w2 ⟨⟨u1, rfl, n1⟩, b2⟩; simp only [Nv.val]; have N1 := hide n1.toIn; have R1 := hide (below_sub (unhide HB) (below_sub ((Below.refl _ _).alloc (Nat.le_refl _) _) b2)); clear n1 b2)
            | (go_at_call 26; refine (range_any attr x x _).mono ?_; rintro e w4 ⟨⟨u2, rfl, n2⟩, b4⟩; simp only [Nv.val]; have N2 := hide n2.toIn; have R2 := hide (below_sub (unhide R) b4); clear n2 b4)
            | (go_at_call 10; refine (hEx _ _ (unhide R1) (unhide N1) (by simp) (by simp)).mono ?_; rintro e w3 ⟨rfl, b3⟩; have R := hide (below_sub (unhide R1) b3); clear b3))
          go_roundw
          case rel => exact ⟨k + 1, by omega, by go_num, congrArg Value.bool (by rw [unhide HS, hA, hb1]; rfl), unhide R3⟩
          case measure => simp [intOf]; omega
    · have ki1 : ¬ (k : Int) < (ints.length : Int) := by omega
      obtain rfl : k = ints.length := by omega
      rw [List.take_length]
      have HB0 := hide hbel
      clear hbel hk hlt
      cases hpb : predB 1 attr ints [] 0 0 with
      | true =>
        have hSx := hE 1 ints [] 0 0
        rw [set_any hpb] at hSx
        obtain ⟨aa, haa⟩ : ∃ aa, ints.any (fun x => holdsB 1 attr [x] [] 0 0 [⟨attr, vk, vn, vs⟩]) = aa := ⟨_, rfl⟩
        rw [haa] at hSx
        rw [haa]
        clear haa
        have naa : (aa != aa) = false := by simp
        have eaa : (aa == aa) = true := by simp
        go_wp2_with (first
          | (go_at_call 25; refine (ints_big attr qi ci ints wr ((unhide HI1).below (unhide HB0)) m1).mono ?_; rintro e w2 ⟨⟨u1, rfl, n1⟩, b2⟩; simp only [Nv.val]; have N1 := hide n1.toIn; have R1 := hide (below_sub (unhide HB0) b2); clear n1 b2)
          | (go_at_call 27; refine name_world ?_; intro Y hY; have y8 : Y.heap[w2.heap.size]? = some (.cells #[.int .i64 u1.kind, .string u1.attr, .slice u1.qi u1.ni u1.ci, .slice u1.qw u1.nw u1.cw, .int .i64 u1.lo, .int .i64 u1.hi, .int .i64 u1.op, .slice u1.qk u1.nk u1.ck] 31 (0, 0)) := (by rw [hY]; exact box_nw _ _); have bY : Below w2.heap.size w2 Y := (by rw [hY]; exact (Below.refl _ _).alloc (Nat.le_refl _) _); clear hY; have hCk := check_leafV u1 Y ((unhide N1).keep bY) (by first | omega | simp) (by first | omega | simp); rw [hpb] at hCk; simp only [code, if_true, Nv.val] at hCk; refine hCk.mono ?_; rintro e w3 ⟨rfl, b3⟩; have y3 := (b3.block _ (heap_lt y8)).trans y8; obtain ⟨e0, e1, e2, e3, e4, e5, e6, e7⟩ := of8' y3; have N3 := hide ((unhide N1).keep (below_sub bY b3)); have R3 := hide (below_sub (unhide R1) (below_sub bY b3)); clear y8 bY b3 y3 hCk)
          | (go_at_call 10; refine (hSx _ _ (unhide R3) (unhide N3) (by first | omega | simp) (by first | omega | simp)).mono ?_; rintro e w4 ⟨rfl, b4⟩; have R4 := hide (below_sub (unhide R3) b4); clear b4))
        have HB0 := hide (unhide R4)
        go_loopw [10, 79] (fun s i wr => ∃ k : Nat, k ≤ words.length ∧ i = .int .i64 k ∧ s = .bool ((words.take k).any (fun x => holdsB 2 attr [] [x] 0 0 [⟨attr, vk, vn, vs⟩])) ∧ Below Wb.heap.size Wb wr) (fun _ i _ => words.length - (intOf i).toNat)
        case atStart => exact ⟨0, by omega, rfl, rfl, unhide HB0⟩
        case round =>
          obtain ⟨k, hk, rfl, rfl, hbel⟩ := hrel
          by_cases hlt : k < words.length
          · obtain ⟨x, hx, hd⟩ := get_at hlt
            clear hd
            obtain ⟨b, off, hq0, hb0, g0⟩ := wordsAt ((unhide HW1).below hbel) hx
            subst hq0
            have ki0 : (0 : Int) ≤ (k : Int) := by omega
            have ki1 : (k : Int) < (words.length : Int) := by omega
            have HS := hide (any_snoc (f := fun x => holdsB 2 attr [] [x] 0 0 [⟨attr, vk, vn, vs⟩]) hx)
            have hEx := hE 2 [] [x] 0 0
            have HB := hide hbel
            clear hx hbel hb0
            cases hA : (words.take k).any (fun x => holdsB 2 attr [] [x] 0 0 [⟨attr, vk, vn, vs⟩]) with
            | true =>
              cases hb1 : holdsB 2 attr [] [x] 0 0 [⟨attr, vk, vn, vs⟩] with
              | true =>
                rw [hb1] at hEx
                have hRx := hE 4 [] [x] 0 0
                rw [pref_of hb1] at hRx
                obtain ⟨hk1, hn1⟩ := one_wrd hb1
                have nk : (vk != 2) = false := by simp [hk1]
                have nn : (!vs.toList == x.toList) = false := by simp [hn1]
                clear hk1 hn1
                go_wp2_with (first
                  | (go_at_call 10; refine (hRx _ _ (unhide R2) (unhide N2) (by simp) (by simp)).mono ?_; rintro e w5 ⟨rfl, b5⟩; obtain ⟨q0, q1, q2⟩ := of3' (((below_sub (unhide R2) b5).block _ zv).trans (unhide V1)); have R3 := hide (below_sub (unhide R2) b5); clear b5)
                  | (go_at_call 28; refine (words_big attr (some ⟨wr.heap.size, 0, none⟩) 1 [x] _ (one_words (box_nw _ _)) (by simp)).mono ?_; rintro e w2 ⟨⟨u1, rfl, n1⟩, b2⟩; simp only [Nv.val]; have N1 := hide n1.toIn; have R1 := hide (below_sub (unhide HB) (below_sub ((Below.refl _ _).alloc (Nat.le_refl _) _) b2)); clear n1 b2)
                  | (go_at_call 29; refine (prefix_any attr x _).mono ?_; rintro e w4 ⟨⟨u2, rfl, n2⟩, b4⟩; simp only [Nv.val]; have N2 := hide n2.toIn; have R2 := hide (below_sub (unhide R) b4); clear n2 b4)
                  | (go_at_call 10; refine (hEx _ _ (unhide R1) (unhide N1) (by simp) (by simp)).mono ?_; rintro e w3 ⟨rfl, b3⟩; have R := hide (below_sub (unhide R1) b3); clear b3))
                go_roundw
                case rel => exact ⟨k + 1, by omega, by go_num, congrArg Value.bool (by rw [unhide HS, hA, hb1]; rfl), unhide R3⟩
                case measure => simp [intOf]; omega
              | false =>
                rw [hb1] at hEx
                go_wp2_with (first
                  | (go_at_call 28; refine (words_big attr (some ⟨wr.heap.size, 0, none⟩) 1 [x] _ (one_words (box_nw _ _)) (by simp)).mono ?_; rintro e w2 ⟨⟨u1, rfl, n1⟩, b2⟩; simp only [Nv.val]; have N1 := hide n1.toIn; have R1 := hide (below_sub (unhide HB) (below_sub ((Below.refl _ _).alloc (Nat.le_refl _) _) b2)); clear n1 b2)
                  | (go_at_call 10; refine (hEx _ _ (unhide R1) (unhide N1) (by simp) (by simp)).mono ?_; rintro e w3 ⟨rfl, b3⟩; have R := hide (below_sub (unhide R1) b3); clear b3))
                go_roundw
                case rel => exact ⟨k + 1, by omega, by go_num, congrArg Value.bool (by rw [unhide HS, hA, hb1]; rfl), unhide R⟩
                case measure => simp [intOf]; omega
            | false =>
              cases hb1 : holdsB 2 attr [] [x] 0 0 [⟨attr, vk, vn, vs⟩] with
              | true =>
                rw [hb1] at hEx
                have hRx := hE 4 [] [x] 0 0
                rw [pref_of hb1] at hRx
                obtain ⟨hk1, hn1⟩ := one_wrd hb1
                have nk : (vk != 2) = false := by simp [hk1]
                have nn : (!vs.toList == x.toList) = false := by simp [hn1]
                clear hk1 hn1
                go_wp2_with (first
                  | (go_at_call 10; refine (hRx _ _ (unhide R2) (unhide N2) (by simp) (by simp)).mono ?_; rintro e w5 ⟨rfl, b5⟩; obtain ⟨q0, q1, q2⟩ := of3' (((below_sub (unhide R2) b5).block _ zv).trans (unhide V1)); have R3 := hide (below_sub (unhide R2) b5); clear b5)
                  | (go_at_call 28; refine (words_big attr (some ⟨wr.heap.size, 0, none⟩) 1 [x] _ (one_words (box_nw _ _)) (by simp)).mono ?_; rintro e w2 ⟨⟨u1, rfl, n1⟩, b2⟩; simp only [Nv.val]; have N1 := hide n1.toIn; have R1 := hide (below_sub (unhide HB) (below_sub ((Below.refl _ _).alloc (Nat.le_refl _) _) b2)); clear n1 b2)
                  | (go_at_call 29; refine (prefix_any attr x _).mono ?_; rintro e w4 ⟨⟨u2, rfl, n2⟩, b4⟩; simp only [Nv.val]; have N2 := hide n2.toIn; have R2 := hide (below_sub (unhide R) b4); clear n2 b4)
                  | (go_at_call 10; refine (hEx _ _ (unhide R1) (unhide N1) (by simp) (by simp)).mono ?_; rintro e w3 ⟨rfl, b3⟩; have R := hide (below_sub (unhide R1) b3); clear b3))
                go_roundw
                case rel => exact ⟨k + 1, by omega, by go_num, congrArg Value.bool (by rw [unhide HS, hA, hb1]; rfl), unhide R3⟩
                case measure => simp [intOf]; omega
              | false =>
                rw [hb1] at hEx
                go_wp2_with (first
                  | (go_at_call 28; refine (words_big attr (some ⟨wr.heap.size, 0, none⟩) 1 [x] _ (one_words (box_nw _ _)) (by simp)).mono ?_; rintro e w2 ⟨⟨u1, rfl, n1⟩, b2⟩; simp only [Nv.val]; have N1 := hide n1.toIn; have R1 := hide (below_sub (unhide HB) (below_sub ((Below.refl _ _).alloc (Nat.le_refl _) _) b2)); clear n1 b2)
                  | (go_at_call 10; refine (hEx _ _ (unhide R1) (unhide N1) (by simp) (by simp)).mono ?_; rintro e w3 ⟨rfl, b3⟩; have R := hide (below_sub (unhide R1) b3); clear b3))
                go_roundw
                case rel => exact ⟨k + 1, by omega, by go_num, congrArg Value.bool (by rw [unhide HS, hA, hb1]; rfl), unhide R⟩
                case measure => simp [intOf]; omega
          · have ki1 : ¬ (k : Int) < (words.length : Int) := by omega
            obtain rfl : k = words.length := by omega
            rw [List.take_length]
            have HB0 := hide hbel
            clear hbel hk hlt
            cases hpb : predB 2 attr [] words 0 0 with
            | true =>
              have hSx := hE 2 [] words 0 0
              rw [wset_any hpb] at hSx
              obtain ⟨aa, haa⟩ : ∃ aa, words.any (fun x => holdsB 2 attr [] [x] 0 0 [⟨attr, vk, vn, vs⟩]) = aa := ⟨_, rfl⟩
              rw [haa] at hSx
              rw [haa]
              clear haa
              have naa : (aa != aa) = false := by simp
              have eaa : (aa == aa) = true := by simp
              go_wp2_with (first
                | (go_at_call 28; refine (words_big attr qw cw words wr ((unhide HW1).below (unhide HB0)) m2).mono ?_; rintro e w2 ⟨⟨u1, rfl, n1⟩, b2⟩; simp only [Nv.val]; have N1 := hide n1.toIn; have R1 := hide (below_sub (unhide HB0) b2); clear n1 b2)
                | (go_at_call 27; refine name_world ?_; intro Y hY; have y8 : Y.heap[w2.heap.size]? = some (.cells #[.int .i64 u1.kind, .string u1.attr, .slice u1.qi u1.ni u1.ci, .slice u1.qw u1.nw u1.cw, .int .i64 u1.lo, .int .i64 u1.hi, .int .i64 u1.op, .slice u1.qk u1.nk u1.ck] 31 (0, 0)) := (by rw [hY]; exact box_nw _ _); have bY : Below w2.heap.size w2 Y := (by rw [hY]; exact (Below.refl _ _).alloc (Nat.le_refl _) _); clear hY; have hCk := check_leafV u1 Y ((unhide N1).keep bY) (by first | omega | simp) (by first | omega | simp); rw [hpb] at hCk; simp only [code, if_true, Nv.val] at hCk; refine hCk.mono ?_; rintro e w3 ⟨rfl, b3⟩; have y3 := (b3.block _ (heap_lt y8)).trans y8; obtain ⟨e0, e1, e2, e3, e4, e5, e6, e7⟩ := of8' y3; have N3 := hide ((unhide N1).keep (below_sub bY b3)); have R3 := hide (below_sub (unhide R1) (below_sub bY b3)); clear y8 bY b3 y3 hCk)
                | (go_at_call 10; refine (hSx _ _ (unhide R3) (unhide N3) (by first | omega | simp) (by first | omega | simp)).mono ?_; rintro e w4 ⟨rfl, b4⟩; have R4 := hide (below_sub (unhide R3) b4); clear b4))
              go_ret
              exact ⟨ret_bool (by simp), below_sub (unhide B2) (unhide R4)⟩
            | false =>
              obtain ⟨aa, haa⟩ : ∃ aa, words.any (fun x => holdsB 2 attr [] [x] 0 0 [⟨attr, vk, vn, vs⟩]) = aa := ⟨_, rfl⟩
              rw [haa]
              clear haa
              go_wp2_with (first
                | (go_at_call 28; refine (words_big attr qw cw words wr ((unhide HW1).below (unhide HB0)) m2).mono ?_; rintro e w2 ⟨⟨u1, rfl, n1⟩, b2⟩; simp only [Nv.val]; have N1 := hide n1.toIn; have R1 := hide (below_sub (unhide HB0) b2); clear n1 b2)
                | (go_at_call 27; refine name_world ?_; intro Y hY; have y8 : Y.heap[w2.heap.size]? = some (.cells #[.int .i64 u1.kind, .string u1.attr, .slice u1.qi u1.ni u1.ci, .slice u1.qw u1.nw u1.cw, .int .i64 u1.lo, .int .i64 u1.hi, .int .i64 u1.op, .slice u1.qk u1.nk u1.ck] 31 (0, 0)) := (by rw [hY]; exact box_nw _ _); have bY : Below w2.heap.size w2 Y := (by rw [hY]; exact (Below.refl _ _).alloc (Nat.le_refl _) _); clear hY; have hCk := check_leafV u1 Y ((unhide N1).keep bY) (by first | omega | simp) (by first | omega | simp); rw [hpb] at hCk; simp only [code, Bool.false_eq_true, if_false, Nv.val] at hCk; refine hCk.mono ?_; rintro e w3 ⟨rfl, b3⟩; have y3 := (b3.block _ (heap_lt y8)).trans y8; obtain ⟨e0, e1, e2, e3, e4, e5, e6, e7⟩ := of8' y3; have N3 := hide ((unhide N1).keep (below_sub bY b3)); have R3 := hide (below_sub (unhide R1) (below_sub bY b3)); clear y8 bY b3 y3 hCk))
              go_ret
              exact ⟨ret_bool (by simp), below_sub (unhide B2) (unhide R3)⟩

      | false =>
        obtain ⟨aa, haa⟩ : ∃ aa, ints.any (fun x => holdsB 1 attr [x] [] 0 0 [⟨attr, vk, vn, vs⟩]) = aa := ⟨_, rfl⟩
        rw [haa]
        clear haa
        go_wp2_with (first
          | (go_at_call 25; refine (ints_big attr qi ci ints wr ((unhide HI1).below (unhide HB0)) m1).mono ?_; rintro e w2 ⟨⟨u1, rfl, n1⟩, b2⟩; simp only [Nv.val]; have N1 := hide n1.toIn; have R1 := hide (below_sub (unhide HB0) b2); clear n1 b2)
          | (go_at_call 27; refine name_world ?_; intro Y hY; have y8 : Y.heap[w2.heap.size]? = some (.cells #[.int .i64 u1.kind, .string u1.attr, .slice u1.qi u1.ni u1.ci, .slice u1.qw u1.nw u1.cw, .int .i64 u1.lo, .int .i64 u1.hi, .int .i64 u1.op, .slice u1.qk u1.nk u1.ck] 31 (0, 0)) := (by rw [hY]; exact box_nw _ _); have bY : Below w2.heap.size w2 Y := (by rw [hY]; exact (Below.refl _ _).alloc (Nat.le_refl _) _); clear hY; have hCk := check_leafV u1 Y ((unhide N1).keep bY) (by first | omega | simp) (by first | omega | simp); rw [hpb] at hCk; simp only [code, Bool.false_eq_true, if_false, Nv.val] at hCk; refine hCk.mono ?_; rintro e w3 ⟨rfl, b3⟩; have y3 := (b3.block _ (heap_lt y8)).trans y8; obtain ⟨e0, e1, e2, e3, e4, e5, e6, e7⟩ := of8' y3; have N3 := hide ((unhide N1).keep (below_sub bY b3)); have R3 := hide (below_sub (unhide R1) (below_sub bY b3)); clear y8 bY b3 y3 hCk))
        have HB0 := hide (unhide R3)
        go_loopw [10, 79] (fun s i wr => ∃ k : Nat, k ≤ words.length ∧ i = .int .i64 k ∧ s = .bool ((words.take k).any (fun x => holdsB 2 attr [] [x] 0 0 [⟨attr, vk, vn, vs⟩])) ∧ Below Wb.heap.size Wb wr) (fun _ i _ => words.length - (intOf i).toNat)
        case atStart => exact ⟨0, by omega, rfl, rfl, unhide HB0⟩
        case round =>
          obtain ⟨k, hk, rfl, rfl, hbel⟩ := hrel
          by_cases hlt : k < words.length
          · obtain ⟨x, hx, hd⟩ := get_at hlt
            clear hd
            obtain ⟨b, off, hq0, hb0, g0⟩ := wordsAt ((unhide HW1).below hbel) hx
            subst hq0
            have ki0 : (0 : Int) ≤ (k : Int) := by omega
            have ki1 : (k : Int) < (words.length : Int) := by omega
            have HS := hide (any_snoc (f := fun x => holdsB 2 attr [] [x] 0 0 [⟨attr, vk, vn, vs⟩]) hx)
            have hEx := hE 2 [] [x] 0 0
            have HB := hide hbel
            clear hx hbel hb0
            cases hA : (words.take k).any (fun x => holdsB 2 attr [] [x] 0 0 [⟨attr, vk, vn, vs⟩]) with
            | true =>
              cases hb1 : holdsB 2 attr [] [x] 0 0 [⟨attr, vk, vn, vs⟩] with
              | true =>
                rw [hb1] at hEx
                have hRx := hE 4 [] [x] 0 0
                rw [pref_of hb1] at hRx
                obtain ⟨hk1, hn1⟩ := one_wrd hb1
                have nk : (vk != 2) = false := by simp [hk1]
                have nn : (!vs.toList == x.toList) = false := by simp [hn1]
                clear hk1 hn1
                go_wp2_with (first
                  | (go_at_call 10; refine (hRx _ _ (unhide R2) (unhide N2) (by simp) (by simp)).mono ?_; rintro e w5 ⟨rfl, b5⟩; obtain ⟨q0, q1, q2⟩ := of3' (((below_sub (unhide R2) b5).block _ zv).trans (unhide V1)); have R3 := hide (below_sub (unhide R2) b5); clear b5)
                  | (go_at_call 28; refine (words_big attr (some ⟨wr.heap.size, 0, none⟩) 1 [x] _ (one_words (box_nw _ _)) (by simp)).mono ?_; rintro e w2 ⟨⟨u1, rfl, n1⟩, b2⟩; simp only [Nv.val]; have N1 := hide n1.toIn; have R1 := hide (below_sub (unhide HB) (below_sub ((Below.refl _ _).alloc (Nat.le_refl _) _) b2)); clear n1 b2)
                  | (go_at_call 29; refine (prefix_any attr x _).mono ?_; rintro e w4 ⟨⟨u2, rfl, n2⟩, b4⟩; simp only [Nv.val]; have N2 := hide n2.toIn; have R2 := hide (below_sub (unhide R) b4); clear n2 b4)
                  | (go_at_call 10; refine (hEx _ _ (unhide R1) (unhide N1) (by simp) (by simp)).mono ?_; rintro e w3 ⟨rfl, b3⟩; have R := hide (below_sub (unhide R1) b3); clear b3))
                go_roundw
                case rel => exact ⟨k + 1, by omega, by go_num, congrArg Value.bool (by rw [unhide HS, hA, hb1]; rfl), unhide R3⟩
                case measure => simp [intOf]; omega
              | false =>
                rw [hb1] at hEx
                go_wp2_with (first
                  | (go_at_call 28; refine (words_big attr (some ⟨wr.heap.size, 0, none⟩) 1 [x] _ (one_words (box_nw _ _)) (by simp)).mono ?_; rintro e w2 ⟨⟨u1, rfl, n1⟩, b2⟩; simp only [Nv.val]; have N1 := hide n1.toIn; have R1 := hide (below_sub (unhide HB) (below_sub ((Below.refl _ _).alloc (Nat.le_refl _) _) b2)); clear n1 b2)
                  | (go_at_call 10; refine (hEx _ _ (unhide R1) (unhide N1) (by simp) (by simp)).mono ?_; rintro e w3 ⟨rfl, b3⟩; have R := hide (below_sub (unhide R1) b3); clear b3))
                go_roundw
                case rel => exact ⟨k + 1, by omega, by go_num, congrArg Value.bool (by rw [unhide HS, hA, hb1]; rfl), unhide R⟩
                case measure => simp [intOf]; omega
            | false =>
              cases hb1 : holdsB 2 attr [] [x] 0 0 [⟨attr, vk, vn, vs⟩] with
              | true =>
                rw [hb1] at hEx
                have hRx := hE 4 [] [x] 0 0
                rw [pref_of hb1] at hRx
                obtain ⟨hk1, hn1⟩ := one_wrd hb1
                have nk : (vk != 2) = false := by simp [hk1]
                have nn : (!vs.toList == x.toList) = false := by simp [hn1]
                clear hk1 hn1
                go_wp2_with (first
                  | (go_at_call 10; refine (hRx _ _ (unhide R2) (unhide N2) (by simp) (by simp)).mono ?_; rintro e w5 ⟨rfl, b5⟩; obtain ⟨q0, q1, q2⟩ := of3' (((below_sub (unhide R2) b5).block _ zv).trans (unhide V1)); have R3 := hide (below_sub (unhide R2) b5); clear b5)
                  | (go_at_call 28; refine (words_big attr (some ⟨wr.heap.size, 0, none⟩) 1 [x] _ (one_words (box_nw _ _)) (by simp)).mono ?_; rintro e w2 ⟨⟨u1, rfl, n1⟩, b2⟩; simp only [Nv.val]; have N1 := hide n1.toIn; have R1 := hide (below_sub (unhide HB) (below_sub ((Below.refl _ _).alloc (Nat.le_refl _) _) b2)); clear n1 b2)
                  | (go_at_call 29; refine (prefix_any attr x _).mono ?_; rintro e w4 ⟨⟨u2, rfl, n2⟩, b4⟩; simp only [Nv.val]; have N2 := hide n2.toIn; have R2 := hide (below_sub (unhide R) b4); clear n2 b4)
                  | (go_at_call 10; refine (hEx _ _ (unhide R1) (unhide N1) (by simp) (by simp)).mono ?_; rintro e w3 ⟨rfl, b3⟩; have R := hide (below_sub (unhide R1) b3); clear b3))
                go_roundw
                case rel => exact ⟨k + 1, by omega, by go_num, congrArg Value.bool (by rw [unhide HS, hA, hb1]; rfl), unhide R3⟩
                case measure => simp [intOf]; omega
              | false =>
                rw [hb1] at hEx
                go_wp2_with (first
                  | (go_at_call 28; refine (words_big attr (some ⟨wr.heap.size, 0, none⟩) 1 [x] _ (one_words (box_nw _ _)) (by simp)).mono ?_; rintro e w2 ⟨⟨u1, rfl, n1⟩, b2⟩; simp only [Nv.val]; have N1 := hide n1.toIn; have R1 := hide (below_sub (unhide HB) (below_sub ((Below.refl _ _).alloc (Nat.le_refl _) _) b2)); clear n1 b2)
                  | (go_at_call 10; refine (hEx _ _ (unhide R1) (unhide N1) (by simp) (by simp)).mono ?_; rintro e w3 ⟨rfl, b3⟩; have R := hide (below_sub (unhide R1) b3); clear b3))
                go_roundw
                case rel => exact ⟨k + 1, by omega, by go_num, congrArg Value.bool (by rw [unhide HS, hA, hb1]; rfl), unhide R⟩
                case measure => simp [intOf]; omega
          · have ki1 : ¬ (k : Int) < (words.length : Int) := by omega
            obtain rfl : k = words.length := by omega
            rw [List.take_length]
            have HB0 := hide hbel
            clear hbel hk hlt
            cases hpb : predB 2 attr [] words 0 0 with
            | true =>
              have hSx := hE 2 [] words 0 0
              rw [wset_any hpb] at hSx
              obtain ⟨aa, haa⟩ : ∃ aa, words.any (fun x => holdsB 2 attr [] [x] 0 0 [⟨attr, vk, vn, vs⟩]) = aa := ⟨_, rfl⟩
              rw [haa] at hSx
              rw [haa]
              clear haa
              have naa : (aa != aa) = false := by simp
              have eaa : (aa == aa) = true := by simp
              go_wp2_with (first
                | (go_at_call 28; refine (words_big attr qw cw words wr ((unhide HW1).below (unhide HB0)) m2).mono ?_; rintro e w2 ⟨⟨u1, rfl, n1⟩, b2⟩; simp only [Nv.val]; have N1 := hide n1.toIn; have R1 := hide (below_sub (unhide HB0) b2); clear n1 b2)
                | (go_at_call 27; refine name_world ?_; intro Y hY; have y8 : Y.heap[w2.heap.size]? = some (.cells #[.int .i64 u1.kind, .string u1.attr, .slice u1.qi u1.ni u1.ci, .slice u1.qw u1.nw u1.cw, .int .i64 u1.lo, .int .i64 u1.hi, .int .i64 u1.op, .slice u1.qk u1.nk u1.ck] 31 (0, 0)) := (by rw [hY]; exact box_nw _ _); have bY : Below w2.heap.size w2 Y := (by rw [hY]; exact (Below.refl _ _).alloc (Nat.le_refl _) _); clear hY; have hCk := check_leafV u1 Y ((unhide N1).keep bY) (by first | omega | simp) (by first | omega | simp); rw [hpb] at hCk; simp only [code, if_true, Nv.val] at hCk; refine hCk.mono ?_; rintro e w3 ⟨rfl, b3⟩; have y3 := (b3.block _ (heap_lt y8)).trans y8; obtain ⟨e0, e1, e2, e3, e4, e5, e6, e7⟩ := of8' y3; have N3 := hide ((unhide N1).keep (below_sub bY b3)); have R3 := hide (below_sub (unhide R1) (below_sub bY b3)); clear y8 bY b3 y3 hCk)
                | (go_at_call 10; refine (hSx _ _ (unhide R3) (unhide N3) (by first | omega | simp) (by first | omega | simp)).mono ?_; rintro e w4 ⟨rfl, b4⟩; have R4 := hide (below_sub (unhide R3) b4); clear b4))
              go_ret
              exact ⟨ret_bool (by simp), below_sub (unhide B2) (unhide R4)⟩
            | false =>
              obtain ⟨aa, haa⟩ : ∃ aa, words.any (fun x => holdsB 2 attr [] [x] 0 0 [⟨attr, vk, vn, vs⟩]) = aa := ⟨_, rfl⟩
              rw [haa]
              clear haa
              go_wp2_with (first
                | (go_at_call 28; refine (words_big attr qw cw words wr ((unhide HW1).below (unhide HB0)) m2).mono ?_; rintro e w2 ⟨⟨u1, rfl, n1⟩, b2⟩; simp only [Nv.val]; have N1 := hide n1.toIn; have R1 := hide (below_sub (unhide HB0) b2); clear n1 b2)
                | (go_at_call 27; refine name_world ?_; intro Y hY; have y8 : Y.heap[w2.heap.size]? = some (.cells #[.int .i64 u1.kind, .string u1.attr, .slice u1.qi u1.ni u1.ci, .slice u1.qw u1.nw u1.cw, .int .i64 u1.lo, .int .i64 u1.hi, .int .i64 u1.op, .slice u1.qk u1.nk u1.ck] 31 (0, 0)) := (by rw [hY]; exact box_nw _ _); have bY : Below w2.heap.size w2 Y := (by rw [hY]; exact (Below.refl _ _).alloc (Nat.le_refl _) _); clear hY; have hCk := check_leafV u1 Y ((unhide N1).keep bY) (by first | omega | simp) (by first | omega | simp); rw [hpb] at hCk; simp only [code, Bool.false_eq_true, if_false, Nv.val] at hCk; refine hCk.mono ?_; rintro e w3 ⟨rfl, b3⟩; have y3 := (b3.block _ (heap_lt y8)).trans y8; obtain ⟨e0, e1, e2, e3, e4, e5, e6, e7⟩ := of8' y3; have N3 := hide ((unhide N1).keep (below_sub bY b3)); have R3 := hide (below_sub (unhide R1) (below_sub bY b3)); clear y8 bY b3 y3 hCk))
              go_ret
              exact ⟨ret_bool (by simp), below_sub (unhide B2) (unhide R3)⟩

end Go.Proofs.Ytmdkdkcjgjknoaa

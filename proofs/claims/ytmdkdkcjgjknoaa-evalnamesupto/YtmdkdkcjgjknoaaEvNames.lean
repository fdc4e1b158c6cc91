/- The law EvalNames returns true, whatever it is given (of bounded size). -/
import Derived.Test.YtmdkdkcjgjknoaaEvFixed
namespace Go.Proofs.Ytmdkdkcjgjknoaa
open Go.RowKit Go.Sort

theorem Try.info48 : (Try.prog.info? 48).map (fun i => (i.zero, i.size, i.bytes)) = some (some (.agg #[.string ⟨#[]⟩, .int .i64 0, .int .i64 0, .string ⟨#[]⟩]), 4, 48) := by kernel_rfl
theorem rowP : RowOf encP 23 48 4 48 where
  und := Try.underlying23
  info := by
    obtain ⟨i0, hi, hz0, hz1, hz2⟩ := info_parts Try.info48
    exact ⟨i0, _, hi, hz0, hz1, hz2, rfl⟩
  pos := by decide
  one := one_flat (fun x c hc => by
    have hm : c = 0 ∨ c = 1 ∨ c = 2 ∨ c = 3 := by omega
    rcases hm with e | e | e | e <;> rw [e] <;> rfl) (by decide)
theorem of4' {w : World} {N : Nat} {a0 a1 a2 a3 : Value} {T : TypeId} (h : w.heap[N]? = some (.cells #[a0, a1, a2, a3] T (0, 0))) : w.cell? ⟨N, 0, none⟩ = some a0 ∧ w.cell? ⟨N, 1, none⟩ = some a1 ∧ w.cell? ⟨N, 2, none⟩ = some a2 ∧ w.cell? ⟨N, 3, none⟩ = some a3 := by
  refine ⟨?_, ?_, ?_, ?_⟩ <;> rw [Lib.cell_of_heap h] <;> rfl
theorem flP1 (x : Pr) : (flatK encP 4 [x].toArray).toList = encP x := by
  apply List.ext_getElem?
  intro i
  by_cases hi : i < 4
  · have h := flat_at (enc := encP) (k := 4) (l := [x]) (j := 0) rfl i hi
    rw [Nat.zero_mul, Nat.zero_add] at h
    rw [h]
    have hm : i = 0 ∨ i = 1 ∨ i = 2 ∨ i = 3 := by omega
    rcases hm with e | e | e | e <;> rw [e] <;> rfl
  · rw [List.getElem?_eq_none (by simp [flatK]; omega), List.getElem?_eq_none (by simp [encP]; omega)]
theorem pair_src {w : World} {M : Nat} {x : Pr} {T : TypeId} (h : w.heap[M]? = some (.cells #[.string x.name, .int .i64 x.kind, .int .i64 x.int, .string x.word] T (0, 0))) : SrcK encP 4 w (some ⟨M, 0, none⟩) 1 [x] :=
  (block_of (enc := encP) (k := 4) (l := [x]) h (by rw [flP1]; rfl) (by simp)).src
mutual
/-- Does a tree name it? -/
def namN (a : ByteArray) : Nd → Bool
  | .mk _ attr _ _ _ _ _ ks => (attr.toList == a.toList) || namL a ks
def namL (a : ByteArray) : List Nd → Bool
  | [] => false
  | x :: xs => namN a x || namL a xs
end
theorem namL_eq (a : ByteArray) (l : List Nd) : namL a l = l.any (namN a) := by induction l with
  | nil => simp [namL]
  | cons x l ih => simp [namL, ih]
set_option maxRecDepth 100000 in
set_option maxHeartbeats 2000000 in
theorem named_any (a : ByteArray) : ∀ (t : Nd) (v : Nv) (w : World), NdIn w v t → wtN t ≤ 1000000000 →
    Calls Try.prog 24 #[v.val, .string a] w fun e w' => e = .returned (.bool (namN a t)) ∧ Below w.heap.size w w' := by
  intro t
  induction t using Nd.ind with
  | h kind attr ints words lo hi op kids ih =>
    intro v w hin hwt
    obtain ⟨qi, ci, qw, cw, qk, ck, rfl, _, _, hk⟩ := hin.parts
    obtain ⟨_, _, l4⟩ := wtN_parts hwt
    have hlen := Nat.le_trans (Nat.le_trans (len_size kids) (sizeL_wt kids)) l4
    have a0 : (kids.length : Int) ≤ 1000000000 := by omega
    have HK := hide hk
    have IH := hide ih
    have L4 := hide l4
    clear hk ih hin hwt l4
    simp only [Nv.val, namN, namL_eq]
    cases hq : (attr.toList == a.toList) with
    | true =>
      simp only [Bool.true_or]
      go_enter Try.func24, Try.ntmps24
      go_wp2
      go_ret
      exact ⟨rfl, (Below.refl _ _).alloc (Nat.le_refl _) _⟩
    | false =>
      simp only [Bool.false_or]
      go_enter Try.func24, Try.ntmps24
      go_wp2
      go_loopw [15] (fun i wr => ∃ k : Nat, k ≤ kids.length ∧ i = .int .i64 k ∧ Below w.heap.size w wr ∧ (∀ (j : Nat) (x : Nd), j < k → kids[j]? = some x → namN a x = false)) (fun i _ => kids.length - (intOf i).toNat)
      case atStart => exact ⟨0, by omega, rfl, (Below.refl _ _).alloc (Nat.le_refl _) _, fun j x hj => by omega⟩
      case round =>
        obtain ⟨k, hkk, rfl, hbel, hno⟩ := hrel
        have HNo := hide hno
        clear hno
        by_cases hlt : k < kids.length
        · obtain ⟨x, hx, hd⟩ := get_at hlt
          clear hd
          obtain ⟨bb, off, v, hq0, hin, g0, g1, g2, g3, g4, g5, g6, g7⟩ := (unhide HK).on hx hbel
          subst hq0
          have hxm : x ∈ kids := List.mem_of_getElem? hx
          have ki0 : (0 : Int) ≤ (k : Int) := by omega
          have ki1 : (k : Int) < (kids.length : Int) := by omega
          have hT := unhide IH x hxm v (wr.alloc (.cells #[.int .i64 v.kind, .string v.attr, .slice v.qi v.ni v.ci, .slice v.qw v.nw v.cw, .int .i64 v.lo, .int .i64 v.hi, .int .i64 v.op, .slice v.qk v.nk v.ck] 31)) (hin.keep ((Below.refl _ _).alloc (Nat.le_refl _) _)) (Nat.le_trans (wtL_mem hxm) (unhide L4))
          simp only [Nv.val] at hT
          have Hx := hide hx
          have HB := hide hbel
          clear hx hxm hin hbel
          cases hq2 : namN a x with
          | true =>
            rw [hq2] at hT
            go_wp2_with (go_at_call 24; refine hT.mono ?_; rintro e w1 ⟨rfl, b1⟩; have B1 := hide (below_sub ((Below.refl wr.heap.size wr).alloc (Nat.le_refl _) _) b1); clear b1)
            go_ret
            exact ⟨ret_bool (any_yes (unhide Hx) hq2).symm, below_sub (unhide HB) (unhide B1)⟩
          | false =>
            rw [hq2] at hT
            go_wp2_with (go_at_call 24; refine hT.mono ?_; rintro e w1 ⟨rfl, b1⟩; have B1 := hide (below_sub ((Below.refl wr.heap.size wr).alloc (Nat.le_refl _) _) b1); clear b1)
            go_roundw
            case rel => exact ⟨k + 1, by omega, by go_num, below_sub (unhide HB) (unhide B1), fun j y hj hy => by
              by_cases e : j = k
              · subst e; rw [unhide Hx] at hy; cases hy; exact hq2
              · exact unhide HNo j y (by omega) hy⟩
            case measure => simp [intOf]; omega
        · have ki1 : ¬ (k : Int) < (kids.length : Int) := by omega
          have HZ := hide (any_none (fun j x hj hx => unhide HNo j x (by omega) hx))
          go_wp2
          go_ret
          exact ⟨ret_bool (unhide HZ).symm, hbel⟩
theorem any_cong {α : Type} {f g : α → Bool} {l : List α} (h : ∀ x ∈ l, f x = g x) : l.any f = l.any g := by
  induction l with
  | nil => rfl
  | cons x l ih => simp only [List.any_cons, h x List.mem_cons_self, ih (fun y hy => h y (List.mem_cons_of_mem _ hy))]
/- What the tree doesn't name plays no part. -/
theorem tru_same {e1 e2 : List Pr} : ∀ t, (∀ a, namN a t = true → getP a e1 = getP a e2) → truN e1 t = truN e2 t := by
  intro t
  induction t using Nd.ind with
  | h kind attr ints words lo hi op kids ih =>
    intro h
    have hk : ∀ x ∈ kids, truN e1 x = truN e2 x := fun x hx => ih x hx (fun a ha => h a (by
      simp only [namN, namL_eq, Bool.or_eq_true, List.any_eq_true]
      exact Or.inr ⟨x, hx, ha⟩))
    have hh : holdsB kind attr ints words lo hi e1 = holdsB kind attr ints words lo hi e2 := by
      unfold holdsB
      rw [h attr (by simp [namN])]
    have ha : anyT e1 kids = anyT e2 kids := by
      rw [anyT_eq, anyT_eq]
      exact any_cong hk
    have hb : allT e1 kids = allT e2 kids := by
      rw [allT_eq, allT_eq]
      exact congrArg (!·) (any_cong (fun x hx => congrArg (!·) (hk x hx)))
    simp only [truN, hh, ha, hb]
theorem getP_app (a : ByteArray) (l m : List Pr) : getP a (l ++ m) = (getP a l).orElse (fun _ => getP a m) := by
  induction l with
  | nil => simp [getP]
  | cons x l ih => simp only [List.cons_append, getP]; split <;> simp [ih]
theorem getP_out (a : ByteArray) (f : Pr → Bool) (l : List Pr) (h : ∀ x ∈ l, (x.name.toList == a.toList) = true → f x = false) : getP a (l.filter f) = none := by
  induction l with
  | nil => simp [getP]
  | cons x l ih =>
    have ih := ih (fun y hy => h y (List.mem_cons_of_mem _ hy))
    rw [List.filter_cons]
    split
    · simp only [getP]
      split
      · rename_i h1 h2
        rw [h x List.mem_cons_self h2] at h1
        cases h1
      · exact ih
    · exact ih
theorem getP_in (a : ByteArray) (f : Pr → Bool) (l : List Pr) (h : ∀ x ∈ l, (x.name.toList == a.toList) = true → f x = true) : getP a (l.filter f) = getP a l := by
  induction l with
  | nil => rfl
  | cons x l ih =>
    have ih := ih (fun y hy => h y (List.mem_cons_of_mem _ hy))
    rw [List.filter_cons]
    split
    · simp only [getP, ih]
    · rename_i h1
      simp only [getP]
      split
      · rename_i h2
        exact absurd (h x List.mem_cons_self h2) h1
      · exact ih
theorem bytes_eq {a b : ByteArray} (h : (a.toList == b.toList) = true) : a = b := by
  have h := eq_of_beq h
  rw [ByteArray.toList_eq, ByteArray.toList_eq] at h
  exact WideShapes.bytes_inj h
theorem names_same (t : Nd) (more ev : List Pr) : evalN (more.filter (fun p => !namN p.name t) ++ ev.filter (fun p => namN p.name t)) t = evalN ev t := by
  unfold evalN
  rw [tru_same t (e2 := ev)]
  intro a ha
  rw [getP_app, getP_out a _ more (fun x _ hx => by rw [bytes_eq hx, ha]; rfl), getP_in a _ ev (fun x _ hx => by rw [bytes_eq hx, ha])]
  rfl
set_option maxRecDepth 100000 in
set_option maxHeartbeats 8000000 in
theorem evalNames_any (t : Nd) (v : Nv) (qe : Option Addr) (ce : Nat) (ev : List Pr) (qm : Option Addr) (cm : Nat) (more : List Pr) (w : World) (hin : NdIn w v t) (he : SlOf encP 4 w qe ce ev) (hm : SlOf encP 4 w qm cm more) (hwt : wtN t ≤ 10000000) (le : ev.length ≤ 10000000) (lm : more.length ≤ 10000000) :
    Calls Try.prog 5 #[v.val, .slice qe ev.length ce, .slice qm more.length cm] w fun e w' => e = .returned (.bool true) ∧ Below w.heap.size w w' := by
  have mixed : Try.prog.follows .mixedOrders = true := by kernel_rfl
  simp only [Nv.val]
  obtain ⟨X, HX⟩ : ∃ X, w.alloc (.cells #[.int .i64 v.kind, .string v.attr, .slice v.qi v.ni v.ci, .slice v.qw v.nw v.cw, .int .i64 v.lo, .int .i64 v.hi, .int .i64 v.op, .slice v.qk v.nk v.ck] 31) = X := ⟨_, rfl⟩
  have x8 : X.heap[w.heap.size]? = some (.cells #[.int .i64 v.kind, .string v.attr, .slice v.qi v.ni v.ci, .slice v.qw v.nw v.cw, .int .i64 v.lo, .int .i64 v.hi, .int .i64 v.op, .slice v.qk v.nk v.ck] 31 (0, 0)) := by rw [← HX]; exact box_nw _ _
  have bX : Below w.heap.size w X := by rw [← HX]; exact (Below.refl _ _).alloc (Nat.le_refl _) _
  have hfx := fixed_any X
  have X8 := hide x8
  have BX := hide bX
  have HIN := hide hin
  have HEV := hide he
  have HMO := hide hm
  have le0 : (ev.length : Int) ≤ 10000000 := by omega
  have lm0 : (more.length : Int) ≤ 10000000 := by omega
  clear hin he hm x8 bX
  go_enter Try.func5, Try.ntmps5
  go_wp2_with (go_at_call 7; refine hfx.mono ?_; rintro e w1 ⟨rfl, b1⟩; have W8 := hide ((b1.block _ (heap_lt (unhide X8))).trans (unhide X8)); have B1 := hide (below_sub (unhide BX) b1); clear b1)
  have IN1 := hide ((unhide HIN).keep (unhide B1))
  have EV1 := hide ((unhide HEV).below (unhide B1))
  have MO1 := hide ((unhide HMO).below (unhide B1))
  have hz1 := heap_lt (unhide W8)
  clear hfx HX X8 BX HIN HEV HMO
  go_loopw [7, 16] (fun s i wr => ∃ k : Nat, k ≤ more.length ∧ i = .int .i64 k ∧ Below w1.heap.size w1 wr ∧ ∃ q' c' n, s = .slice q' n c' ∧ ((more.take k).filter (fun p => !namN p.name t)).length = n ∧ n ≤ k ∧ OwnK encP 48 4 w1.heap.size wr q' c' ((more.take k).filter (fun p => !namN p.name t))) (fun _ i _ => more.length - (intOf i).toNat)
  case atStart => exact ⟨0, by omega, rfl, Below.refl _ _, none, 0, 0, rfl, rfl, by omega, OwnK.nil _ _⟩
  case round =>
    obtain ⟨k, hk, rfl, hbel, q', c', n, rfl, hn, hnk, hown⟩ := hrel
    have HO := hide hown
    have HN := hide hn
    clear hown hn
    by_cases hlt : k < more.length
    · obtain ⟨x, hx, hd⟩ := get_at hlt
      clear hd
      obtain ⟨bb, off, hq0, hbb, g0, g1, g2, g3⟩ := prsAt ((unhide MO1).below hbel) hx
      subst hq0
      have ki0 : (0 : Int) ≤ (k : Int) := by omega
      have ki1 : (k : Int) < (more.length : Int) := by omega
      obtain ⟨z0, z1, z2, z3, z4, z5, z6, z7⟩ := of8' ((hbel.block _ hz1).trans (unhide W8))
      have hzr : w.heap.size < wr.heap.size := Nat.lt_of_lt_of_le hz1 hbel.size
      have hne : ¬ w.heap.size = wr.heap.size := by omega
      have hT := named_any x.name t v (wr.alloc (.cells #[.string x.name, .int .i64 x.kind, .int .i64 x.int, .string x.word] 48)) ((unhide IN1).keep (below_sub hbel ((Below.refl _ _).alloc (Nat.le_refl _) _))) (by omega)
      simp only [Nv.val] at hT
      have Hx := hide hx
      have HB := hide hbel
      clear hx hbel
      cases hq : namN x.name t with
      | true =>
        rw [hq] at hT
        have HY : Hid ((more.take (k + 1)).filter (fun p => !namN p.name t) = (more.take k).filter (fun p => !namN p.name t)) := hide (by rw [take_snoc_of (unhide Hx), List.filter_append]; simp [hq])
        go_wp2_with (go_at_call 24; refine hT.mono ?_; rintro e w2 ⟨rfl, b2⟩; have B2 := hide (below_sub ((Below.refl wr.heap.size wr).alloc (Nat.le_refl _) _) b2); clear b2)
        go_roundw
        case rel => exact ⟨k + 1, by omega, by go_num, below_sub (unhide HB) (unhide B2), q', c', n, rfl, by rw [unhide HY]; exact unhide HN, by omega, by rw [unhide HY]; exact (unhide HO).below (unhide B2)⟩
        case measure => simp [intOf]; omega
      | false =>
        rw [hq] at hT
        have HY : Hid ((more.take (k + 1)).filter (fun p => !namN p.name t) = (more.take k).filter (fun p => !namN p.name t) ++ [x]) := hide (by rw [take_snoc_of (unhide Hx), List.filter_append]; simp [hq])
        go_wp2_with (first
          | (go_at_call 24; refine hT.mono ?_; rintro e w2 ⟨rfl, b2⟩; obtain ⟨y0, y1, y2, y3⟩ := of4' ((b2.block _ (by simp)).trans (box_nw _ _)); have B2 := hide (below_sub ((Below.refl wr.heap.size wr).alloc (Nat.le_refl _) _) b2); clear b2)
          | (at_builtin; refine wpList_app rowP rfl _ _ rfl w1.heap.size q' c' ((more.take k).filter (fun p => !namN p.name t)) (some ⟨w2.heap.size, 0, none⟩) 1 [x] n 1 (n + 1) (unhide HN) rfl rfl rfl rfl ((unhide HO).below (below_sub (unhide B2) ((Below.refl _ _).alloc (Nat.le_refl _) _))) (pair_src (box_nw _ _)) (by unfold maxLen; omega) (by omega) (by simp; have := (unhide HB).size; have := (unhide B2).size; omega) ?_; intro q2 c2 w3 hown2 hb2 _ hg2))
        go_roundw
        case rel => exact ⟨k + 1, by omega, by go_num, ((below_sub (unhide HB) (unhide B2)).alloc (below_sub (unhide HB) (unhide B2)).size _).trans hb2, q2, c2, n + 1, rfl, by rw [unhide HY, List.length_append, unhide HN]; rfl, by omega, by rw [unhide HY]; exact hown2⟩
        case measure => simp [intOf]; omega
    · have ki1 : ¬ (k : Int) < (more.length : Int) := by omega
      obtain rfl : k = more.length := by omega
      have ho := unhide HO
      have hn := unhide HN
      rw [List.take_length] at ho hn
      obtain ⟨FM, hFM⟩ : ∃ FM, more.filter (fun p => !namN p.name t) = FM := ⟨_, rfl⟩
      rw [hFM] at ho hn
      have hfl : FM.length ≤ 10000000 := by omega
      have HF := hide hFM
      have OH := hide ho
      have NH := hide hn
      have HB0 := hide hbel
      clear hFM ho hn HO HN hk hnk hlt hbel
      go_wp2
      go_loopw [7, 32] (fun s i wr => ∃ k : Nat, k ≤ ev.length ∧ i = .int .i64 k ∧ Below w1.heap.size w1 wr ∧ ∃ q' c' n, s = .slice q' n c' ∧ ((FM ++ (ev.take k).filter (fun p => namN p.name t))).length = n ∧ n ≤ FM.length + k ∧ OwnK encP 48 4 w1.heap.size wr q' c' ((FM ++ (ev.take k).filter (fun p => namN p.name t)))) (fun _ i _ => ev.length - (intOf i).toNat)
      case atStart => exact ⟨0, by omega, rfl, unhide HB0, q', c', n, rfl, by simp [unhide NH], by have := unhide NH; omega, by simpa using unhide OH⟩
      case round =>
        obtain ⟨k, hk, rfl, hbel, q', c', n, rfl, hn, hnk, hown⟩ := hrel
        have HO := hide hown
        have HN := hide hn
        clear hown hn
        by_cases hlt : k < ev.length
        · obtain ⟨x, hx, hd⟩ := get_at hlt
          clear hd
          obtain ⟨bb, off, hq0, hbb, g0, g1, g2, g3⟩ := prsAt ((unhide EV1).below hbel) hx
          subst hq0
          have ki0 : (0 : Int) ≤ (k : Int) := by omega
          have ki1 : (k : Int) < (ev.length : Int) := by omega
          obtain ⟨z0, z1, z2, z3, z4, z5, z6, z7⟩ := of8' ((hbel.block _ hz1).trans (unhide W8))
          have hzr : w.heap.size < wr.heap.size := Nat.lt_of_lt_of_le hz1 hbel.size
          have hne : ¬ w.heap.size = wr.heap.size := by omega
          have hT := named_any x.name t v (wr.alloc (.cells #[.string x.name, .int .i64 x.kind, .int .i64 x.int, .string x.word] 48)) ((unhide IN1).keep (below_sub hbel ((Below.refl _ _).alloc (Nat.le_refl _) _))) (by omega)
          simp only [Nv.val] at hT
          have Hx := hide hx
          have HB := hide hbel
          clear hx hbel
          cases hq : namN x.name t with
          | true =>
            rw [hq] at hT
            have HY : Hid ((FM ++ (ev.take (k + 1)).filter (fun p => namN p.name t)) = (FM ++ (ev.take k).filter (fun p => namN p.name t)) ++ [x]) := hide (by rw [take_snoc_of (unhide Hx), List.filter_append, ← List.append_assoc]; simp [hq])
            go_wp2_with (first
              | (go_at_call 24; refine hT.mono ?_; rintro e w2 ⟨rfl, b2⟩; obtain ⟨y0, y1, y2, y3⟩ := of4' ((b2.block _ (by simp)).trans (box_nw _ _)); have B2 := hide (below_sub ((Below.refl wr.heap.size wr).alloc (Nat.le_refl _) _) b2); clear b2)
              | (at_builtin; refine wpList_app rowP rfl _ _ rfl w1.heap.size q' c' ((FM ++ (ev.take k).filter (fun p => namN p.name t))) (some ⟨w2.heap.size, 0, none⟩) 1 [x] n 1 (n + 1) (unhide HN) rfl rfl rfl rfl ((unhide HO).below (below_sub (unhide B2) ((Below.refl _ _).alloc (Nat.le_refl _) _))) (pair_src (box_nw _ _)) (by unfold maxLen; omega) (by omega) (by simp; have := (unhide HB).size; have := (unhide B2).size; omega) ?_; intro q2 c2 w3 hown2 hb2 _ hg2))
            go_roundw
            case rel => exact ⟨k + 1, by omega, by go_num, ((below_sub (unhide HB) (unhide B2)).alloc (below_sub (unhide HB) (unhide B2)).size _).trans hb2, q2, c2, n + 1, rfl, by rw [unhide HY, List.length_append, unhide HN]; rfl, by omega, by rw [unhide HY]; exact hown2⟩
            case measure => simp [intOf]; omega
          | false =>
            rw [hq] at hT
            have HY : Hid ((FM ++ (ev.take (k + 1)).filter (fun p => namN p.name t)) = (FM ++ (ev.take k).filter (fun p => namN p.name t))) := hide (by rw [take_snoc_of (unhide Hx), List.filter_append, ← List.append_assoc]; simp [hq])
            go_wp2_with (go_at_call 24; refine hT.mono ?_; rintro e w2 ⟨rfl, b2⟩; have B2 := hide (below_sub ((Below.refl wr.heap.size wr).alloc (Nat.le_refl _) _) b2); clear b2)
            go_roundw
            case rel => exact ⟨k + 1, by omega, by go_num, below_sub (unhide HB) (unhide B2), q', c', n, rfl, by rw [unhide HY]; exact unhide HN, by omega, by rw [unhide HY]; exact (unhide HO).below (unhide B2)⟩
            case measure => simp [intOf]; omega
        · have ki1 : ¬ (k : Int) < (ev.length : Int) := by omega
          obtain rfl : k = ev.length := by omega
          have ho := unhide HO
          have hn := unhide HN
          rw [List.take_length] at ho hn
          have HNS := hide (names_same t more ev)
          have hs := unhide HNS
          rw [unhide HF] at hs
          obtain ⟨L, hL⟩ : ∃ L, FM ++ ev.filter (fun p => namN p.name t) = L := ⟨_, rfl⟩
          rw [hL] at ho hn hs
          subst hn
          have lL : L.length ≤ 100000000000000 := by omega
          have z8 := (hbel.block _ hz1).trans (unhide W8)
          obtain ⟨z0, z1, z2, z3, z4, z5, z6, z7⟩ := of8' z8
          have f0 : ∀ n os, (grow (redrawn wr n) os).cell? ⟨w.heap.size, 0, none⟩ = some (.int .i64 v.kind) := cell_regrown z0
          have f1 : ∀ n os, (grow (redrawn wr n) os).cell? ⟨w.heap.size, 1, none⟩ = some (.string v.attr) := cell_regrown z1
          have f2 : ∀ n os, (grow (redrawn wr n) os).cell? ⟨w.heap.size, 2, none⟩ = some (.slice v.qi v.ni v.ci) := cell_regrown z2
          have f3 : ∀ n os, (grow (redrawn wr n) os).cell? ⟨w.heap.size, 3, none⟩ = some (.slice v.qw v.nw v.cw) := cell_regrown z3
          have f4 : ∀ n os, (grow (redrawn wr n) os).cell? ⟨w.heap.size, 4, none⟩ = some (.int .i64 v.lo) := cell_regrown z4
          have f5 : ∀ n os, (grow (redrawn wr n) os).cell? ⟨w.heap.size, 5, none⟩ = some (.int .i64 v.hi) := cell_regrown z5
          have f6 : ∀ n os, (grow (redrawn wr n) os).cell? ⟨w.heap.size, 6, none⟩ = some (.int .i64 v.op) := cell_regrown z6
          have f7 : ∀ n os, (grow (redrawn wr n) os).cell? ⟨w.heap.size, 7, none⟩ = some (.slice v.qk v.nk v.ck) := cell_regrown z7
          have rA := fun (n : Nat) (os : Array Obj) => eval_any t v q' c' L (grow (redrawn wr n) os) ((unhide IN1).keep (below_sub hbel (below_regrown wr n os))) (ho.ls.below (below_regrown wr n os)) (by omega) lL
          have rB := fun (n : Nat) (os : Array Obj) => eval_any t v qe ce ev (grow (redrawn wr n) os) ((unhide IN1).keep (below_sub hbel (below_regrown wr n os))) ((unhide EV1).below (below_sub hbel (below_regrown wr n os))) (by omega) (by omega)
          rw [hs] at rA
          generalize evalN ev t = bb at rA rB
          simp only [Nv.val] at rA rB
          have r10 : ∀ (n : Nat) (os : Array Obj) (q : Option Addr) (m c : Nat), ((q = q' ∧ m = L.length ∧ c = c') ∨ (q = qe ∧ m = ev.length ∧ c = ce)) → Calls Try.prog 10 #[.agg #[.int .i64 v.kind, .string v.attr, .slice v.qi v.ni v.ci, .slice v.qw v.nw v.cw, .int .i64 v.lo, .int .i64 v.hi, .int .i64 v.op, .slice v.qk v.nk v.ck], .slice q m c] (grow (redrawn wr n) os) fun e w' => e = .returned (.bool bb) ∧ Below (grow (redrawn wr n) os).heap.size (grow (redrawn wr n) os) w' := by
            rintro n os q m c (⟨rfl, rfl, rfl⟩ | ⟨rfl, rfl, rfl⟩)
            · exact rA n os
            · exact rB n os
          have hbb : (bb == bb) = true := by simp
          have en10 : ∀ args w, (callFunc 10 args).run Try.prog w = .ok (.enter 10 args) w := enters_of Try.func10 (by kernel_rfl) rfl
          have HBE := hide hbel
          clear rA rB z0 z1 z2 z3 z4 z5 z6 z7 z8 hs ho hbel lL
          go_wp2
          refine wp_region_quiet_below (by assumption) (by kernel_rfl) ?_
          repeat (go_big_quiet_step (first | (go_at_fn 10; refine Calls.regrown_of (r10 _ _ _ _ _ (by first | exact Or.inl ⟨rfl, rfl, rfl⟩ | exact Or.inr ⟨rfl, rfl, rfl⟩)))))
          refine wpQuiet_nil ?_
          intro _ hw'
          obtain ⟨⟨dq, osq⟩, hw''⟩ := hw'
          subst hw''
          go_wp2
          go_ret
          exact ⟨ret_bool (by simp), below_sub (unhide B1) (below_sub (unhide HBE) (below_regrown _ _ _))⟩
end Go.Proofs.Ytmdkdkcjgjknoaa

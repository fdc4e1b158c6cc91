/- What writeKids, write and Text do, for every tree. -/
import Derived.Test.YtencibjmiphinaaGreatDoorQWritePred
import Derived.Test.YtencibjmiphinaaGreatDoorQZag
namespace Go.Proofs.YtencibjmiphinaaGreatDoor
open Go.RowKit

theorem NdIn.op_eq {w : World} {v : Nv} {x : Nd} (h : NdIn w v x) : v.op = x.op := by cases h; rfl
theorem kidL_yes {op : Int} {x : Nd} (h : brack op x.op = true) : kidL op x = [40] ++ textN x ++ [41] := by unfold kidL wrapB; rw [h]; rfl
theorem kidL_no {op : Int} {x : Nd} (h : brack op x.op = false) : kidL op x = textN x := by unfold kidL wrapB; rw [h]; rfl
set_option maxHeartbeats 4000000 in
theorem writeKids_any (w0 : World) (b : Nat) (acc : List UInt8) (kind : Int) (attr : ByteArray) (qi : Option Addr) (ni ci : Nat) (qw : Option Addr) (nw cw : Nat) (lo hi op : Int) (qk : Option Addr) (ck : Nat) (kids : List Nd) (sep : ByteArray) (w : World) (hw : Below w0.heap.size w0 w) (hk : NdsOf w0 qk ck kids) (ih : ∀ x ∈ kids, WriteP w0 b x) (hwt : wtL kids ≤ 1000000000) (hb : Bld w0.heap.size b acc w)
    (hlen : (acc ++ jl sep.data.toList 0 (kids.map (kidL op))).length ≤ 140737488355328) :
    Calls Tryz.prog 76 #[.pointer (some ⟨b, 0, none⟩), .agg #[.int .i64 kind, .string attr, .slice qi ni ci, .slice qw nw cw, .int .i64 lo, .int .i64 hi, .int .i64 op, .slice qk kids.length ck], .string sep] w fun e w' => e = .returned (.tuple #[]) ∧ Bld w0.heap.size b (acc ++ jl sep.data.toList 0 (kids.map (kidL op))) w' ∧ Kept w0.heap.size b w w' := by
  have hblt := hb.lt
  have hws := hw.size
  obtain ⟨X, HX⟩ : ∃ X, w.alloc (.cells #[.int .i64 kind, .string attr, .slice qi ni ci, .slice qw nw cw, .int .i64 lo, .int .i64 hi, .int .i64 op, .slice qk kids.length ck] 29) = X := ⟨_, rfl⟩
  have hX0 : X.heap[w.heap.size]? = some (.cells #[.int .i64 kind, .string attr, .slice qi ni ci, .slice qw nw cw, .int .i64 lo, .int .i64 hi, .int .i64 op, .slice qk kids.length ck] 29 (0, 0)) := by rw [← HX]; exact box_new _ _
  have hwX : Below w.heap.size w X := by rw [← HX]; exact (Below.refl _ _).alloc (Nat.le_refl _) _
  obtain ⟨x0, x1, x2, x3, x4, x5, x6, x7⟩ := of8 hX0
  have HX0 := hide hX0
  have HWX := hide (Kept.of (b := b) hwX hws)
  have HBX := hide (hb.below hwX)
  have HW := hide hw
  have HK := hide hk
  have IH := hide ih
  have hln := len_size kids
  have hln2 := sizeL_wt kids
  have a0 : (kids.length : Int) ≤ 1000000000 := by omega
  simp only [List.length_append] at hlen
  clear hb hw hX0 hwX hk ih
  go_enter Tryz.func76, Tryz.ntmps76
  go_wp2
  go_loopw [11] (fun i wr => ∃ (k : Nat) (cur : List UInt8), k ≤ kids.length ∧ i = .int .i64 k ∧ cur ++ jl sep.data.toList k ((kids.map (kidL op)).drop k) = acc ++ jl sep.data.toList 0 (kids.map (kidL op)) ∧ Bld w0.heap.size b cur wr ∧ Kept w0.heap.size b w wr ∧ wr.heap[w.heap.size]? = some (.cells #[.int .i64 kind, .string attr, .slice qi ni ci, .slice qw nw cw, .int .i64 lo, .int .i64 hi, .int .i64 op, .slice qk kids.length ck] 29 (0, 0))) (fun i _ => kids.length - (intOf i).toNat)
  case atStart => exact ⟨0, acc, by omega, rfl, by simp, unhide HBX, unhide HWX, unhide HX0⟩
  case round =>
    obtain ⟨k, cur, hkk, rfl, heq, hbld, hkep, hbox⟩ := hrel
    clear HX HBX HWX HX0 x0 x1 x2 x3 x4 x5 x6 x7
    obtain ⟨U, rfl⟩ : ∃ U, U = wr := ⟨_, rfl⟩
    have hlq := len_part heq
    simp only [List.length_append] at hlq
    have hbel : Below w0.heap.size w0 U := (unhide HW).trans hkep.1
    by_cases hlt : k < kids.length
    · obtain ⟨x, hx, hxd⟩ := get_at hlt
      obtain ⟨b', off, v', hq, hb', hin0, g0, g1, g2, g3, g4, g5, g6, g7⟩ := (unhide HK).at hx
      subst hq
      have c0 := (hbel.cell (p := ⟨b', off + k * 8, none⟩) hb').trans g0
      have c1 := (hbel.cell (p := ⟨b', off + k * 8 + 1, none⟩) hb').trans g1
      have c2 := (hbel.cell (p := ⟨b', off + k * 8 + 2, none⟩) hb').trans g2
      have c3 := (hbel.cell (p := ⟨b', off + k * 8 + 3, none⟩) hb').trans g3
      have c4 := (hbel.cell (p := ⟨b', off + k * 8 + 4, none⟩) hb').trans g4
      have c5 := (hbel.cell (p := ⟨b', off + k * 8 + 5, none⟩) hb').trans g5
      have c6 := (hbel.cell (p := ⟨b', off + k * 8 + 6, none⟩) hb').trans g6
      have c7 := (hbel.cell (p := ⟨b', off + k * 8 + 7, none⟩) hb').trans g7
      have ki0 : (0 : Int) ≤ (k : Int) := by omega
      have ki1 : (k : Int) < (kids.length : Int) := by omega
      have hxm : x ∈ kids := List.mem_of_getElem? hx
      have hxs := wtL_mem hxm
      rw [map_drop_cons (kidL op) hx] at heq hlq
      obtain ⟨Y, HY⟩ : ∃ Y, U.alloc (.cells #[.int .i64 v'.kind, .string v'.attr, .slice v'.qi v'.ni v'.ci, .slice v'.qw v'.nw v'.cw, .int .i64 v'.lo, .int .i64 v'.hi, .int .i64 v'.op, .slice v'.qk v'.nk v'.ck] 29) = Y := ⟨_, rfl⟩
      have hM : Y.heap[U.heap.size]? = some (.cells #[.int .i64 v'.kind, .string v'.attr, .slice v'.qi v'.ni v'.ci, .slice v'.qw v'.nw v'.cw, .int .i64 v'.lo, .int .i64 v'.hi, .int .i64 v'.op, .slice v'.qk v'.nk v'.ck] 29 (0, 0)) := by rw [← HY]; exact box_new _ _
      have hN : Y.heap[w.heap.size]? = some (.cells #[.int .i64 kind, .string attr, .slice qi ni ci, .slice qw nw cw, .int .i64 lo, .int .i64 hi, .int .i64 op, .slice (some ⟨b', off, none⟩) kids.length ck] 29 (0, 0)) := by rw [← HY]; exact box_old _ hbox
      have hUY : Below U.heap.size U Y := by rw [← HY]; exact (Below.refl _ _).alloc (Nat.le_refl _) _
      obtain ⟨y0, y1, y2, y3, y4, y5, y6, y7⟩ := of8 hM
      obtain ⟨m0, m1, m2, m3, m4, m5, m6, m7⟩ := of8 hN
      have hUb := hbld.lt
      have hUs := hbel.size
      have hYs : w0.heap.size ≤ Y.heap.size := Nat.le_trans hUs hUY.size
      have HM := hide hM
      have HN := hide hN
      have HKY := hide (Kept.of (b := b) hUY hUs)
      have HBY := hide (hbld.below hUY)
      have HYB := hide (hbel.trans (hUY.mono hUs))
      have HKEP := hide hkep
      have HBOX := hide hbox
      have hbk := fun w => bracketed_any op v'.op w
      rw [hin0.op_eq] at hbk
      have hvo := hin0.op_eq
      rw [hvo] at y6 c6 HM HY
      clear g0 g1 g2 g3 g4 g5 g6 g7 hx hxd hM hN hUY hbox hkep hbld hbel
      by_cases h0 : 0 < k
      · have e0 : (0 : Int) < (k : Int) := by omega
        cases hbr : brack op x.op with
        | true =>
          rw [hbr] at hbk
          rw [jl_1 _ _ _ h0, kidL_yes hbr] at heq hlq
          have HE := hide heq
          simp only [List.length_append, List.length_cons, List.length_nil, bytes_len] at hlq
          clear heq
          have h2 := writeString_any w0.heap.size b cur sep Y (unhide HBY) (by omega) hYs
          have h4 := fun w hb hs => writeByte_any w0.heap.size b (cur ++ sep.data.toList) 40 40 rfl w hb (by simp; omega) hs
          have h3 := fun w hw hb => unhide IH x hxm v' w ((cur ++ sep.data.toList) ++ [40]) hin0 hw hb (by simp; omega) (by omega)
          have h5 := fun w hb hs => writeByte_any w0.heap.size b ((cur ++ sep.data.toList) ++ [40] ++ textN x) 41 41 rfl w hb (by simp; omega) hs
          simp only [Nv.val, hvo] at h3
          clear hxm hin0 hbr
          go_wp2_with (first
            | (go_at_call 108; refine h2.mono ?_; rintro e w2 ⟨rfl, d2, k2⟩; obtain ⟨p0, p1, p2, p3, p4, p5, p6, p7⟩ := of8 (k2.box (unhide HM) (by decide) (by omega)); obtain ⟨n0, n1, n2, n3, n4, n5, n6, n7⟩ := of8 (k2.box (unhide HN) (by decide) (by omega)); have D2 := hide d2; have K2 := hide k2; clear d2 k2)
            | (go_at_call 114; refine (hbk _).mono ?_; rintro e w' ⟨rfl, hw⟩; obtain rfl := hw.symm; clear hw)
            | (go_at_call 75; have hB := unhide D3; clear hB; refine (h5 _ (by exact unhide D3) (by exact Nat.le_trans hYs (unhide K3).1.size)).mono ?_; rintro e w5 ⟨rfl, d5, k5⟩; have D5 := hide d5; have K5 := hide ((unhide K3).trans k5); clear d5 k5)
            | (go_at_call 75; refine (h4 _ (by exact unhide D2) (by exact Nat.le_trans hYs (unhide K2).1.size)).mono ?_; rintro e w4 ⟨rfl, d4, k4⟩; have K4 := hide ((unhide K2).trans k4); obtain ⟨r0, r1, r2, r3, r4, r5, r6, r7⟩ := of8 ((unhide K4).box (unhide HM) (by decide) (by omega)); have D4 := hide d4; clear d4 k4)
            | (go_at_call 43; refine (h3 _ (by exact (unhide HYB).trans (unhide K4).1) (by exact unhide D4)).mono ?_; rintro e w3 ⟨rfl, d3, k3⟩; have D3 := hide d3; have K3 := hide ((unhide K4).trans k3); clear d3 k3))
          exact ⟨⟨k + 1, _, by omega, congrArg (Value.int .i64) (by omega), by rw [← unhide HE]; simp, unhide D5, (unhide HKEP).trans ((unhide HKY).trans (unhide K5)), ((unhide HKY).trans (unhide K5)).box (unhide HBOX) (by decide) (by omega)⟩, by simp [intOf]; omega⟩
        | false =>
          rw [hbr] at hbk
          rw [jl_1 _ _ _ h0, kidL_no hbr] at heq hlq
          have HE := hide heq
          simp only [List.length_append, bytes_len] at hlq
          clear heq
          have h2 := writeString_any w0.heap.size b cur sep Y (unhide HBY) (by omega) hYs
          have h3 := fun w hw hb => unhide IH x hxm v' w (cur ++ sep.data.toList) hin0 hw hb (by simp; omega) (by omega)
          simp only [Nv.val, hvo] at h3
          clear hxm hin0 hbr
          go_wp2_with (first
            | (go_at_call 108; refine h2.mono ?_; rintro e w2 ⟨rfl, d2, k2⟩; obtain ⟨p0, p1, p2, p3, p4, p5, p6, p7⟩ := of8 (k2.box (unhide HM) (by decide) (by omega)); obtain ⟨n0, n1, n2, n3, n4, n5, n6, n7⟩ := of8 (k2.box (unhide HN) (by decide) (by omega)); have D2 := hide d2; have K2 := hide k2; clear d2 k2)
            | (go_at_call 114; refine (hbk _).mono ?_; rintro e w' ⟨rfl, hw⟩; obtain rfl := hw.symm; clear hw)
            | (go_at_call 43; refine (h3 _ (by exact (unhide HYB).trans (unhide K2).1) (by exact unhide D2)).mono ?_; rintro e w3 ⟨rfl, d3, k3⟩; have D3 := hide d3; have K3 := hide ((unhide K2).trans k3); clear d3 k3))
          exact ⟨⟨k + 1, _, by omega, congrArg (Value.int .i64) (by omega), by rw [← unhide HE]; simp, unhide D3, (unhide HKEP).trans ((unhide HKY).trans (unhide K3)), ((unhide HKY).trans (unhide K3)).box (unhide HBOX) (by decide) (by omega)⟩, by simp [intOf]; omega⟩
      · have e0 : ¬ (0 : Int) < (k : Int) := by omega
        cases hbr : brack op x.op with
        | true =>
          rw [hbr] at hbk
          rw [jl_0 _ _ _ h0, kidL_yes hbr] at heq hlq
          have HE := hide heq
          simp only [List.length_append, List.length_cons, List.length_nil] at hlq
          clear heq
          have h4 := fun w hb hs => writeByte_any w0.heap.size b cur 40 40 rfl w hb (by simp; omega) hs
          have h3 := fun w hw hb => unhide IH x hxm v' w (cur ++ [40]) hin0 hw hb (by simp; omega) (by omega)
          have h5 := fun w hb hs => writeByte_any w0.heap.size b (cur ++ [40] ++ textN x) 41 41 rfl w hb (by simp; omega) hs
          simp only [Nv.val, hvo] at h3
          clear hxm hin0 hbr
          go_wp2_with (first
            | (go_at_call 114; refine (hbk _).mono ?_; rintro e w' ⟨rfl, hw⟩; obtain rfl := hw.symm; clear hw)
            | (go_at_call 75; have hB := unhide D3; clear hB; refine (h5 _ (by exact unhide D3) (by exact Nat.le_trans hYs (unhide K3).1.size)).mono ?_; rintro e w5 ⟨rfl, d5, k5⟩; have D5 := hide d5; have K5 := hide ((unhide K3).trans k5); clear d5 k5)
            | (go_at_call 75; refine (h4 _ (by exact unhide HBY) (by exact Nat.le_trans hYs (Kept.refl w0.heap.size b Y).1.size)).mono ?_; rintro e w4 ⟨rfl, d4, k4⟩; have K4 := hide ((Kept.refl _ _ _).trans k4); obtain ⟨r0, r1, r2, r3, r4, r5, r6, r7⟩ := of8 ((unhide K4).box (unhide HM) (by decide) (by omega)); have D4 := hide d4; clear d4 k4)
            | (go_at_call 43; refine (h3 _ (by exact (unhide HYB).trans (unhide K4).1) (by exact unhide D4)).mono ?_; rintro e w3 ⟨rfl, d3, k3⟩; have D3 := hide d3; have K3 := hide ((unhide K4).trans k3); clear d3 k3))
          exact ⟨⟨k + 1, _, by omega, congrArg (Value.int .i64) (by omega), by rw [← unhide HE]; simp, unhide D5, (unhide HKEP).trans ((unhide HKY).trans (unhide K5)), ((unhide HKY).trans (unhide K5)).box (unhide HBOX) (by decide) (by omega)⟩, by simp [intOf]; omega⟩
        | false =>
          rw [hbr] at hbk
          rw [jl_0 _ _ _ h0, kidL_no hbr] at heq hlq
          have HE := hide heq
          simp only [List.length_append] at hlq
          clear heq
          have h3 := fun w hw hb => unhide IH x hxm v' w cur hin0 hw hb (by simp; omega) (by omega)
          simp only [Nv.val, hvo] at h3
          clear hxm hin0 hbr
          go_wp2_with (first
            | (go_at_call 114; refine (hbk _).mono ?_; rintro e w' ⟨rfl, hw⟩; obtain rfl := hw.symm; clear hw)
            | (go_at_call 43; refine (h3 _ (by exact unhide HYB) (by exact unhide HBY)).mono ?_; rintro e w3 ⟨rfl, d3, k3⟩; have D3 := hide d3; have K3 := hide ((Kept.refl _ _ _).trans k3); clear d3 k3))
          exact ⟨⟨k + 1, _, by omega, congrArg (Value.int .i64) (by omega), by rw [← unhide HE]; simp, unhide D3, (unhide HKEP).trans ((unhide HKY).trans (unhide K3)), ((unhide HKY).trans (unhide K3)).box (unhide HBOX) (by decide) (by omega)⟩, by simp [intOf]; omega⟩
    · have ki1 : ¬ (k : Int) < (kids.length : Int) := by omega
      rw [List.drop_of_length_le (by simp; omega)] at heq
      have he2 : cur = acc ++ jl sep.data.toList 0 (kids.map (kidL op)) := by simpa [jl] using heq
      subst he2
      have HB := hide hbld
      have HKP := hide hkep
      clear heq hlq hbld hkep hbox hbel
      go_wp2
      go_end0
      exact ⟨rfl, unhide HB, unhide HKP⟩
end Go.Proofs.YtencibjmiphinaaGreatDoor
namespace Go.Proofs.YtencibjmiphinaaGreatDoor
open Go.RowKit

set_option maxHeartbeats 4000000 in
theorem write_1 (w0 : World) (hG0 : G w0) (b : Nat) (acc : List UInt8) (kind : Int) (attr : ByteArray) (qi : Option Addr) (ci : Nat) (ints : List Int) (qw : Option Addr) (cw : Nat) (words : List ByteArray) (lo hi : Int) (qk : Option Addr) (ck : Nat) (kids : List Nd) (w : World) (hw : Below w0.heap.size w0 w) (h1 : SlOf encI 1 w0 qi ci ints) (h2 : SlOf encS 1 w0 qw cw words) (l1 : ints.length ≤ 1000000000) (l2 : words.length ≤ 1000000000) (hb : Bld w0.heap.size b acc w) (hlen : (acc ++ (predL kind attr ints words lo hi)).length ≤ 140737488355328) :
    Calls Tryz.prog 43 #[.pointer (some ⟨b, 0, none⟩), .agg #[.int .i64 kind, .string attr, .slice qi ints.length ci, .slice qw words.length cw, .int .i64 lo, .int .i64 hi, .int .i64 1, .slice qk kids.length ck]] w fun e w' => e = .returned (.tuple #[]) ∧ Bld w0.heap.size b (acc ++ (predL kind attr ints words lo hi)) w' ∧ Kept w0.heap.size b w w' := by
  have hblt := hb.lt
  have hws := hw.size
  obtain ⟨X, HX⟩ : ∃ X, w.alloc (.cells #[.int .i64 kind, .string attr, .slice qi ints.length ci, .slice qw words.length cw, .int .i64 lo, .int .i64 hi, .int .i64 1, .slice qk kids.length ck] 29) = X := ⟨_, rfl⟩
  have hX0 : X.heap[w.heap.size]? = some (.cells #[.int .i64 kind, .string attr, .slice qi ints.length ci, .slice qw words.length cw, .int .i64 lo, .int .i64 hi, .int .i64 1, .slice qk kids.length ck] 29 (0, 0)) := by rw [← HX]; exact box_new _ _
  have hwX : Below w.heap.size w X := by rw [← HX]; exact (Below.refl _ _).alloc (Nat.le_refl _) _
  obtain ⟨x0, x1, x2, x3, x4, x5, x6, x7⟩ := of8 hX0
  have HX0 := hide hX0
  have HWX := hide (Kept.of (b := b) hwX hws)
  have HBX := hide (hb.below hwX)
  have HXW := hide (hw.trans (hwX.mono hws))
  have hXs := hwX.size
  have h3 := writePred_any w0 hG0 b acc kind attr qi ci ints qw cw words lo hi X (unhide HXW) h1 h2 l1 l2 (unhide HBX) hlen
  clear h1 h2
  clear hb hw hX0 hwX
  go_enter Tryz.func43, Tryz.ntmps43
  go_wp2_with (first
    | (go_at_call 74; refine h3.mono ?_; rintro e w3 ⟨rfl, d3, k3⟩; have D3 := hide d3; have K3 := hide k3; clear d3 k3))
  go_end0
  exact ⟨rfl, by exact unhide D3, (unhide HWX).trans (unhide K3)⟩
set_option maxHeartbeats 4000000 in
theorem write_2 (w0 : World) (b : Nat) (acc : List UInt8) (kind : Int) (attr : ByteArray) (qi : Option Addr) (ci : Nat) (ints : List Int) (qw : Option Addr) (cw : Nat) (words : List ByteArray) (lo hi : Int) (qk : Option Addr) (ck : Nat) (kids : List Nd) (w : World) (hw : Below w0.heap.size w0 w) (hk : NdsOf w0 qk ck kids) (ih : ∀ x ∈ kids, WriteP w0 b x) (hwt : wtL kids ≤ 1000000000) (hb : Bld w0.heap.size b acc w) (hlen : (acc ++ ([33] ++ jl [] 0 (kids.map (kidL 2)))).length ≤ 140737488355328) :
    Calls Tryz.prog 43 #[.pointer (some ⟨b, 0, none⟩), .agg #[.int .i64 kind, .string attr, .slice qi ints.length ci, .slice qw words.length cw, .int .i64 lo, .int .i64 hi, .int .i64 2, .slice qk kids.length ck]] w fun e w' => e = .returned (.tuple #[]) ∧ Bld w0.heap.size b (acc ++ ([33] ++ jl [] 0 (kids.map (kidL 2)))) w' ∧ Kept w0.heap.size b w w' := by
  have hblt := hb.lt
  have hws := hw.size
  obtain ⟨X, HX⟩ : ∃ X, w.alloc (.cells #[.int .i64 kind, .string attr, .slice qi ints.length ci, .slice qw words.length cw, .int .i64 lo, .int .i64 hi, .int .i64 2, .slice qk kids.length ck] 29) = X := ⟨_, rfl⟩
  have hX0 : X.heap[w.heap.size]? = some (.cells #[.int .i64 kind, .string attr, .slice qi ints.length ci, .slice qw words.length cw, .int .i64 lo, .int .i64 hi, .int .i64 2, .slice qk kids.length ck] 29 (0, 0)) := by rw [← HX]; exact box_new _ _
  have hwX : Below w.heap.size w X := by rw [← HX]; exact (Below.refl _ _).alloc (Nat.le_refl _) _
  obtain ⟨x0, x1, x2, x3, x4, x5, x6, x7⟩ := of8 hX0
  have HX0 := hide hX0
  have HWX := hide (Kept.of (b := b) hwX hws)
  have HBX := hide (hb.below hwX)
  have HXW := hide (hw.trans (hwX.mono hws))
  have hXs := hwX.size
  simp only [List.length_append, List.length_cons, List.length_nil] at hlen
  have h4 := writeByte_any w0.heap.size b acc 33 33 rfl X (unhide HBX) (by omega) (Nat.le_trans hws hXs)
  have h3 := fun w hw hb => writeKids_any w0 b (acc ++ [33]) kind attr qi ints.length ci qw words.length cw lo hi 2 qk ck kids ⟨#[]⟩ w hw hk ih hwt hb (by simp only [List.length_append, List.length_cons, List.length_nil]; show _ + _ + (jl [] 0 (kids.map (kidL 2))).length ≤ _; omega)
  clear hk ih
  clear hb hw hX0 hwX
  go_enter Tryz.func43, Tryz.ntmps43
  go_wp2_with (first
    | (go_at_call 75; refine h4.mono ?_; rintro e w2 ⟨rfl, d2, k2⟩; obtain ⟨p0, p1, p2, p3, p4, p5, p6, p7⟩ := of8 (k2.box (unhide HX0) (by decide) (by omega)); have D2 := hide d2; have K2 := hide k2; clear d2 k2)
    | (go_at_call 76; refine (h3 _ (by exact (unhide HXW).trans (unhide K2).1) (by exact unhide D2)).mono ?_; rintro e w3 ⟨rfl, d3, k3⟩; have D3 := hide d3; have K3 := hide k3; clear d3 k3))
  go_end0
  exact ⟨rfl, by have := unhide D3; simpa using this, (unhide HWX).trans ((unhide K2).trans (unhide K3))⟩
set_option maxHeartbeats 4000000 in
theorem write_3 (w0 : World) (b : Nat) (acc : List UInt8) (kind : Int) (attr : ByteArray) (qi : Option Addr) (ci : Nat) (ints : List Int) (qw : Option Addr) (cw : Nat) (words : List ByteArray) (lo hi : Int) (qk : Option Addr) (ck : Nat) (kids : List Nd) (w : World) (hw : Below w0.heap.size w0 w) (hk : NdsOf w0 qk ck kids) (ih : ∀ x ∈ kids, WriteP w0 b x) (hwt : wtL kids ≤ 1000000000) (hb : Bld w0.heap.size b acc w) (hlen : (acc ++ (jl [32, 38, 32] 0 (kids.map (kidL 3)))).length ≤ 140737488355328) :
    Calls Tryz.prog 43 #[.pointer (some ⟨b, 0, none⟩), .agg #[.int .i64 kind, .string attr, .slice qi ints.length ci, .slice qw words.length cw, .int .i64 lo, .int .i64 hi, .int .i64 3, .slice qk kids.length ck]] w fun e w' => e = .returned (.tuple #[]) ∧ Bld w0.heap.size b (acc ++ (jl [32, 38, 32] 0 (kids.map (kidL 3)))) w' ∧ Kept w0.heap.size b w w' := by
  have hblt := hb.lt
  have hws := hw.size
  obtain ⟨X, HX⟩ : ∃ X, w.alloc (.cells #[.int .i64 kind, .string attr, .slice qi ints.length ci, .slice qw words.length cw, .int .i64 lo, .int .i64 hi, .int .i64 3, .slice qk kids.length ck] 29) = X := ⟨_, rfl⟩
  have hX0 : X.heap[w.heap.size]? = some (.cells #[.int .i64 kind, .string attr, .slice qi ints.length ci, .slice qw words.length cw, .int .i64 lo, .int .i64 hi, .int .i64 3, .slice qk kids.length ck] 29 (0, 0)) := by rw [← HX]; exact box_new _ _
  have hwX : Below w.heap.size w X := by rw [← HX]; exact (Below.refl _ _).alloc (Nat.le_refl _) _
  obtain ⟨x0, x1, x2, x3, x4, x5, x6, x7⟩ := of8 hX0
  have HX0 := hide hX0
  have HWX := hide (Kept.of (b := b) hwX hws)
  have HBX := hide (hb.below hwX)
  have HXW := hide (hw.trans (hwX.mono hws))
  have hXs := hwX.size
  have h3 := writeKids_any w0 b acc kind attr qi ints.length ci qw words.length cw lo hi 3 qk ck kids ⟨#[32, 38, 32]⟩ X (unhide HXW) hk ih hwt (unhide HBX) hlen
  clear hk ih
  clear hb hw hX0 hwX
  go_enter Tryz.func43, Tryz.ntmps43
  go_wp2_with (first
    | (go_at_call 76; refine h3.mono ?_; rintro e w3 ⟨rfl, d3, k3⟩; have D3 := hide d3; have K3 := hide k3; clear d3 k3))
  go_end0
  exact ⟨rfl, by exact unhide D3, (unhide HWX).trans (unhide K3)⟩
set_option maxHeartbeats 4000000 in
theorem write_4 (w0 : World) (b : Nat) (acc : List UInt8) (kind : Int) (attr : ByteArray) (qi : Option Addr) (ci : Nat) (ints : List Int) (qw : Option Addr) (cw : Nat) (words : List ByteArray) (lo hi : Int) (qk : Option Addr) (ck : Nat) (kids : List Nd) (w : World) (hw : Below w0.heap.size w0 w) (hk : NdsOf w0 qk ck kids) (ih : ∀ x ∈ kids, WriteP w0 b x) (hwt : wtL kids ≤ 1000000000) (hb : Bld w0.heap.size b acc w) (hlen : (acc ++ (jl [32, 124, 32] 0 (kids.map (kidL 4)))).length ≤ 140737488355328) :
    Calls Tryz.prog 43 #[.pointer (some ⟨b, 0, none⟩), .agg #[.int .i64 kind, .string attr, .slice qi ints.length ci, .slice qw words.length cw, .int .i64 lo, .int .i64 hi, .int .i64 4, .slice qk kids.length ck]] w fun e w' => e = .returned (.tuple #[]) ∧ Bld w0.heap.size b (acc ++ (jl [32, 124, 32] 0 (kids.map (kidL 4)))) w' ∧ Kept w0.heap.size b w w' := by
  have hblt := hb.lt
  have hws := hw.size
  obtain ⟨X, HX⟩ : ∃ X, w.alloc (.cells #[.int .i64 kind, .string attr, .slice qi ints.length ci, .slice qw words.length cw, .int .i64 lo, .int .i64 hi, .int .i64 4, .slice qk kids.length ck] 29) = X := ⟨_, rfl⟩
  have hX0 : X.heap[w.heap.size]? = some (.cells #[.int .i64 kind, .string attr, .slice qi ints.length ci, .slice qw words.length cw, .int .i64 lo, .int .i64 hi, .int .i64 4, .slice qk kids.length ck] 29 (0, 0)) := by rw [← HX]; exact box_new _ _
  have hwX : Below w.heap.size w X := by rw [← HX]; exact (Below.refl _ _).alloc (Nat.le_refl _) _
  obtain ⟨x0, x1, x2, x3, x4, x5, x6, x7⟩ := of8 hX0
  have HX0 := hide hX0
  have HWX := hide (Kept.of (b := b) hwX hws)
  have HBX := hide (hb.below hwX)
  have HXW := hide (hw.trans (hwX.mono hws))
  have hXs := hwX.size
  have h3 := writeKids_any w0 b acc kind attr qi ints.length ci qw words.length cw lo hi 4 qk ck kids ⟨#[32, 124, 32]⟩ X (unhide HXW) hk ih hwt (unhide HBX) hlen
  clear hk ih
  clear hb hw hX0 hwX
  go_enter Tryz.func43, Tryz.ntmps43
  go_wp2_with (first
    | (go_at_call 76; refine h3.mono ?_; rintro e w3 ⟨rfl, d3, k3⟩; have D3 := hide d3; have K3 := hide k3; clear d3 k3))
  go_end0
  exact ⟨rfl, by exact unhide D3, (unhide HWX).trans (unhide K3)⟩
set_option maxHeartbeats 4000000 in
theorem write_x (w0 : World) (b : Nat) (acc : List UInt8) (kind : Int) (attr : ByteArray) (qi : Option Addr) (ci : Nat) (ints : List Int) (qw : Option Addr) (cw : Nat) (words : List ByteArray) (lo hi op : Int) (qk : Option Addr) (ck : Nat) (kids : List Nd) (w : World) (hw : Below w0.heap.size w0 w) (o1 : ¬ op = 1) (o2 : ¬ op = 2) (o3 : ¬ op = 3) (o4 : ¬ op = 4) (hb : Bld w0.heap.size b acc w) :
    Calls Tryz.prog 43 #[.pointer (some ⟨b, 0, none⟩), .agg #[.int .i64 kind, .string attr, .slice qi ints.length ci, .slice qw words.length cw, .int .i64 lo, .int .i64 hi, .int .i64 op, .slice qk kids.length ck]] w fun e w' => e = .returned (.tuple #[]) ∧ Bld w0.heap.size b (acc ++ (([] : List UInt8))) w' ∧ Kept w0.heap.size b w w' := by
  have hblt := hb.lt
  have hws := hw.size
  obtain ⟨X, HX⟩ : ∃ X, w.alloc (.cells #[.int .i64 kind, .string attr, .slice qi ints.length ci, .slice qw words.length cw, .int .i64 lo, .int .i64 hi, .int .i64 op, .slice qk kids.length ck] 29) = X := ⟨_, rfl⟩
  have hX0 : X.heap[w.heap.size]? = some (.cells #[.int .i64 kind, .string attr, .slice qi ints.length ci, .slice qw words.length cw, .int .i64 lo, .int .i64 hi, .int .i64 op, .slice qk kids.length ck] 29 (0, 0)) := by rw [← HX]; exact box_new _ _
  have hwX : Below w.heap.size w X := by rw [← HX]; exact (Below.refl _ _).alloc (Nat.le_refl _) _
  obtain ⟨x0, x1, x2, x3, x4, x5, x6, x7⟩ := of8 hX0
  have HX0 := hide hX0
  have HWX := hide (Kept.of (b := b) hwX hws)
  have HBX := hide (hb.below hwX)
  have HXW := hide (hw.trans (hwX.mono hws))
  have hXs := hwX.size
  have q1 : (op == 1) = false := by simpa using o1
  have q2 : (op == 2) = false := by simpa using o2
  have q3 : (op == 3) = false := by simpa using o3
  have q4 : (op == 4) = false := by simpa using o4
  clear HXW HX0
  clear hb hw hX0 hwX
  go_enter Tryz.func43, Tryz.ntmps43
  go_wp2
  go_end0
  exact ⟨rfl, by rw [List.append_nil]; exact unhide HBX, (unhide HWX)⟩
theorem write_any (w0 : World) (hG0 : G w0) (b : Nat) : ∀ x, WriteP w0 b x := by
  intro t
  induction t using Nd.ind with
  | h kind attr ints words lo hi op kids ih =>
    intro v w acc hin hw hb hlen hwt
    obtain ⟨qi, ci, qw, cw, qk, ck, rfl, h1, h2, hk⟩ := hin.parts
    simp only [wtN] at hwt
    have hwl := words_len words
    simp only [Nv.val]
    rw [textN_eq] at hlen ⊢
    by_cases o1 : op = 1
    · subst o1; rw [if_pos rfl] at hlen ⊢; exact write_1 w0 hG0 b acc kind attr qi ci ints qw cw words lo hi qk ck kids w hw h1 h2 (by omega) (by omega) hb hlen
    by_cases o2 : op = 2
    · subst o2; rw [if_neg o1, if_pos rfl] at hlen ⊢; exact write_2 w0 b acc kind attr qi ci ints qw cw words lo hi qk ck kids w hw hk ih (by omega) hb hlen
    by_cases o3 : op = 3
    · subst o3; rw [if_neg o1, if_neg o2, if_pos rfl] at hlen ⊢; exact write_3 w0 b acc kind attr qi ci ints qw cw words lo hi qk ck kids w hw hk ih (by omega) hb hlen
    by_cases o4 : op = 4
    · subst o4; rw [if_neg o1, if_neg o2, if_neg o3, if_pos rfl] at hlen ⊢; exact write_4 w0 b acc kind attr qi ci ints qw cw words lo hi qk ck kids w hw hk ih (by omega) hb hlen
    rw [if_neg o1, if_neg o2, if_neg o3, if_neg o4]
    exact write_x w0 b acc kind attr qi ci ints qw cw words lo hi op qk ck kids w hw o1 o2 o3 o4 hb
/-- A new builder. -/
theorem Bld.new (w : World) : Bld w.heap.size w.heap.size [] (w.alloc (.cells #[.pointer none, .slice none 0 0] 89)) :=
  Or.inl ⟨Nat.le_refl _, .slice none 0 0, box_new _ _, World.ownsRowF_nil _ _ _ _, by simp [Value.ownBlock]⟩
/-- What Text answers. -/
def textB4 (t : Nd) : ByteArray := if chkN t then ⟨(textN t).toArray⟩ else ⟨#[]⟩
set_option maxHeartbeats 4000000 in
theorem textT_any (t : Nd) (v : Nv) (w : World) (hG : G w) (hin : NdIn w v t) (hwt : wtN t ≤ 1000000000) (hlen : (textN t).length ≤ 140737488355328) :
    Calls Tryz.prog 21 #[v.val] w fun e w' => e = .returned (.tuple #[.string (textB4 t), .int .i64 (code (chkN t))]) ∧ Below w.heap.size w w' := by
  obtain ⟨X, HX⟩ : ∃ X, w.alloc (.cells #[.int .i64 v.kind, .string v.attr, .slice v.qi v.ni v.ci, .slice v.qw v.nw v.cw, .int .i64 v.lo, .int .i64 v.hi, .int .i64 v.op, .slice v.qk v.nk v.ck] 29) = X := ⟨_, rfl⟩
  have hX0 : X.heap[w.heap.size]? = some (.cells #[.int .i64 v.kind, .string v.attr, .slice v.qi v.ni v.ci, .slice v.qw v.nw v.cw, .int .i64 v.lo, .int .i64 v.hi, .int .i64 v.op, .slice v.qk v.nk v.ck] 29 (0, 0)) := by rw [← HX]; exact box_new _ _
  have hwX : Below w.heap.size w X := by rw [← HX]; exact (Below.refl _ _).alloc (Nat.le_refl _) _
  have hc := checkT_any t v X (hin.keep hwX) hwt
  obtain ⟨x0, x1, x2, x3, x4, x5, x6, x7⟩ := of8 hX0
  simp only [Nv.val] at hc ⊢
  have HWX := hide hwX
  unfold textB4
  cases hq : chkN t with
  | false =>
    rw [hq] at hc
    simp only [code, Bool.false_eq_true, if_false] at hc ⊢
    clear hq hX0 hwX hlen
    go_enter Tryz.func21, Tryz.ntmps21
    go_wp2_with (go_at_call 22; refine hc.mono ?_; rintro e w1 ⟨rfl, b1⟩)
    go_ret2
    exact ⟨rfl, below_sub (unhide HWX) b1⟩
  | true =>
    rw [hq] at hc
    simp only [code, if_true] at hc ⊢
    have hwr := fun (w1 : World) (hb1 : Below X.heap.size X w1) => write_any w1 (G_below (G_below hG hwX) hb1) w1.heap.size t v (w1.alloc (.cells #[.pointer none, .slice none 0 0] 89)) [] ((hin.keep hwX).keep hb1) ((Below.refl _ _).alloc (Nat.le_refl _) _) (Bld.new w1) (by simpa using hlen) hwt
    simp only [Nv.val, List.nil_append] at hwr
    have hst := fun B b w h hB => Tryz.Builder_String_any_k B b (textN t) w h hB
    have HX0 := hide (heap_lt hX0)
    clear hq hwX hlen hin
    go_enter Tryz.func21, Tryz.ntmps21
    go_wp2_with (first
      | (go_at_call 22; refine hc.mono ?_; rintro e w1 ⟨rfl, b1⟩; obtain ⟨p0, p1, p2, p3, p4, p5, p6, p7⟩ := of8 ((b1.block _ (unhide HX0)).trans hX0); have hlt1 : w.heap.size < w1.heap.size := Nat.lt_of_lt_of_le (unhide HX0) b1.size; have hne1 : ¬ w.heap.size = w1.heap.size := Nat.ne_of_lt hlt1; have B1 := hide b1; clear b1)
      | (go_at_call 43; refine (hwr w1 (unhide B1)).mono ?_; rintro e w2 ⟨rfl, d2, k2⟩; have D2 := hide d2; have K2 := hide k2; clear d2 k2)
      | (go_at_call 44; refine (hst w1.heap.size w1.heap.size _ (by exact unhide D2) (by exact Nat.le_trans (by simp) (unhide K2).1.size)).mono ?_; rintro e w3 ⟨rfl, d3, k3, _⟩; have K3 := hide k3; clear d3 k3))
    go_ret2
    exact ⟨rfl, below_sub (below_sub (unhide HWX) (unhide B1)) (((Below.refl _ _).alloc (Nat.le_refl _) _).trans ((unhide K2).1.trans (unhide K3)))⟩
end Go.Proofs.YtencibjmiphinaaGreatDoor
namespace Go.Proofs.YtencibjmiphinaaGreatDoor
open Go.RowKit Go.Sort

def notT (x : Nd) : Nd := .mk 0 ⟨#[]⟩ [] [] 0 0 2 [x]
end Go.Proofs.YtencibjmiphinaaGreatDoor
namespace Go.Proofs.YtencibjmiphinaaGreatDoor
open Go.RowKit

def T1 : Nd := .mk 1 ⟨#[97]⟩ [1, -2] [] 0 0 1 []
def T2 : Nd := .mk 3 ⟨#[97]⟩ [] [] 5 3 1 []
def T3 : Nd := .mk 4 ⟨#[99]⟩ [] [⟨#[120]⟩] 0 0 1 []
def T4 : Nd := .mk 2 ⟨#[99]⟩ [] [⟨#[121]⟩] 0 0 1 []
def TA : Nd := joinT 3 [joinT 4 [T1, T2], notT T3, T4]
theorem itI_at (n : Int) (l : List UInt8) (h1 : -2147483648 ≤ n) (h2 : n ≤ 2147483647) (h : Lib.itoa n = l) : itI n = l := by
  unfold itI textB
  rw [if_pos (chk_yes1 rfl h1 h2 ((empty_iff _).2 rfl)), if_neg (by decide)]
  exact h
theorem it_1 : itI 1 = [49] := itI_at 1 _ (by decide) (by decide) (by unfold Lib.itoa; rw [if_neg (by decide), Lib.decDigits, dif_pos (by decide)]; rfl)
theorem it_5 : itI 5 = [53] := itI_at 5 _ (by decide) (by decide) (by unfold Lib.itoa; rw [if_neg (by decide), Lib.decDigits, dif_pos (by decide)]; rfl)
theorem it_3 : itI 3 = [51] := itI_at 3 _ (by decide) (by decide) (by unfold Lib.itoa; rw [if_neg (by decide), Lib.decDigits, dif_pos (by decide)]; rfl)
theorem it_m2 : itI (-2) = [45, 50] := itI_at (-2) _ (by decide) (by decide) (by unfold Lib.itoa; rw [if_pos (by decide), Lib.decDigits, dif_pos (by decide)]; rfl)
theorem itW_at (s : ByteArray) (l : List UInt8) (h : s.size ≤ 64) (h2 : quoteL s.data.toList = l) : itW s = l := by
  unfold itW textB
  rw [if_pos (chk_yes2 rfl rfl (by omega)), if_pos rfl]
  exact h2
theorem it_x : itW ⟨#[120]⟩ = [34, 120, 34] := itW_at _ _ (by decide) (by rfl)
theorem it_y : itW ⟨#[121]⟩ = [34, 121, 34] := itW_at _ _ (by decide) (by rfl)
theorem chk_TA : chkN TA = true := by decide +kernel
theorem chk_zero : chkN zeroT = false := by decide +kernel
theorem pred_T4 : predB 2 ⟨#[99]⟩ [] [⟨#[121]⟩] 0 0 = true := by decide +kernel
theorem dep_TA : depN TA = 3 := by decide +kernel
theorem size_TA : sizeN TA = 7 := by decide +kernel
theorem wt_TA : wtN TA ≤ 1000 := by decide +kernel
theorem text_T1 : textN T1 = [97, 32, 123, 49, 44, 32, 45, 50, 125] := by
  unfold T1; rw [textN_eq, if_pos rfl]; unfold predL; rw [if_pos rfl]; simp [jl, it_1, it_m2]
theorem text_T2 : textN T2 = [97, 32, 91, 53, 44, 32, 51, 93] := by
  unfold T2; rw [textN_eq, if_pos rfl]; unfold predL; rw [if_neg (by decide), if_neg (by decide), if_pos rfl]; simp [jl, it_5, it_3]
theorem text_T3 : textN T3 = [99, 32, 34, 120, 34, 42] := by
  unfold T3; rw [textN_eq, if_pos rfl]; unfold predL; rw [if_neg (by decide), if_neg (by decide), if_neg (by decide), if_pos rfl]; simp [jl, it_x]
theorem text_T4 : textN T4 = [99, 32, 123, 34, 121, 34, 125] := by
  unfold T4; rw [textN_eq, if_pos rfl]; unfold predL; rw [if_neg (by decide), if_pos rfl]; simp [jl, it_y]
theorem text_TO : textN (joinT 4 [T1, T2]) = [97, 32, 123, 49, 44, 32, 45, 50, 125, 32, 124, 32, 97, 32, 91, 53, 44, 32, 51, 93] := by
  rw [joinT_many 4 (by decide), textN_eq, if_neg (by decide), if_neg (by decide), if_neg (by decide), if_pos rfl]
  have e1 : kidL 4 T1 = textN T1 := kidL_no (by decide)
  have e2 : kidL 4 T2 = textN T2 := kidL_no (by decide)
  simp [jl, e1, e2, text_T1, text_T2]
theorem text_TN : textN (notT T3) = [33, 99, 32, 34, 120, 34, 42] := by
  unfold notT
  rw [textN_eq, if_neg (by decide), if_pos rfl]
  have e1 : kidL 2 T3 = textN T3 := kidL_no (by decide)
  simp [jl, e1, text_T3]
def textA : List UInt8 := [40, 97, 32, 123, 49, 44, 32, 45, 50, 125, 32, 124, 32, 97, 32, 91, 53, 44, 32, 51, 93, 41, 32, 38, 32, 33, 99, 32, 34, 120, 34, 42, 32, 38, 32, 99, 32, 123, 34, 121, 34, 125]
theorem text_TA : textN TA = textA := by
  unfold TA
  rw [joinT_many 3 (by decide), textN_eq, if_neg (by decide), if_neg (by decide), if_pos rfl]
  have e1 : kidL 3 (joinT 4 [T1, T2]) = [40] ++ textN (joinT 4 [T1, T2]) ++ [41] := kidL_yes (by decide)
  have e2 : kidL 3 (notT T3) = textN (notT T3) := kidL_no (by decide)
  have e3 : kidL 3 T4 = textN T4 := kidL_no (by decide)
  simp [jl, e1, e2, e3, text_TO, text_TN, text_T4, textA]
theorem textB_TA : textB4 TA = ⟨#[40, 97, 32, 123, 49, 44, 32, 45, 50, 125, 32, 124, 32, 97, 32, 91, 53, 44, 32, 51, 93, 41, 32, 38, 32, 33, 99, 32, 34, 120, 34, 42, 32, 38, 32, 99, 32, 123, 34, 121, 34, 125]⟩ := by
  unfold textB4; rw [chk_TA, text_TA]; rfl
theorem flat_1 (a : Nv) : (Sort.flatK encV 8 [a].toArray).toList = encV a := by
  apply List.ext_getElem?
  intro i
  by_cases hi : i < 8
  · have h := flat_at8 [a] 0 a rfl i hi
    rw [Nat.zero_mul, Nat.zero_add] at h
    rw [h]
    have hm : i = 0 ∨ i = 1 ∨ i = 2 ∨ i = 3 ∨ i = 4 ∨ i = 5 ∨ i = 6 ∨ i = 7 := by omega
    rcases hm with e | e | e | e | e | e | e | e <;> rw [e] <;> rfl
  · rw [List.getElem?_eq_none (by rw [flat_len]; simp; omega), List.getElem?_eq_none (by simp [encV]; omega)]
theorem flat_2 (a b : Nv) : (Sort.flatK encV 8 [a, b].toArray).toList = encV a ++ encV b := by
  have := flat_app encV 8 (by decide) [a] [b]
  rw [flat_1, flat_1] at this; exact this
theorem flat_3 (a b c : Nv) : (Sort.flatK encV 8 [a, b, c].toArray).toList = encV a ++ (encV b ++ encV c) := by
  have := flat_app encV 8 (by decide) [a] [b, c]
  rw [flat_1, flat_2] at this; exact this
theorem of_block {w : World} {M : Nat} {cs : Array Value} {vs : List Nv} (h : w.heap[M]? = some (.cells cs 29 (0, 0))) (hf : (Sort.flatK encV 8 vs.toArray).toList = cs.toList) (hl : vs.length ≤ 1000) : SlOf encV 8 w (some ⟨M, 0, none⟩) vs.length vs :=
  ⟨(fun h => by cases h), Nat.le_refl _, by unfold maxLen; omega, fun _ => ⟨M, 0, rfl, heap_lt h, fun j u hj => by rw [Nat.zero_add, Lib.cell_of_heap h]; rw [hf, Array.getElem?_toList] at hj; exact hj⟩⟩
end Go.Proofs.YtencibjmiphinaaGreatDoor

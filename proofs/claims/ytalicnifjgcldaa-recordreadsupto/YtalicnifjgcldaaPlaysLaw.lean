/- RecordPlays answers true. -/
import Derived.Test.YtalicnifjgcldaaOver
namespace Go.Proofs.Ytalicnifjgcldaa
open Go.RowKit Go.Sort Go.Shelf

instance (cs : List Ch) : Decidable (∀ c ∈ cs, MayB c) := inferInstance
/-- What Encode and Head answer: bytes and an error. -/
def encO (cs : List Ch) : List UInt8 := if ∀ c ∈ cs, MayB c then encs cs else []
def encE (cs : List Ch) : Int := if ∀ c ∈ cs, MayB c then 0 else 1
def headO (n : Int) : List UInt8 := if 1 ≤ n ∧ n ≤ 1099511627777 then headB n.toNat else []
def headE (n : Int) : Int := if 1 ≤ n ∧ n ≤ 1099511627777 then 0 else 2
theorem encR_one {B : Nat} {cs : List Ch} {e : Ending} {w' : World} (h : EncR B cs e w') : ∃ q cap, e = .returned (.tuple #[.slice q (encO cs).length cap, .int .i64 (encE cs)]) ∧ OwnK encB 5 1 B w' q cap (encO cs) := by
  unfold encO encE
  rcases h with ⟨hm, q, cap, he, ho⟩ | ⟨hn, he⟩
  · rw [if_pos hm, if_pos hm]; exact ⟨q, cap, he, ho⟩
  · rw [if_neg hn, if_neg hn]; exact ⟨none, 0, he, OwnK.nil _ _⟩
theorem encO_len (cs : List Ch) : (encO cs).length ≤ cs.length * 4130 := by
  unfold encO
  split
  · rename_i h; exact encs_len cs h
  · simp
theorem headO_len (n : Int) : (headO n).length ≤ 20 := by
  unfold headO
  split
  · rename_i h; exact head_len _ (by omega)
  · simp
theorem encode_one (q : Option Addr) (cp : Nat) (cs : List Ch) (w : World) (h : SlOf encC 3 w q cp cs) (hn : cs.length ≤ 10000000000) :
    Calls Try.prog 10 #[.slice q cs.length cp] w fun e w' => (∃ q cap, e = .returned (.tuple #[.slice q (encO cs).length cap, .int .i64 (encE cs)]) ∧ OwnK encB 5 1 w.heap.size w' q cap (encO cs)) ∧ Below w.heap.size w w' :=
  (encode_any q cp cs w h hn).mono (by rintro e w' ⟨h1, h2⟩; exact ⟨encR_one h1, h2⟩)
theorem head_one (n : Int) (w : World) :
    Calls Try.prog 12 #[.int .i64 n] w fun e w' => (∃ q cap, e = .returned (.tuple #[.slice q (headO n).length cap, .int .i64 (headE n)]) ∧ OwnK encB 5 1 w.heap.size w' q cap (headO n)) ∧ Below w.heap.size w w' := by
  unfold headO headE
  by_cases h : 1 ≤ n ∧ n ≤ 1099511627777
  · rw [if_pos h, if_pos h]
    have := head_yes n.toNat (by omega) (by omega) w
    rw [show ((n.toNat : Nat) : Int) = n by omega] at this
    exact this
  · rw [if_neg h, if_neg h]
    exact (head_no n h w).mono (by rintro e w' ⟨rfl, rfl⟩; exact ⟨⟨none, 0, rfl, OwnK.nil _ _⟩, Below.refl _ _⟩)
theorem refHead_one (n : Int) (w : World) :
    Calls Try.prog 13 #[.int .i64 n] w fun e w' => (∃ q cap, e = .returned (.tuple #[.slice q (headO n).length cap, .int .i64 (headE n)]) ∧ OwnK encB 5 1 w.heap.size w' q cap (headO n)) ∧ Below w.heap.size w w' := by
  unfold headO headE
  by_cases h : 1 ≤ n ∧ n ≤ 1099511627777
  · rw [if_pos h, if_pos h]
    have := refHead_yes n.toNat (by omega) (by omega) w
    rw [show ((n.toNat : Nat) : Int) = n by omega] at this
    exact this
  · rw [if_neg h, if_neg h]
    exact (refHead_no n h w).mono (by rintro e w' ⟨rfl, rfl⟩; exact ⟨⟨none, 0, rfl, OwnK.nil _ _⟩, Below.refl _ _⟩)
set_option maxHeartbeats 1000000 in
theorem refEncode (q : Option Addr) (cp : Nat) (cs : List Ch) (w : World) (h : SlOf encC 3 w q cp cs) (hn : cs.length ≤ 10000000000) :
    Calls Try.prog 11 #[.slice q cs.length cp] w fun e w' => EncR w.heap.size cs e w' ∧ Below w.heap.size w w' := by
  have hm := fun (c : Ch) (W : World) => refMay_any c W
  have hw := fun (c : Ch) (hc : MayB c) (W : World) => refOne c hc W
  go_enter Try.func11, Try.ntmps11
  go_wp2
  go_loopw [4, 5] (fun v i wr => ∃ (k N : Nat) (q' : Option Addr) (cap' : Nat), k ≤ cs.length ∧ i = .int .i64 (k : Int) ∧ v = .slice q' N cap' ∧ Hid (N = (encs (cs.take k)).length) ∧ Hid (OwnK encB 5 1 w.heap.size wr q' cap' (encs (cs.take k))) ∧ Hid (∀ c ∈ cs.take k, MayB c) ∧ Hid (Below w.heap.size w wr)) (fun _ i _ => cs.length - (intOf i).toNat)
  case atStart => exact ⟨0, 0, none, 0, Nat.zero_le _, rfl, rfl, hide (by simp [encs]), hide (OwnK.nil _ _), hide (by simp), hide (Below.refl _ _)⟩
  case round =>
    obtain ⟨k, N, q', cap', hk, rfl, rfl, HN, HO, HM, HB⟩ := hrel
    by_cases hlt : k < cs.length
    · obtain ⟨x, hx, _⟩ := get_at hlt
      have hSW := h.below (unhide HB)
      obtain ⟨b, off, hq, hb, c0, c1, c2⟩ := changeAt hSW hx
      have hat := fun (W : World) (hW : Below wr.heap.size wr W) => changeAt (hSW.below hW) hx
      subst hq
      have HT := hide (take_snoc_of hx)
      have HX := hide (List.mem_of_getElem? hx)
      have ki0 : (0 : Int) ≤ (k : Int) := by omega
      have ki1 : (k : Int) < (cs.length : Int) := by omega
      have hsB := (unhide HB).size
      have hm1 := hm x wr
      have hnl := encs_len (cs.take k) (unhide HM)
      have hnl2 : (cs.take k).length ≤ k := List.length_take_le _ _
      by_cases hmay : MayB x
      · have hol := one_len x hmay
        have hw1 := hw x hmay
        rw [decide_eq_true hmay] at hm1
        have hN := unhide HN
        have hNb : N + (oneB x).length ≤ 50000000000000 := by omega
        have HM2 := hide (show ∀ c ∈ cs.take (k + 1), MayB c by
          rw [unhide HT]; intro c hc
          rcases List.mem_append.1 hc with h | h
          · exact unhide HM c h
          · obtain rfl : c = x := by simpa using h
            exact hmay)
        have HAT : Hid (∀ W : World, Below wr.heap.size wr W → W.cell? ⟨b, off + k * 3, none⟩ = some (.int .i64 x.kind) ∧ W.cell? ⟨b, off + k * 3 + 1, none⟩ = some (.int .i64 x.id) ∧ W.cell? ⟨b, off + k * 3 + 2, none⟩ = some (.string x.text)) := hide (fun W hW => by
          obtain ⟨b', off', hq', _, h0, h1, h2⟩ := hat W hW
          injection hq' with hq'
          injection hq' with e1 e2
          subst e1 e2
          exact ⟨h0, h1, h2⟩)
        clear h hm hw hnl hnl2 hN hSW hat
        go_wp2_with (first
          | (go_at_call 16; refine hm1.mono ?_; rintro e w1 ⟨rfl, b1⟩; obtain ⟨d0, d1, d2⟩ := unhide HAT _ b1; have B1 := hide b1; clear b1)
          | (go_at_call 28; refine (hw1 _).mono ?_; rintro e w2 ⟨⟨q2, c2', rfl, o2⟩, b2⟩; have O2 := hide o2; have B2 := hide (below_sub (unhide B1) b2); clear o2 b2)
          | (at_builtin; refine wpList_app rowB rfl _ _ rfl w.heap.size q' cap' (encs (cs.take k)) q2 c2' (oneB x) N (oneB x).length (N + (oneB x).length) (unhide HN).symm rfl rfl rfl rfl ((unhide HO).below (unhide B2)) (unhide O2).ls.src (by unfold maxLen; omega) (by omega) (by have := (unhide B2).size; omega) ?_; intro q3 c3 w3 o3 b3 _ _; have O3 := hide o3; have B3 := hide ((unhide HB).trans (((unhide B2).mono hsB).trans b3)); clear o3 b3))
        go_roundw
        case rel => exact ⟨k + 1, N + (oneB x).length, q3, c3, by omega, by go_num, rfl, hide (by rw [unhide HT, encs_snoc, List.length_append, ← unhide HN]), hide (by rw [unhide HT, encs_snoc]; exact unhide O3), HM2, B3⟩
        case measure => simp [intOf]; omega
      · rw [decide_eq_false hmay] at hm1
        have HNM := hide hmay
        clear h hm hw hnl hnl2 hmay hSW hat
        go_wp2_with (go_at_call 16; refine hm1.mono ?_; rintro e w1 ⟨rfl, b1⟩; have B1 := hide b1; clear b1)
        refine bodyPost_ret (v := .tuple #[.slice none 0 0, .int .i64 1]) (by simp [results, Try.f11, go_sem]) rfl ?_
        exact ⟨.inr ⟨fun hall => unhide HNM (hall x (unhide HX)), rfl⟩, (unhide HB).trans ((unhide B1).mono hsB)⟩
    · obtain rfl : k = cs.length := by omega
      have ki1 : ¬ (cs.length : Int) < (cs.length : Int) := by omega
      clear h hm hw
      go_wp2
      refine bodyPost_ret (v := .tuple #[.slice q' N cap', .int .i64 0]) (by simp [results, Try.f11, go_sem]) rfl ?_
      have h1 := unhide HN
      have h2 := unhide HO
      have h3 := unhide HM
      rw [List.take_length] at h1 h2 h3
      exact ⟨.inl ⟨h3, q', cap', by rw [h1], h2⟩, unhide HB⟩
theorem refEncode_one (q : Option Addr) (cp : Nat) (cs : List Ch) (w : World) (h : SlOf encC 3 w q cp cs) (hn : cs.length ≤ 10000000000) :
    Calls Try.prog 11 #[.slice q cs.length cp] w fun e w' => (∃ q cap, e = .returned (.tuple #[.slice q (encO cs).length cap, .int .i64 (encE cs)]) ∧ OwnK encB 5 1 w.heap.size w' q cap (encO cs)) ∧ Below w.heap.size w w' :=
  (refEncode q cp cs w h hn).mono (by rintro e w' ⟨h1, h2⟩; exact ⟨encR_one h1, h2⟩)
end Go.Proofs.Ytalicnifjgcldaa

/- What schema.New returns, for every list of attributes, and what Attrs returns of a schema. -/
import Derived.Test.YtencibjmiphinaaGreatDoorQScSort
import Derived.Test.YtencibjmiphinaaGreatDoorQPaFx
import Derived.Test.YtencibjmiphinaaGreatDoorQZaq
import Derived.ProofKit
import Derived.LaidMore
import Derived.OpenShut
import Derived.Stop.Joined
import Derived.Stop.LaidErr
namespace Go.Proofs.YtencibjmiphinaaGreatDoor.Sc
open Go.RowKit Go.Sort Go.Shelf

/-- An attribute in form. -/
def atOk (x : ByteArray × Int) : Bool := nameOk x.1 && (x.2 == 1 || x.2 == 2)

set_option maxHeartbeats 400000 in
theorem attrInForm_any (x : ByteArray × Int) (w : World) :
    Calls Tryz.prog 30 #[.agg #[.string x.1, .int .i64 x.2]] w fun e w' => e = .returned (.bool (atOk x)) ∧ Below w.heap.size w w' := by
  have hn := fun (W : World) => name_any x.1 W
  cases h : nameOk x.1 with
  | false =>
    rw [h] at hn
    have H := hide h
    clear h
    go_enter Tryz.func30, Tryz.ntmps30
    go_wp2_with (first | (go_at_call 60; refine (hn _).mono ?_; rintro e w' ⟨rfl, rfl⟩))
    go_ret
    exact ⟨ret_bool (by simp [atOk, unhide H]), (Below.refl _ _).alloc (Nat.le_refl _) _⟩
  | true =>
    rw [h] at hn
    have H := hide h
    clear h
    by_cases h1 : x.2 = 1
    · have h1' : (x.2 == 1) = true := by simp [h1]
      have H1 := hide h1
      clear h1
      go_enter Tryz.func30, Tryz.ntmps30
      go_wp2_with (first | (go_at_call 60; refine (hn _).mono ?_; rintro e w' ⟨rfl, rfl⟩))
      go_ret
      exact ⟨ret_bool (by simp [atOk, unhide H, unhide H1]), (Below.refl _ _).alloc (Nat.le_refl _) _⟩
    · have h1' : (x.2 == 1) = false := by simp [h1]
      have H1 := hide h1
      clear h1
      cases h2 : (x.2 == 2) with
      | true =>
        have H2 := hide h2
        go_enter Tryz.func30, Tryz.ntmps30
        go_wp2_with (first | (go_at_call 60; refine (hn _).mono ?_; rintro e w' ⟨rfl, rfl⟩))
        go_ret
        exact ⟨ret_bool (by unfold atOk; rw [unhide H, unhide H2]; simp), (Below.refl _ _).alloc (Nat.le_refl _) _⟩
      | false =>
        have H2 := hide h2
        have H1' := hide h1'
        go_enter Tryz.func30, Tryz.ntmps30
        go_wp2_with (first | (go_at_call 60; refine (hn _).mono ?_; rintro e w' ⟨rfl, rfl⟩))
        go_ret
        exact ⟨ret_bool (by unfold atOk; rw [unhide H, unhide H1', unhide H2]; rfl), (Below.refl _ _).alloc (Nat.le_refl _) _⟩

theorem all_no {α : Type} {l : List α} {f : α → Bool} {k : Nat} {x : α} (hx : l[k]? = some x) (h : f x = false) : l.all f = false := by
  rw [Bool.eq_false_iff]
  intro hall
  rw [List.all_eq_true] at hall
  have := hall x (List.mem_of_getElem? hx)
  rw [h] at this; cases this
theorem all_yes {α : Type} {l : List α} {f : α → Bool} (h : ∀ (j : Nat) (x : α), j < l.length → l[j]? = some x → f x = true) : l.all f = true := by
  rw [List.all_eq_true]
  intro x hx
  obtain ⟨j, hj, rfl⟩ := List.mem_iff_getElem.1 hx
  exact h j _ hj (List.getElem?_eq_getElem hj)

set_option maxHeartbeats 1000000 in
theorem allA_any (p : Option Addr) (cap : Nat) (l : List (ByteArray × Int)) (w : World) (hm : l.length ≤ 140737488355328) (hA : AtsOf w p l) :
    Calls Tryz.prog 29 #[.slice p l.length cap, .func (.func 30) #[] #[]] w fun e w' => e = .returned (.bool (l.all atOk)) ∧ Below w.heap.size w w' := by
  have HA := hide hA
  clear hA
  go_enter Tryz.func29, Tryz.ntmps29
  go_wp2
  go_loopw [9] (fun i wr => ∃ k : Nat, k ≤ l.length ∧ i = .int .i64 k ∧ Below w.heap.size w wr ∧ ∀ (j : Nat) (x : ByteArray × Int), j < k → l[j]? = some x → atOk x = true) (fun i _ => l.length - (intOf i).toNat)
  case atStart => exact ⟨0, by omega, rfl, Below.refl _ _, fun j x h => by omega⟩
  case round =>
    obtain ⟨k, hk, rfl, hbel, hall⟩ := hrel
    have Hall := hide hall
    clear hall
    by_cases hlt : k < l.length
    · obtain ⟨bb, off, rfl, hbb, hAt⟩ := unhide HA (by omega)
      obtain ⟨x, hx, _⟩ := get_at hlt
      have ki0 : (0 : Int) ≤ (k : Int) := by omega
      have ki1 : (k : Int) < (l.length : Int) := by omega
      obtain ⟨g0, g1⟩ := hAt.below hbel hbb k x hx
      have Hx := hide hx
      clear hx
      have hf := fun (W : World) => attrInForm_any x W
      cases ho : atOk x with
      | false =>
        have Hn := hide (all_no (unhide Hx) ho)
        rw [ho] at hf
        clear ho
        go_wp2_with (first | (go_at_call 30; refine (hf _).mono ?_; rintro e w1 ⟨rfl, b1⟩))
        go_ret
        exact ⟨ret_bool (unhide Hn).symm, hbel.trans (((Below.refl _ _).alloc hbel.size _).trans (b1.mono (by have := hbel.size; simp; omega)))⟩
      | true =>
        have Ho := hide ho
        rw [ho] at hf
        clear ho
        go_wp2_with (first | (go_at_call 30; refine (hf _).mono ?_; rintro e w1 ⟨rfl, b1⟩))
        go_roundw
        case rel => exact ⟨k + 1, by omega, by go_num, hbel.trans (((Below.refl _ _).alloc hbel.size _).trans (b1.mono (by have := hbel.size; simp; omega))), fun j x' hj hx' => by
            by_cases e : j = k
            · subst e
              obtain rfl : x' = x := Option.some.inj (hx'.symm.trans (unhide Hx))
              exact unhide Ho
            · exact unhide Hall j x' (by omega) hx'⟩
        case measure => simp [intOf]; omega
    · obtain rfl : k = l.length := by omega
      have Hy := hide (all_yes (unhide Hall))
      go_wp2
      go_ret
      exact ⟨ret_bool (unhide Hy).symm, hbel⟩

/-- A schema in new memory, behind B. -/
def SchNew (B : Nat) (w : World) (b : Nat) (l : List (ByteArray × Int)) : Prop :=
  B ≤ b ∧ b < w.heap.size ∧ ∃ q cap, w.cell? ⟨b, 0, none⟩ = some (.slice q l.length cap) ∧ NewA B w q cap l
theorem SchNew.at {B : Nat} {w : World} {b : Nat} {l : List (ByteArray × Int)} (h : SchNew B w b l) : SchAt w b l := by
  obtain ⟨_, h1, q, cap, hc, hN⟩ := h
  refine ⟨h1, q, cap, hc, hN.of, fun e => ?_⟩
  rcases hN with ⟨_, rfl, h2⟩ | ⟨g, h2, _⟩
  · exact ⟨rfl, h2⟩
  · rw [e] at h2; cases h2
theorem SchNew.below {B : Nat} {w w' : World} {b : Nat} {l : List (ByteArray × Int)} (h : SchNew B w b l) (hb : Below w.heap.size w w') : SchNew B w' b l := by
  obtain ⟨h0, h1, q, cap, hc, hN⟩ := h
  exact ⟨h0, Nat.lt_of_lt_of_le h1 hb.size, q, cap, (hb.cell (by exact h1)).trans hc, hN.below hb⟩
theorem SchNew.mono {B B' : Nat} {w : World} {b : Nat} {l : List (ByteArray × Int)} (h : SchNew B w b l) (hb : B' ≤ B) : SchNew B' w b l := by
  obtain ⟨h0, h1, q, cap, hc, hN⟩ := h
  exact ⟨Nat.le_trans hb h0, h1, q, cap, hc, hN.mono hb⟩

/-- What New returns. -/
def NewRes (B : Nat) (l : List (ByteArray × Int)) (e : Ending) (w' : World) : Prop :=
  (64 < l.length ∧ e = .returned (.tuple #[.pointer none, .int .i64 2])) ∨
  (l.length ≤ 64 ∧ ¬ (l.all atOk = true ∧ (l.map nmA).Nodup) ∧ e = .returned (.tuple #[.pointer none, .int .i64 1])) ∨
  (l.length ≤ 64 ∧ l.all atOk = true ∧ (l.map nmA).Nodup ∧ ∃ b l', e = .returned (.tuple #[.pointer (some ⟨b, 0, none⟩), .int .i64 0]) ∧ l'.Perm l ∧ Strict nmA l' ∧ SchNew B w' b l')

set_option maxHeartbeats 1000000 in
theorem new_any (p : Option Addr) (cap : Nat) (l : List (ByteArray × Int)) (w : World) (hl : l.length * 24 ≤ 140737488355328) (hp : p = none → l.length = 0 ∧ cap = 0) (hA : AtsOf w p l) :
    Calls Tryz.prog 13 #[.slice p l.length cap] w fun e w' => NewRes w.heap.size l e w' ∧ Below w.heap.size w w' := by
  by_cases h64 : 64 < l.length
  · have i1 : (64 : Int) < (l.length : Int) := by omega
    clear hA hp
    go_enter Tryz.func13, Tryz.ntmps13
    go_wp2
    go_ret2
    exact ⟨Or.inl ⟨h64, rfl⟩, Below.refl _ _⟩
  · have i1 : ¬ (64 : Int) < (l.length : Int) := by omega
    have hal := allA_any p cap l w (by omega) hA
    cases ho : l.all atOk with
    | false =>
      rw [ho] at hal
      have Ho := hide ho
      clear ho hA hp
      go_enter Tryz.func13, Tryz.ntmps13
      go_wp2_with (first | (go_at_call 29; refine hal.mono ?_; rintro e w1 ⟨rfl, b1⟩))
      go_ret2
      exact ⟨Or.inr (Or.inl ⟨by omega, (fun h => by rw [unhide Ho] at h; cases h.1), rfl⟩), b1⟩
    | true =>
      rw [ho] at hal
      have Ho := hide ho
      have hri := fun (W : World) (hb : Below w.heap.size w W) => risingA_any p cap l W hl hp (hA.below hb)
      clear ho hA hp
      go_enter Tryz.func13, Tryz.ntmps13
      go_wp2_with (first
        | (go_at_call 29; refine hal.mono ?_; rintro e w1 ⟨rfl, b1⟩)
        | (go_at_call 31; refine (hri _ b1).mono ?_; rintro e w2 ⟨hres, b2⟩; rcases hres with ⟨l', q, cap', rfl, hperm, hstr, hN, _⟩ | ⟨rfl, hno⟩))
      · have HN := hide hN
        have Hp := hide hperm
        have Hs := hide hstr
        have hbb := hide (below_sub b1 b2)
        have hb1 := b1.size
        have hb2 := b2.size
        clear hN hperm hstr hri b1 b2
        go_wp2
        go_ret2
        have hbn : Below w2.heap.size w2 (w2.alloc (.cells #[.slice q l'.length cap'] 79)) := (Below.refl _ _).alloc (Nat.le_refl _) _
        refine ⟨Or.inr (Or.inr ⟨by omega, unhide Ho, strict_nodup (unhide Hs) (unhide Hp), w2.heap.size, l', rfl, unhide Hp, unhide Hs, by omega, by simp, q, cap', by go_simp, ((unhide HN).mono hb1).below hbn⟩), ?_⟩
        exact below_sub (unhide hbb) hbn
      · have Hn := hide hno
        have hbb := hide (below_sub b1 b2)
        clear hri b1 b2 hno
        go_wp2
        go_ret2
        exact ⟨Or.inr (Or.inl ⟨by omega, fun h => unhide Hn h.2, rfl⟩), unhide hbb⟩

end Go.Proofs.YtencibjmiphinaaGreatDoor.Sc
namespace Go.Proofs.YtencibjmiphinaaGreatDoor
open Go.RowKit

theorem bl_on {w w' : World} {b : Nat} {o : Obj} (h : w.heap[b]? = some o) (hb : Below w.heap.size w w') : w'.heap[b]? = some o := (hb.block b (Array.getElem?_eq_some_iff.1 h).1).trans h
/-- Parse of the first text. -/
theorem fxA (w : World) (hG : Lx.G w) : Calls Tryz.prog 10 #[.string ⟨#[97, 32, 123, 49, 44, 32, 50, 125, 32, 38, 32, 33, 99, 32, 34, 120, 34, 42, 32, 124, 32, 97, 32, 91, 48, 44, 32, 57, 93]⟩] w fun e w' => ∃ qi ci qw cw kb koff ck, e = .returned (.tuple #[.agg #[.int .i64 0, .string ⟨#[]⟩, .slice qi 0 ci, .slice qw 0 cw, .int .i64 0, .int .i64 0, .int .i64 4, .slice (some ⟨kb, koff, none⟩) 2 ck], .int .i64 0, .int .i64 0]) ∧
    NdIn w' ⟨0, ⟨#[]⟩, qi, 0, ci, qw, 0, cw, 0, 0, 4, some ⟨kb, koff, none⟩, 2, ck⟩ (.mk 0 ⟨#[]⟩ [] [] 0 0 4 [.mk 0 ⟨#[]⟩ [] [] 0 0 3 [.mk 1 ⟨#[97]⟩ [1, 2] [] 0 0 1 [], .mk 0 ⟨#[]⟩ [] [] 0 0 2 [.mk 4 ⟨#[99]⟩ [] [⟨#[120]⟩] 0 0 1 []]], .mk 3 ⟨#[97]⟩ [] [] 0 9 1 []]) ∧ kb < w'.heap.size ∧ w'.cell? ⟨kb, koff + 13, none⟩ = some (.int .i64 9) ∧ Below w.heap.size w w' := by
  refine (parse_any _ w hG).mono fun e w' h => ?_
  obtain ⟨⟨v, he, hv⟩, hb⟩ := h.ok parA
  have hin := hv.toIn
  obtain ⟨qi, ci, qw, cw, qk, ck, rfl, h1, h2, hk⟩ := hin.parts
  obtain ⟨kb, koff, kv, rfl, hlt, hkin, _, _, _, _, _, k5, _⟩ := hk.at (j := 1) rfl
  obtain ⟨_, _, _, _, _, _, rfl, _⟩ := hkin.parts
  exact ⟨qi, ci, qw, cw, kb, koff, ck, he, hin, hlt, k5, hb⟩
theorem fxB (w : World) (hG : Lx.G w) : Calls Tryz.prog 10 #[.string ⟨#[97, 32, 123, 49, 32, 50, 125]⟩] w fun e w' => e = .returned (.tuple #[zVal, .int .i64 5, .int .i64 10]) ∧ Below w.heap.size w w' :=
  (parse_any _ w hG).mono fun _ _ h => h.bad parB
theorem fxN (w : World) (M : Nat) (hM : w.heap.size = M) : Calls Tryz.prog 13 #[.slice (some ⟨M, 0, none⟩) 1 1] (w.alloc (.cells #[.string ⟨#[97]⟩, .int .i64 1] 62)) fun e w' => ∃ b, e = .returned (.tuple #[.pointer (some ⟨b, 0, none⟩), .int .i64 0]) ∧ Sc.SchAt w' b [(⟨#[97]⟩, 1)] ∧ Below w.heap.size w w' := by
  subst hM
  have hA : Sc.AtsOf (w.alloc (.cells #[.string ⟨#[97]⟩, .int .i64 1] 62)) (some ⟨w.heap.size, 0, none⟩) [(⟨#[97]⟩, 1)] := fun _ => ⟨w.heap.size, 0, rfl, by simp, fun j x hj => by
    obtain ⟨c0, c1, _⟩ := of2 (box_nw w (.cells #[.string ⟨#[97]⟩, .int .i64 1] 62))
    cases j with
    | zero => cases hj; exact ⟨c0, c1⟩
    | succ j => simp at hj⟩
  refine (Sc.new_any (some ⟨w.heap.size, 0, none⟩) 1 [(⟨#[97]⟩, 1)] (w.alloc (.cells #[.string ⟨#[97]⟩, .int .i64 1] 62)) (by decide) (fun h => by cases h) hA).mono fun e w' h => ?_
  obtain ⟨h, hb⟩ := h
  have hb2 : Below w.heap.size w w' := below_sub ((Below.refl _ _).alloc (Nat.le_refl _) _) hb
  rcases h with ⟨h, _⟩ | ⟨_, h, _⟩ | ⟨_, _, _, b, l', he, hp, _, hs⟩
  · simp at h
  · exact absurd ⟨by decide, by simp⟩ h
  · have : l' = [(⟨#[97]⟩, 1)] := List.perm_singleton.1 hp
    subst this
    exact ⟨b, he, hs.at, hb2⟩
theorem fxC2 (b : Nat) (w : World) (hG : Lx.G w) (hS : Sc.SchAt w b [(⟨#[97]⟩, 1)]) : Calls Tryz.prog 15 #[.pointer (some ⟨b, 0, none⟩), .int .i64 2, .string ⟨#[33, 33, 97, 32, 123, 49, 125]⟩] w fun e w' => e = .returned (.tuple #[zVal, .int .i64 11]) ∧ Below w.heap.size w w' :=
  (expr_any b _ (by decide) 2 _ w hG hS).mono fun e w' h => by rw [exC2] at h; exact h
theorem fxC3 (b : Nat) (w : World) (hG : Lx.G w) (hS : Sc.SchAt w b [(⟨#[97]⟩, 1)]) : Calls Tryz.prog 15 #[.pointer (some ⟨b, 0, none⟩), .int .i64 3, .string ⟨#[33, 33, 97, 32, 123, 49, 125]⟩] w fun e w' => ∃ ri di rw dw rk dk, e = .returned (.tuple #[.agg #[.int .i64 0, .string ⟨#[]⟩, .slice ri 0 di, .slice rw 0 dw, .int .i64 0, .int .i64 0, .int .i64 2, .slice rk 1 dk], .int .i64 0]) ∧ Below w.heap.size w w' :=
  (expr_any b _ (by decide) 3 _ w hG hS).mono fun e w' h => by
    rw [exC3] at h
    obtain ⟨⟨v, he, hv⟩, hb⟩ := h
    obtain ⟨ri, di, rw', dw, rk, dk, rfl, _⟩ := hv.toIn.parts
    exact ⟨ri, di, rw', dw, rk, dk, he, hb⟩
set_option maxHeartbeats 4000000 in
theorem fixed_any5 (w : World) (hG : Lx.G w) : Calls Tryz.prog 9 #[] w fun e w' => e = .returned (.bool true) ∧ Below w.heap.size w w' := by
  have HG := hide hG
  clear hG
  go_enter Tryz.func9, Tryz.ntmps9
  go_wp2_with first
    | (go_at_call 10; refine (fxB _ (Lx.G_below (unhide HG) (unhide B1))).mono ?_; rintro e w2 ⟨rfl, hb⟩; have X2 := hide (bl_on (unhide X1) hb); have k2 : w2.cell? ⟨kb, koff + 13, none⟩ = some (.int .i64 9) := (hb.cell (p := ⟨kb, koff + 13, none⟩) (by have := unhide KL; simp; omega)).trans (by have := unhide KL; go_simp); have I2 := hide ((unhide I1).keep hb); have B2 := hide (below_sub (unhide B1) hb); have hl2 : w1.heap.size < w2.heap.size := (by have := hb.size; simp at this; omega); obtain ⟨x0, x1, x2, x3, x4, x5, x6, x7⟩ := of8' (unhide X2); have hl3 : kb < w2.heap.size := (by have := unhide KL; omega); clear hb; unfold zVal)
    | (go_at_call 10; refine (fxA _ (unhide HG)).mono ?_; rintro e w1 ⟨qi, ci, qw, cw, kb, koff, ck, rfl, hin, hlt, k1, hb⟩; have KL := hide hlt; have K1 := hide k1; have B1 := hide (hb.alloc hb.size (.cells #[.int .i64 0, .string ⟨#[]⟩, .slice qi 0 ci, .slice qw 0 cw, .int .i64 0, .int .i64 0, .int .i64 4, .slice (some ⟨kb, koff, none⟩) 2 ck] 29)); have X1 := hide (box_nw w1 (.cells #[.int .i64 0, .string ⟨#[]⟩, .slice qi 0 ci, .slice qw 0 cw, .int .i64 0, .int .i64 0, .int .i64 4, .slice (some ⟨kb, koff, none⟩) 2 ck] 29)); have I1 := hide (hin.keep ((Below.refl w1.heap.size w1).alloc (Nat.le_refl _) (.cells #[.int .i64 0, .string ⟨#[]⟩, .slice qi 0 ci, .slice qw 0 cw, .int .i64 0, .int .i64 0, .int .i64 4, .slice (some ⟨kb, koff, none⟩) 2 ck] 29))); clear hin hlt hb)
    | (go_at_call 13; refine (fxN _ _ (by simp)).mono ?_; rintro e w3 ⟨b, rfl, hS, hb⟩; have hb2 := below_sub ((Below.refl w2.heap.size w2).alloc (Nat.le_refl _) (.cells #[.int .i64 0, .string ⟨#[]⟩, .slice none 0 0, .slice none 0 0, .int .i64 0, .int .i64 0, .int .i64 0, .slice none 0 0] 29)) hb; have X3 := hide (bl_on (unhide X2) hb2); have I3 := hide ((unhide I2).keep hb2); have B3 := hide (below_sub (unhide B2) hb2); have S3 := hide hS; clear hb hb2 hS)
    | (go_at_call 15; have tst := unhide X4; clear tst; refine (fxC3 b _ (Lx.G_below (unhide HG) ((unhide B4).alloc (unhide B4).size (.cells #[.int .i64 0, .string ⟨#[]⟩, .slice none 0 0, .slice none 0 0, .int .i64 0, .int .i64 0, .int .i64 0, .slice none 0 0] 29))) ((unhide S4).below ((Below.refl _ _).alloc (Nat.le_refl _) (.cells #[.int .i64 0, .string ⟨#[]⟩, .slice none 0 0, .slice none 0 0, .int .i64 0, .int .i64 0, .int .i64 0, .slice none 0 0] 29)))).mono ?_; rintro e w5 ⟨ri, di, rw', dw, rk, dk, rfl, hb⟩; have hb2 := below_sub ((Below.refl w4.heap.size w4).alloc (Nat.le_refl _) (.cells #[.int .i64 0, .string ⟨#[]⟩, .slice none 0 0, .slice none 0 0, .int .i64 0, .int .i64 0, .int .i64 0, .slice none 0 0] 29)) hb; have hb3 := below_sub hb2 ((Below.refl w5.heap.size w5).alloc (Nat.le_refl _) (.cells #[.int .i64 0, .string ⟨#[]⟩, .slice ri 0 di, .slice rw' 0 dw, .int .i64 0, .int .i64 0, .int .i64 2, .slice rk 1 dk] 29)); have X5 := hide (bl_on (unhide X4) hb3); have I5 := hide ((unhide I4).keep hb3); have S5 := hide ((unhide S4).below hb3); have B5 := hide (below_sub (unhide B4) hb3); have L5 := hide (Nat.lt_of_lt_of_le (unhide L4) hb2.size); obtain ⟨y0, y1, y2, y3, y4, y5, y6, y7⟩ := of8' (unhide X5); clear hb hb2 hb3)
    | (go_at_call 15; refine (fxC2 b _ (Lx.G_below (unhide HG) (unhide B3)) (unhide S3)).mono ?_; rintro e w4 ⟨rfl, hb⟩; have X4 := hide (bl_on (unhide X3) hb); have I4 := hide ((unhide I3).keep hb); have S4 := hide ((unhide S3).below hb); have B4 := hide (below_sub (unhide B3) hb); have L4 := hide (Array.getElem?_eq_some_iff.1 (unhide X4)).1; clear hb; unfold zVal)
    | (go_at_call 18; have hk := kinds_any b _ (by decide) _ _ _ (unhide I5) (unhide S5) (by decide); rw [knA] at hk; refine hk.mono ?_; rintro e w6 ⟨rfl, hb⟩; have B6 := hide hb; clear hb hk)
  go_ret
  exact ⟨rfl, below_sub (unhide B5) (unhide B6)⟩
end Go.Proofs.YtencibjmiphinaaGreatDoor
namespace Go.Proofs.YtencibjmiphinaaGreatDoor
open Go.ChangeShapes Go.WideShapes Go.ChangeAt Go.RowKit

theorem Tryz.laidOut : laidOutB Tryz.prog = true := by kernel_rfl
theorem Tryz.own : ownKnob Tryz.prog.godebug = none := by kernel_rfl
theorem Tryz.gTab : Tryz.prog.globalNamed "internal/strconv.uint64pow10" = some 3 := by kernel_rfl
theorem Tryz.gTabType : (Tryz.prog.globals[3]?).map (·.type) = some 207 := by kernel_rfl
theorem Tryz.gES : Tryz.prog.globalNamed "strconv.ErrSyntax" = some 1 := by kernel_rfl
theorem Tryz.gESType : (Tryz.prog.globals[1]?).map (·.type) = some 114 := by kernel_rfl
theorem Tryz.gER : Tryz.prog.globalNamed "strconv.ErrRange" = some 2 := by kernel_rfl
theorem Tryz.gERType : (Tryz.prog.globals[2]?).map (·.type) = some 114 := by kernel_rfl
theorem Tryz.cells161 : Tryz.prog.cellsOf 161 = 1 := by kernel_rfl
theorem Tryz.cells207 : Tryz.prog.cellsOf 207 = 20 := by kernel_rfl
theorem Tryz.cells211 : Tryz.prog.cellsOf 211 = 1 := by kernel_rfl
theorem Tryz.cells9 : Tryz.prog.cellsOf 9 = 1 := by kernel_rfl
theorem star : "*" ++ "errors.errorString" = "*errors.errorString" := by decide
theorem row209 (u : TypeId) (h : Tryz.prog.typeName? 3 u = some "*errors.errorString") : u = 209 :=
  typeName_ptr_named (nm := "errors.errorString") (by rw [star]; kernel_rfl) (by kernel_rfl) (by decide) u (by rw [star]; exact h)

/-- What every row of the layer lists. -/
def laidAll : List (String × DataW Unit) := [("math/bits.deBruijn32tab", Rows.laid_math_bits_deBruijn32tab), ("math/bits.deBruijn64tab", Rows.laid_math_bits_deBruijn64tab), ("internal/strconv.uint64pow10", Rows.laid_internal_strconv_uint64pow10), ("strconv.ErrRange", Rows.laid_strconv_ErrRange), ("strconv.ErrSyntax", Rows.laid_strconv_ErrSyntax)]
theorem tab_data : (Rows.laid_internal_strconv_uint64pow10 : DataW Unit) = Lib.tabData .u64 Lib.pow10Tab := by rfl
theorem G_of_laid {W : World} (h : laidMetH Tryz.prog laidAll W) : Lx.G W := by
  rw [MakeChecks.laidMetH_plain _ _ _ (by kernel_rfl)] at h
  have h3 := h.tail.tail
  rw [tab_data] at h3
  have h4 := h3.tail
  have h5 := h4.tail
  obtain ⟨a1, s1, hv1, -, -, -⟩ := laid_sentinel h4 Tryz.gER Tryz.gERType Tryz.underlying114 row209 Tryz.underlying209 Tryz.underlying211 rfl rfl Tryz.underlying9 Tryz.cells211 Tryz.cells9
  obtain ⟨a2, s2, hv2, -, -, -⟩ := laid_sentinel h5 Tryz.gES Tryz.gESType Tryz.underlying114 row209 Tryz.underlying209 Tryz.underlying211 rfl rfl Tryz.underlying9 Tryz.cells211 Tryz.cells9
  exact ⟨Lib.tabIs_of_head Tryz.gTab Tryz.gTabType Tryz.underlying207 Tryz.underlying161 Tryz.cells161 Tryz.cells207 h3, ⟨_, _, hv2⟩, ⟨_, _, hv1⟩⟩
theorem door_met (os : Os) (args : Array Value) : laidMetH Tryz.prog laidAll ((World.doorLaid Tryz.prog 400 os).forCall (fun _ _ => 0) ⟨#[], args, []⟩).memory :=
  laidMetH_of_parts3 (fuel := 8) (laidMet_of_run' 8 (by kernel_rfl) (by kernel_rfl)) (by kernel_rfl) (by kernel_rfl)
end Go.Proofs.YtencibjmiphinaaGreatDoor

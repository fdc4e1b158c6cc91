/- The document's reader: its calls as functions of its state. -/
import Derived.Test.YtencibjmiphinaaGreatDoorQZai
import Derived.Test.YtencibjmiphinaaGreatDoorQPaLoc
import Derived.Test.YtencibjmiphinaaGreatDoorQZag
import Derived.Shelf.Strconv.Clone
namespace Go.Proofs.YtencibjmiphinaaGreatDoor
open Go.RowKit Go.Sort

def tkS (L : List Tk) (k : Int) (i : Nat) (bad : Bool) : Tk × Nat × Bool := if kdB bad (L.drop i) = k then ((L.drop i).headD zTk, i + 1, false) else (zTk, i, true)
def sgS (L : List Tk) (s : ByteArray) (i : Nat) (bad : Bool) : Nat × Bool := if isS s bad (L.drop i) = true then (i + 1, false) else (i, true)
theorem kdB_some {bad : Bool} {l : List Tk} {k : Int} (hk : k ≠ 0) (h : kdB bad l = k) : bad = false ∧ ∃ t r, l = t :: r ∧ t.1 = k := by
  cases bad with
  | true => exact absurd h.symm hk
  | false =>
    cases l with
    | nil => exact absurd h.symm hk
    | cons t r => exact ⟨rfl, t, r, rfl, h⟩
theorem isS_some {bad : Bool} {l : List Tk} {s : ByteArray} (h : isS s bad l = true) : bad = false ∧ ∃ r, skL s l = some r := by
  unfold isS at h
  simp only [Bool.and_eq_true, Bool.not_eq_true'] at h
  exact ⟨h.1, Option.isSome_iff_exists.1 h.2⟩
theorem isS_none {l : List Tk} {s : ByteArray} (h : isS s false l = false) : skL s l = none := by
  unfold isS at h
  simpa using h
theorem take_st {g i i' : Nat} {L : List Tk} {bad b' : Bool} {k : Int} {t : Tk} {w : World} (hk : k ≠ 0) (h : Rd w g L i bad) (hs : tkS L k i bad = (t, i', b')) :
    Calls Tryz.prog 123 #[.pointer (some ⟨g, 0, none⟩), .int .i64 k] w fun e w' => e = .returned (tkV t) ∧ Rx g L i' b' w w' := by
  unfold tkS at hs
  split at hs
  · rename_i h1
    obtain ⟨rfl, t0, r, hd, ht⟩ := kdB_some hk h1
    rw [hd] at hs
    cases hs
    exact take_yes g L i k _ r w h hd ht
  · rename_i h1
    cases hs
    exact take_no g L _ bad k w h h1
theorem sign_st {g i i' : Nat} {L : List Tk} {bad b' : Bool} {s : ByteArray} {w : World} (h : Rd w g L i bad) (hs : sgS L s i bad = (i', b')) :
    Calls Tryz.prog 100 #[.pointer (some ⟨g, 0, none⟩), .string s] w fun e w' => e = .returned (.tuple #[]) ∧ Rx g L i' b' w w' := by
  unfold sgS at hs
  split at hs
  · rename_i h1
    obtain ⟨rfl, r, hr⟩ := isS_some h1
    cases hs
    exact sgn_yes g L i s r w h hr
  · rename_i h1
    cases hs
    exact sgn_no g L _ bad s w h (by simpa using h1)
/-- What a rule reads, and the reader's state behind it: a rule that gives up leaves it at that place. -/
def Mt {α : Type} (en : Int) (L : List Tk) (y : Rs α) (x : α) (i : Nat) (b : Bool) : Prop := match y with
  | .ok t r => b = false ∧ x = t ∧ L.drop i = r
  | .bad p => b = true ∧ plc en (L.drop i) = p
section
variable {α β : Type} {en : Int} {L : List Tk} {i i' : Nat} {b b' : Bool}
theorem Mt.bnd {y : Rs α} {x : α} {z : β} {g : α → List Tk → Rs β} (h : Mt en L y x i b) (h1 : b = false → Mt en L (g x (L.drop i)) z i' b') (h2 : b = true → i' = i ∧ b' = true) : Mt en L (y.bnd g) z i' b' := by
  cases y with
  | bad p =>
    obtain ⟨rfl, hp⟩ := h
    obtain ⟨rfl, rfl⟩ := h2 rfl
    exact ⟨rfl, hp⟩
  | ok t r =>
    obtain ⟨rfl, rfl, rfl⟩ := h
    exact h1 rfl
theorem Mt.ret (x : α) : Mt en L (.ok x (L.drop i)) x i false := ⟨rfl, rfl, rfl⟩
theorem tk_mt {k : Int} {t : Tk} (hk : k ≠ 0) (h : tkS L k i false = (t, i', b')) : Mt en L (ndL en k (L.drop i)) t i' b' := by
  unfold tkS at h
  have hd1 : L.drop (i + 1) = (L.drop i).tail := by rw [List.tail_drop]
  cases hd : L.drop i with
  | nil =>
    rw [hd] at h
    split at h
    · rename_i h1
      exact absurd h1.symm hk
    · cases h
      exact ⟨rfl, by rw [hd]; rfl⟩
  | cons u r =>
    rw [hd] at h
    split at h
    · rename_i h1
      have h1 : u.1 = k := h1
      cases h
      simp only [ndL, if_pos h1]
      exact ⟨rfl, rfl, by rw [hd1, hd]; rfl⟩
    · rename_i h1
      have h1 : ¬ u.1 = k := h1
      cases h
      simp only [ndL, if_neg h1]
      exact ⟨rfl, by rw [hd]; rfl⟩
theorem sg_mt {s : ByteArray} (h : sgS L s i false = (i', b')) : Mt en L (sgL en s (L.drop i)) () i' b' := by
  unfold sgS at h
  split at h
  · rename_i h1
    obtain ⟨_, r, hr⟩ := isS_some h1
    cases h
    unfold sgL
    rw [hr]
    obtain ⟨t, h2, _⟩ := skL_is hr
    exact ⟨rfl, rfl, by rw [← List.tail_drop, h2]; rfl⟩
  · rename_i h1
    cases h
    have h1 := isS_none (l := L.drop i) (by simpa using h1)
    unfold sgL
    rw [h1]
    exact ⟨rfl, rfl⟩
theorem tk_stay {k : Int} {t : Tk} (hk : k ≠ 0) (hb : b = true) (h : tkS L k i b = (t, i', b')) : i' = i ∧ b' = true := by
  subst hb
  unfold tkS at h
  rw [if_neg (fun e => hk e.symm)] at h
  cases h; exact ⟨rfl, rfl⟩
theorem sg_stay {s : ByteArray} (hb : b = true) (h : sgS L s i b = (i', b')) : i' = i ∧ b' = true := by
  subst hb
  unfold sgS at h
  rw [if_neg (by simp [isS])] at h
  cases h; exact ⟨rfl, rfl⟩
end
end Go.Proofs.YtencibjmiphinaaGreatDoor
namespace Go.Proofs.YtencibjmiphinaaGreatDoor
open Go.RowKit

theorem mbL_len {en k : Int} : ∀ (n : Nat) (acc l ts r : List Tk), acc.length ≤ 64 → mbL en k n acc l = .ok ts r → ts.length ≤ 64
  | 0, acc, l, ts, r, _, h => by simp [mbL] at h
  | n + 1, acc, l, ts, r, ha, h => by
    simp only [mbL] at h
    split at h
    · split at h
      · cases h
      · cases h; exact ha
    · split at h
      · cases h
      · rename_i h64
        split at h
        · cases h
        · exact mbL_len n _ _ _ _ (by simp; omega) h
theorem msL_len {en k : Int} {l ts r : List Tk} (h : msL en k l = .ok ts r) : ts.length ≤ 64 := by
  unfold msL at h
  split at h
  · cases h
  · exact mbL_len _ _ _ _ _ (by simp) h
theorem words_n (attr : ByteArray) (q : Option Addr) (c : Nat) (l : List ByteArray) (n : Nat) (w : World) (h : SlOf encS 1 w q c l) (hn : l.length = n) (hl : n ≤ 1000000000000) :
    Calls Tryz.prog 170 #[.string attr, .slice q n c] w fun e w' => NewT w.heap.size w' (.mk 2 attr [] l 0 0 1 []) e ∧ Below w.heap.size w w' := by
  subst hn; exact words_any attr q c l w h hl
theorem ints_n (attr : ByteArray) (q : Option Addr) (c : Nat) (l : List Int) (n : Nat) (w : World) (h : SlOf encI 1 w q c l) (hn : l.length = n) (hl : n ≤ 1000000000000) :
    Calls Tryz.prog 172 #[.string attr, .slice q n c] w fun e w' => NewT w.heap.size w' (.mk 1 attr l [] 0 0 1 []) e ∧ Below w.heap.size w w' := by
  subst hn; exact ints_any attr q c l w h hl
set_option maxHeartbeats 2000000 in
theorem setS (g : Nat) (en : Int) (attr : ByteArray) (l : List Tk) (w : World) (hp : Ps w g en l) (hk : isK 3 l = true) :
    Calls Tryz.prog 156 #[.pointer (some ⟨g, 0, none⟩), .string attr] w fun e w' => NdR g en w (setL en attr l) e w' := by
  have hg := hp.lt
  have h0 := hp.z
  have hmf : ∀ (fn : Fn) (first cap : Array Value) (w : World), (Instr.makeFunc fn first cap).run Tryz.prog w = .ok (.func fn first cap) w := fun _ _ _ _ => rfl
  have hn := isNext_any g en 3 l _ h0.1
  rw [hk] at hn
  have hb2 : Below (w.alloc (.cells #[.int .i64 0, .string ⟨#[]⟩, .slice none 0 0, .slice none 0 0, .int .i64 0, .int .i64 0, .int .i64 0, .slice none 0 0] 29)).heap.size (w.alloc (.cells #[.int .i64 0, .string ⟨#[]⟩, .slice none 0 0, .slice none 0 0, .int .i64 0, .int .i64 0, .int .i64 0, .slice none 0 0] 29)) ((w.alloc (.cells #[.int .i64 0, .string ⟨#[]⟩, .slice none 0 0, .slice none 0 0, .int .i64 0, .int .i64 0, .int .i64 0, .slice none 0 0] 29)).alloc (.cells #[.slice none 0 0] 24)) := (Below.refl _ _).alloc (Nat.le_refl _) _
  have hm := mbrsS g (w.heap.size + 1) en l (w.alloc (.cells #[.int .i64 0, .string ⟨#[]⟩, .slice none 0 0, .slice none 0 0, .int .i64 0, .int .i64 0, .int .i64 0, .slice none 0 0] 29)) ((w.alloc (.cells #[.int .i64 0, .string ⟨#[]⟩, .slice none 0 0, .slice none 0 0, .int .i64 0, .int .i64 0, .int .i64 0, .slice none 0 0] 29)).alloc (.cells #[.slice none 0 0] 24)) (h0.bel hb2) ⟨none, 0, by have := box_nw (w.alloc (.cells #[.int .i64 0, .string ⟨#[]⟩, .slice none 0 0, .slice none 0 0, .int .i64 0, .int .i64 0, .int .i64 0, .slice none 0 0] 29)) (.cells #[.slice none 0 0] 24); simpa using this, OwnK.nil _ _⟩ (by simp) (by omega)
  cases em : msL en 3 l with
  | bad p =>
    have hx : setL en attr l = .bad p := by simp only [setL, hk, em]; simp
    rw [hx]
    rw [em] at hm
    clear hp em hx h0 hk hb2
    go_enter Tryz.func156, Tryz.ntmps156
    go_wp2_with first
      | (go_at_call 139; refine hn.mono ?_; rintro e w1 ⟨rfl, rfl⟩)
      | (go_at_call 168; refine hm.mono ?_; rintro e w2 ⟨rfl, hx⟩; have HX := hide hx; clear hx; simp only [refusal])
    exact ⟨rfl, rfl, gr_z (unhide HX)⟩
  | ok ts r =>
    have hx : setL en attr l = .ok (.mk 2 attr [] (ts.map (·.2.2.2.2)) 0 0 1 []) r := by simp only [setL, hk, em]; simp
    rw [hx]
    have hl := msL_len em
    have hl2 : (ts.map (·.2.2.2.2)).length = ts.length := by simp
    have HL2 := hide hl2
    rw [em] at hm
    clear hp em hx h0 hk hb2 hl2
    go_enter Tryz.func156, Tryz.ntmps156
    go_wp2_with first
      | (go_at_call 139; refine hn.mono ?_; rintro e w1 ⟨rfl, rfl⟩)
      | (go_at_call 168; refine hm.mono ?_; rintro e w2 ⟨rfl, hx, q, c, k0, k1⟩; have HX := hide hx; have K1 := hide k1; have k2 := (of1 k0).1; clear hx k0 k1)
      | (go_at_call 170; refine (words_n attr q c _ ts.length _ (unhide K1).ls (unhide HL2) (by omega)).mono ?_; rintro e w5 ⟨⟨v, rfl, hv⟩, hb⟩; have X5 := hide ((unhide HX).bel hb); have HV := hide hv; clear hb hv; obtain ⟨z1, ⟨q0, q1, q2, q3, q4, q5, q6, q7⟩, qf⟩ := res8 (unhide X5).2 hg; unfold Nv.val)
    refine bodyPost_ret (v := v.val) (by simp [results, Tryz.results156, go_sem, Nv.val, *]) rfl ?_
    exact fin8 (unhide X5) hg (unhide HV) (by have := (unhide HX).2.size; simp at this; omega)
set_option maxHeartbeats 2000000 in
theorem setI (g : Nat) (en : Int) (attr : ByteArray) (l : List Tk) (w : World) (hp : Ps w g en l) (hk : isK 3 l = false) :
    Calls Tryz.prog 156 #[.pointer (some ⟨g, 0, none⟩), .string attr] w fun e w' => NdR g en w (setL en attr l) e w' := by
  have hg := hp.lt
  have h0 := hp.z
  have hmf : ∀ (fn : Fn) (first cap : Array Value) (w : World), (Instr.makeFunc fn first cap).run Tryz.prog w = .ok (.func fn first cap) w := fun _ _ _ _ => rfl
  have hn := isNext_any g en 3 l _ h0.1
  rw [hk] at hn
  have hb2 : Below (w.alloc (.cells #[.int .i64 0, .string ⟨#[]⟩, .slice none 0 0, .slice none 0 0, .int .i64 0, .int .i64 0, .int .i64 0, .slice none 0 0] 29)).heap.size (w.alloc (.cells #[.int .i64 0, .string ⟨#[]⟩, .slice none 0 0, .slice none 0 0, .int .i64 0, .int .i64 0, .int .i64 0, .slice none 0 0] 29)) ((w.alloc (.cells #[.int .i64 0, .string ⟨#[]⟩, .slice none 0 0, .slice none 0 0, .int .i64 0, .int .i64 0, .int .i64 0, .slice none 0 0] 29)).alloc (.cells #[.slice none 0 0] 23)) := (Below.refl _ _).alloc (Nat.le_refl _) _
  have hm := mbrsI g (w.heap.size + 1) en l (w.alloc (.cells #[.int .i64 0, .string ⟨#[]⟩, .slice none 0 0, .slice none 0 0, .int .i64 0, .int .i64 0, .int .i64 0, .slice none 0 0] 29)) ((w.alloc (.cells #[.int .i64 0, .string ⟨#[]⟩, .slice none 0 0, .slice none 0 0, .int .i64 0, .int .i64 0, .int .i64 0, .slice none 0 0] 29)).alloc (.cells #[.slice none 0 0] 23)) (h0.bel hb2) ⟨none, 0, by have := box_nw (w.alloc (.cells #[.int .i64 0, .string ⟨#[]⟩, .slice none 0 0, .slice none 0 0, .int .i64 0, .int .i64 0, .int .i64 0, .slice none 0 0] 29)) (.cells #[.slice none 0 0] 23); simpa using this, OwnK.nil _ _⟩ (by simp) (by omega)
  cases em : msL en 2 l with
  | bad p =>
    have hx : setL en attr l = .bad p := by simp only [setL, hk, em]; simp
    rw [hx]
    rw [em] at hm
    clear hp em hx h0 hk hb2
    go_enter Tryz.func156, Tryz.ntmps156
    go_wp2_with first
      | (go_at_call 139; refine hn.mono ?_; rintro e w1 ⟨rfl, rfl⟩)
      | (go_at_call 168; refine hm.mono ?_; rintro e w2 ⟨rfl, hx⟩; have HX := hide hx; clear hx; simp only [refusal])
    exact ⟨rfl, rfl, gr_z (unhide HX)⟩
  | ok ts r =>
    have hx : setL en attr l = .ok (.mk 1 attr (ts.map (·.2.2.2.1)) [] 0 0 1 []) r := by simp only [setL, hk, em]; simp
    rw [hx]
    have hl := msL_len em
    have hl2 : (ts.map (·.2.2.2.1)).length = ts.length := by simp
    have HL2 := hide hl2
    rw [em] at hm
    clear hp em hx h0 hk hb2 hl2
    go_enter Tryz.func156, Tryz.ntmps156
    go_wp2_with first
      | (go_at_call 139; refine hn.mono ?_; rintro e w1 ⟨rfl, rfl⟩)
      | (go_at_call 168; refine hm.mono ?_; rintro e w2 ⟨rfl, hx, q, c, k0, k1⟩; have HX := hide hx; have K1 := hide k1; have k2 := (of1 k0).1; clear hx k0 k1)
      | (go_at_call 172; refine (ints_n attr q c _ ts.length _ (unhide K1).ls (unhide HL2) (by omega)).mono ?_; rintro e w5 ⟨⟨v, rfl, hv⟩, hb⟩; have X5 := hide ((unhide HX).bel hb); have HV := hide hv; clear hb hv; obtain ⟨z1, ⟨q0, q1, q2, q3, q4, q5, q6, q7⟩, qf⟩ := res8 (unhide X5).2 hg; unfold Nv.val)
    refine bodyPost_ret (v := v.val) (by simp [results, Tryz.results156, go_sem, Nv.val, *]) rfl ?_
    exact fin8 (unhide X5) hg (unhide HV) (by have := (unhide HX).2.size; simp at this; omega)
theorem set_any (g : Nat) (en : Int) (attr : ByteArray) (l : List Tk) (w : World) (hp : Ps w g en l) :
    Calls Tryz.prog 156 #[.pointer (some ⟨g, 0, none⟩), .string attr] w fun e w' => NdR g en w (setL en attr l) e w' := by
  cases h : isK 3 l with
  | true => exact setS g en attr l w hp h
  | false => exact setI g en attr l w hp h
end Go.Proofs.YtencibjmiphinaaGreatDoor
namespace Go.Proofs
open Go.Shelf
def Tryz.cloneStr_ren : Go.Shelf.Ren := ⟨fun | 316 => 167 | n => n, fun | 9 => 9 | 3 => 3 | 4 => 4 | 37 => 87 | 0 => 0 | 127 => 117 | 5 => 5 | n => n, fun | n => n⟩
theorem Tryz.cloneStr : Go.Proofs.LaysM.n316 Tryz.prog Tryz.cloneStr_ren := {
  mixed := by kernel_rfl
  f316 := Tryz.func167.trans (congrArg some (by kernel_rfl))
  t0 := Tryz.underlying0
  a0 := Tryz.isAgg0
  z0 := Tryz.sizeOf0
  v0 := Tryz.zeroValue0
  t3 := Tryz.underlying3
  a3 := Tryz.isAgg3
  z3 := Tryz.sizeOf3
  v3 := Tryz.zeroValue3
  t4 := Tryz.underlying4
  a4 := Tryz.isAgg4
  z4 := Tryz.sizeOf4
  v4 := Tryz.zeroValue4
  t9 := Tryz.underlying9
  a9 := Tryz.isAgg9
  z9 := Tryz.sizeOf9
  v9 := Tryz.zeroValue9
  t37 := Tryz.underlying87
  a37 := Tryz.isAgg87
  z37 := Tryz.sizeOf87
  v37 := Tryz.zeroValue87
  t127 := Tryz.underlying117
  a127 := Tryz.isAgg117
  z127 := Tryz.sizeOf117
  v127 := Tryz.zeroValue117
  t5 := Tryz.underlying5
  a5 := Tryz.isAgg5
  z5 := Tryz.sizeOf5
  v5 := Tryz.zeroValue5
  i0 := by kernel_rfl
  i3 := by kernel_rfl
  i4 := by kernel_rfl
  i5 := by kernel_rfl
  i9 := by kernel_rfl
  i37 := by kernel_rfl
  i127 := by kernel_rfl }
end Go.Proofs
namespace Go.Proofs.YtencibjmiphinaaGreatDoor
open Go.RowKit Go.Shelf
theorem strClone (s : ByteArray) (hs : s.size ≤ 281474976710656) (w : World) : Calls Tryz.prog 154 #[.string s] w fun e w' => e = .returned (.string s) ∧ Below w.heap.size w w' := by
  have hcon := Any.stringslite_Clone Tryz.cloneStr s w hs
  change Calls Tryz.prog 167 _ _ _ at hcon
  go_enter Tryz.func154, Tryz.ntmps154
  go_wp2_with (go_at_call 167; refine hcon.mono ?_; rintro e w1 ⟨rfl, b1⟩; have B1 := hide b1; clear b1)
  go_ret
  exact ⟨rfl, unhide B1⟩
end Go.Proofs.YtencibjmiphinaaGreatDoor

/- The law ParsePlays returns true, whatever the text. -/
import Derived.Test.YtencibjmiphinaaGreatDoorQZay
import Derived.Test.YtencibjmiphinaaGreatDoorQZbd
import Derived.Test.YtencibjmiphinaaGreatDoorQZbg
import Derived.Test.YtencibjmiphinaaGreatDoorQPaLoc
import Derived.Test.YtencibjmiphinaaGreatDoorQZax
import Derived.Test.YtencibjmiphinaaGreatDoorQZal
namespace Go.Proofs.YtencibjmiphinaaGreatDoor
open Go.RowKit Go.Sort

def zNv : Nv := ⟨0, ⟨#[]⟩, none, 0, 0, none, 0, 0, 0, 0, 0, none, 0, 0⟩
theorem zIn (w : World) : NdIn w zNv zeroT := NdIn.make (ints := []) (words := []) (kids := []) (SlOf.none _) (SlOf.none _) ⟨[], SlOf.none _, rfl, fun j v x h => by simp at h⟩
theorem zOk : OkN zeroT := .mk (by simp) (by simp) (by simp) (fun x h => by cases h)
theorem G_on {w w' : World} (h : Lx.G w) (hb : RowKit.Below w.heap.size w w') : Lx.G w' := Lx.G_below h hb
/-- Parse, told by one node: what it answers and its tree. -/
def PrN (w : World) (x : Rs Nd) (e : Ending) (w' : World) (v : Nv) (t : Nd) (p c : Int) : Prop := e = .returned (.tuple #[v.val, .int .i64 p, .int .i64 c]) ∧ NdIn w' v t ∧ RowKit.Below w.heap.size w w' ∧ (match x with
  | .bad q => p = q ∧ c = 10 ∧ t = zeroT
  | .ok y _ => p = 0 ∧ c = 0 ∧ t = y)
theorem PrR.one {w w' : World} {x : Rs Nd} {e : Ending} (h : PrR w x e w') : ∃ v t p c, PrN w x e w' v t p c := by
  cases x with
  | bad q => exact ⟨zNv, zeroT, q, 10, h.1, zIn _, h.2, rfl, rfl, rfl⟩
  | ok y r =>
    obtain ⟨⟨v, he, hv⟩, hb⟩ := h
    exact ⟨v, y, 0, 0, he, hv.toIn, hb, rfl, rfl, rfl⟩
/-- The node, place and error, read off what Parse answers. -/
def prT : Rs Nd → Nd
  | .bad _ => zeroT
  | .ok y _ => y
def prP : Rs Nd → Int
  | .bad q => q
  | .ok _ _ => 0
def prC : Rs Nd → Int
  | .bad _ => 10
  | .ok _ _ => 0
theorem PrR.said {w w' : World} {x : Rs Nd} {e : Ending} (h : PrR w x e w') : ∃ v, e = .returned (.tuple #[v.val, .int .i64 (prP x), .int .i64 (prC x)]) ∧ NdIn w' v (prT x) ∧ RowKit.Below w.heap.size w w' := by
  cases x with
  | bad q => exact ⟨zNv, h.1, zIn _, h.2⟩
  | ok y r =>
    obtain ⟨⟨v, he, hv⟩, hb⟩ := h
    exact ⟨v, he, hv.toIn, hb⟩
theorem prT_ok (s : ByteArray) : OkN (prT (parL s)) := by
  cases h : parL s with
  | bad q => exact zOk
  | ok y r => exact OkN.of_wt _ (parL_wt h)
theorem al_bel (w : World) (o : Obj) : RowKit.Below w.heap.size w (w.alloc o) := (RowKit.Below.refl _ _).alloc (Nat.le_refl _) o
set_option maxHeartbeats 4000000 in
theorem parsePlays_any (s : ByteArray) (w : World) (hG : Lx.G w) :
    Calls Tryz.prog 3 #[.string s] w fun e w' => e = .returned (.bool true) ∧ RowKit.Below w.heap.size w w' := by
  have hfx := fixed_any5 w hG
  have HG := hide hG
  obtain ⟨x, hx⟩ : ∃ x, parL s = x := ⟨_, rfl⟩
  have HOK := hide (show OkN (prT x) by rw [← hx]; exact prT_ok s)
  have HX := hide hx
  obtain ⟨p, hp⟩ : ∃ p, prP x = p := ⟨_, rfl⟩
  obtain ⟨c, hc⟩ : ∃ c, prC x = c := ⟨_, rfl⟩
  have HP := hide hp
  have HC := hide hc
  clear hG hx hp hc
  go_enter Tryz.func3, Tryz.ntmps3
  go_wp2_with first
    | (go_at_call 9; refine hfx.mono ?_; rintro e w1 ⟨rfl, hb⟩; have B1 := hide hb; clear hb)
    | (go_at_call 10; refine (parse_any s _ (G_on (unhide HG) (unhide B1))).mono ?_; intro e w2 h; rw [unhide HX] at h; obtain ⟨v, rfl, hv, hb⟩ := h.said; rw [unhide HP, unhide HC]; have B2 := hide (below_sub (below_sub (unhide B1) hb) (al_bel w2 (.cells #[.int .i64 v.kind, .string v.attr, .slice v.qi v.ni v.ci, .slice v.qw v.nw v.cw, .int .i64 v.lo, .int .i64 v.hi, .int .i64 v.op, .slice v.qk v.nk v.ck] 29))); have V2 := hide (hv.keep (al_bel w2 (.cells #[.int .i64 v.kind, .string v.attr, .slice v.qi v.ni v.ci, .slice v.qw v.nw v.cw, .int .i64 v.lo, .int .i64 v.hi, .int .i64 v.op, .slice v.qk v.nk v.ck] 29))); have X2 := hide (box_nw w2 (.cells #[.int .i64 v.kind, .string v.attr, .slice v.qi v.ni v.ci, .slice v.qw v.nw v.cw, .int .i64 v.lo, .int .i64 v.hi, .int .i64 v.op, .slice v.qk v.nk v.ck] 29)); clear h hv hb; unfold Nv.val)
    | (go_at_call 11; refine (refParse_any s _).mono ?_; intro e w3 h; rw [unhide HX] at h; obtain ⟨u, rfl, hu, hb⟩ := h.said; rw [unhide HP, unhide HC]; have hb4 := below_sub hb (al_bel w3 (.cells #[.int .i64 u.kind, .string u.attr, .slice u.qi u.ni u.ci, .slice u.qw u.nw u.cw, .int .i64 u.lo, .int .i64 u.hi, .int .i64 u.op, .slice u.qk u.nk u.ck] 29)); have V4 := hide ((unhide V2).keep hb4); have U4 := hide (hu.keep (al_bel w3 (.cells #[.int .i64 u.kind, .string u.attr, .slice u.qi u.ni u.ci, .slice u.qw u.nw u.cw, .int .i64 u.lo, .int .i64 u.hi, .int .i64 u.op, .slice u.qk u.nk u.ck] 29))); have B4 := hide (below_sub (unhide B2) hb4); obtain ⟨k0, k1, k2, k3, k4, k5, k6, k7⟩ := of8' (bl_on (unhide X2) hb4); obtain ⟨m0, m1, m2, m3, m4, m5, m6, m7⟩ := of8' (box_nw w3 (.cells #[.int .i64 u.kind, .string u.attr, .slice u.qi u.ni u.ci, .slice u.qw u.nw u.cw, .int .i64 u.lo, .int .i64 u.hi, .int .i64 u.op, .slice u.qk u.nk u.ck] 29)); clear h hu hb hb4; unfold Nv.val)
    | (go_at_call 12; have hsm := sameM_all _ _ v u _ (unhide V4) (unhide U4) (unhide HOK); rw [sameT_yes rfl] at hsm; unfold Nv.val at hsm; refine hsm.mono ?_; rintro e w5 ⟨rfl, hb⟩; have B5 := hide (below_sub (unhide B4) hb); clear hb hsm)
  go_ret
  exact ⟨rfl, unhide B5⟩
end Go.Proofs.YtencibjmiphinaaGreatDoor
namespace Go.Proofs.YtencibjmiphinaaGreatDoor
open Go.RowKit

abbrev Sk := Int × Int × ByteArray
def sgT (c : UInt8) : Sk := (4, 0, ⟨#[c]⟩)
def nmT (a : ByteArray) : Sk := (1, 0, a)
def itT (n : Int) : Sk := (2, n, ⟨#[]⟩)
def wdT (w : ByteArray) : Sk := (3, 0, w)
/-- The bytes b are the tokens s, whatever stands behind them (where c: what goes on with no letter or digit). -/
def LexP (c : Prop) (b : List UInt8) (s : List Sk) : Prop := ∀ (r : List UInt8) (i : Nat), (c → Lx.Fr r) → ∃ L : List Tk, L.map stp = s ∧ Lx.toksL (b ++ r) i = (L ++ (Lx.toksL r (i + b.length)).1, (Lx.toksL r (i + b.length)).2)
def LexF (b : List UInt8) (s : List Sk) : Prop := LexP False b s
def LexN (b : List UInt8) (s : List Sk) : Prop := LexP True b s
theorem LexF.nil : LexF [] [] := fun r i _ => ⟨[], rfl, by simp⟩
theorem LexP.app {c : Prop} {b b' : List UInt8} {s s' : List Sk} (h : LexP c b s) (h' : LexF b' s') (hc : c → ∀ r, Lx.Fr (b' ++ r)) : LexF (b ++ b') (s ++ s') := fun r i _ => by
  obtain ⟨L, h1, h2⟩ := h (b' ++ r) i fun k => hc k r
  obtain ⟨L', h3, h4⟩ := h' r (i + b.length) (fun h => h.elim)
  refine ⟨L ++ L', by rw [List.map_append, h1, h3], ?_⟩
  have e : i + b.length + b'.length = i + (b ++ b').length := by simp; omega
  rw [List.append_assoc, h2, h4, e]
  simp
theorem LexF.app {b b' : List UInt8} {s s' : List Sk} (h : LexF b s) (h' : LexF b' s') : LexF (b ++ b') (s ++ s') := LexP.app h h' fun k => k.elim
theorem LexN.app {b b' : List UInt8} {s s' : List Sk} (h : LexN b s) (h' : LexF b' s') (hc : ∀ r, Lx.Fr (b' ++ r)) : LexF (b ++ b') (s ++ s') := LexP.app h h' fun _ => hc
theorem toksL_sp {c : UInt8} (l : List UInt8) (i : Nat) (h : Lx.isBlank (c.toNat : Int) = true) : Lx.toksL (c :: l) i = Lx.toksL l (i + 1) := by
  rw [Lx.toksL_skip (c :: l) i, Lx.toksL_skip l (i + 1), Lx.rl_yes h, List.drop_succ_cons]
  congr 1; omega
theorem LexF.blank {c : UInt8} (h : Lx.isBlank (c.toNat : Int) = true) : LexF [c] [] := fun r i _ => ⟨[], rfl, by rw [List.cons_append, List.nil_append, toksL_sp _ _ h]; rfl⟩
/-- A token that stands alone. -/
theorem LexP.tok {c : Prop} {b : List UInt8} {k v : Int} {t : ByteArray} (h : Lx.tokL b = some (k, b.length, v, t)) (h2 : ∀ r, (c → Lx.Fr r) → Lx.tokL (b ++ r) = some (k, b.length, v, t)) : LexP c b [(k, v, t)] := fun r i hr => by
  have hw : Lx.Wr (k, 0, 0, v, t) b := h
  have hd := Lx.wr_head hw r
  have hne : ¬ (b ++ r).length ≤ Lx.rl Lx.isBlank (b ++ r) := by rw [hd.1, List.length_append]; have := hd.2; omega
  have ht : Lx.tokL ((b ++ r).drop (Lx.rl Lx.isBlank (b ++ r))) = some (k, b.length, v, t) := by rw [hd.1]; exact h2 r hr
  have := Lx.toksL_step (i := i) hne ht
  rw [hd.1] at this
  simp only [List.drop_zero, Nat.add_zero] at this
  rw [Lx.drop_len rfl] at this
  exact ⟨[_], rfl, by rw [this]; rfl⟩
theorem LexF.sign {c : UInt8} (h : Lx.isLet (c.toNat : Int) = false) (h2 : (c == 45 || Lx.isDig (c.toNat : Int)) = false) (h3 : (c == 34) = false) (h4 : Lx.isSign c = true) : LexF [c] [sgT c] :=
  LexP.tok (Lx.tokL_sign h h2 h3 h4) fun _ _ => Lx.tokL_sign h h2 h3 h4
theorem itI_itoa {n : Int} (h : numOk n = true) : itI n = Lib.itoa n ∧ -2147483648 ≤ n ∧ n ≤ 2147483647 := by
  have hc : chkV 1 n ⟨#[]⟩ = 0 := by rw [chk_num, if_pos h]
  unfold numOk at h
  simp only [Bool.and_eq_true, decide_eq_true_eq] at h
  refine ⟨?_, h⟩
  unfold itI textB; rw [if_pos hc, if_neg (by decide)]; rfl
theorem itW_quote {w : ByteArray} (h : wordOk w = true) : itW w = Lx.quoteL w.data.toList ∧ w.size ≤ 64 := by
  have hc : chkV 2 0 w = 0 := by rw [chk_word, if_pos h]
  unfold wordOk at h
  simp only [decide_eq_true_eq] at h
  refine ⟨?_, h⟩
  unfold itW textB; rw [if_pos hc, if_pos rfl]; rfl
theorem rl_all {p : Int → Bool} {l : List UInt8} (h : ∀ c ∈ l, p (c.toNat : Int) = true) : Lx.rl p l = l.length := by
  have := Lx.rl_app (p := p) l [] h
  simpa [Lx.rl] using this
theorem dig_all (u : Nat) : Lx.rl Lx.isDig (Lib.decDigits u) = (Lib.decDigits u).length := rl_all fun c hc => by
  have := Lx.dec_digit u c hc
  unfold Lx.isDig; simp; omega
theorem LexN.num {n : Int} (h : numOk n = true) : LexN (itI n) [itT n] := by
  obtain ⟨e, h1, h2⟩ := itI_itoa h
  rw [e]
  have hv := Lx.isVal_num h1 h2
  have key : ∀ (c : UInt8) (l : List UInt8), Lib.itoa n = c :: l → Lx.isLet (c.toNat : Int) = false → (c == 45 || Lx.isDig (c.toNat : Int)) = true → Lx.rl Lx.isDig l = l.length → LexN (Lib.itoa n) [itT n] := fun c l hl a1 a2 a3 => by
    rw [hl] at hv ⊢
    have ht : Lx.tokL (c :: l) = some (2, (c :: l).length, n, ⟨#[]⟩) := by
      have := Lx.tokL_num (q := (1, n, ⟨#[]⟩)) a1 a2 (by rw [a3]; show Lx.pv ((c :: l).take (c :: l).length) = _; rw [List.take_length]; exact Lx.pv_some hv)
      rw [this, a3]; rfl
    exact LexP.tok ht fun r hr => Lx.tokL_app ht rfl r (hr trivial)
  by_cases hneg : n < 0
  · have e2 : Lib.itoa n = 45 :: Lib.decDigits n.natAbs := by unfold Lib.itoa; rw [if_pos hneg]
    exact key 45 _ e2 (by decide) (by decide) (dig_all _)
  · have e2 : Lib.itoa n = Lib.decDigits n.toNat := by unfold Lib.itoa; rw [if_neg hneg]
    cases hd : Lib.decDigits n.toNat with
    | nil => exact absurd hd (Lx.dec_ne _)
    | cons c l =>
      have hc := Lx.dec_digit n.toNat
      rw [hd] at hc
      have h0 := hc c (by simp)
      refine key c l (e2.trans hd) (by unfold Lx.isLet; simp; omega) (by unfold Lx.isDig; simp; omega) (rl_all fun x hx => ?_)
      have := hc x (by simp [hx])
      unfold Lx.isDig; simp; omega
theorem LexN.name {a : ByteArray} (h : nameOk a = true) : LexN a.data.toList [nmT a] := by
  obtain ⟨c, l, e, hc⟩ := name_head h
  have hb : ∀ x ∈ a.data.toList, Lx.okB (x.toNat : Int) = true := fun x hx => by
    unfold nameOk at h
    simp only [Bool.and_eq_true, decide_eq_true_eq, List.all_eq_true, List.mem_range] at h
    obtain ⟨j, hj, rfl⟩ := List.getElem_of_mem hx
    have hj2 : j < a.size := by simpa using hj
    have := h.2 j hj2
    rw [byteI_lt hj2] at this
    exact this
  have hL : Lx.isLet (c.toNat : Int) = true := by
    unfold nameOk at h
    simp only [Bool.and_eq_true, decide_eq_true_eq] at h
    have h1 := h.1.2
    have h0 : 0 < a.size := by omega
    rw [byteI_lt h0] at h1
    have : a[0] = c := by
      have h9 : a.data.toList[0]? = some c := by rw [e]; rfl
      have h8 : a.data.toList[0]? = some a[0] := by
        rw [Array.getElem?_toList]; exact Array.getElem?_eq_getElem (xs := a.data) (i := 0) h0
      rw [h8] at h9; cases h9; rfl
    rw [this] at h1; exact h1
  have hr := rl_all hb
  rw [e] at hr
  have hm : (⟨((c :: l).take (c :: l).length).toArray⟩ : ByteArray) = a := by
    rw [List.take_length, ← e]
  have hn : Lx.nameOk a = true := h
  have ht : Lx.tokL (c :: l) = some (1, (c :: l).length, 0, a) := by
    have := Lx.tokL_name (c := c) (r := l) hL (by rw [hr, hm]; exact hn)
    rw [this, hr, hm]
  rw [e]
  exact LexP.tok ht fun r hr => Lx.tokL_app ht rfl r (hr trivial)
theorem LexF.word {w : ByteArray} (h : wordOk w = true) : LexF (itW w) [wdT w] := by
  obtain ⟨e, h1⟩ := itW_quote h
  rw [e]
  obtain ⟨q, hq, hw⟩ := Lx.wl_quote w.data.toList
  have hv := Lx.isVal_word h1
  rw [hq] at hv ⊢
  have ht : ∀ r, Lx.tokL (34 :: (q ++ r)) = some (3, (34 :: q).length, 0, w) := fun r => by
    have := Lx.tokL_word (q := (2, 0, w)) (c := 34) (r := q ++ r) (n := q.length) (by decide) (by decide) (by decide) (Lx.wl_app _ _ _ _ hw) (by
      have e2 : (34 :: (q ++ r)).take (q.length + 1) = 34 :: q := by simp
      rw [e2]; exact Lx.pv_some hv)
    rw [this]; rfl
  exact LexP.tok (by have := ht []; rwa [List.append_nil] at this) fun r _ => ht r
theorem fr_cons {c : UInt8} (h : Lx.okB (c.toNat : Int) = false) (h2 : Lx.isDig (c.toNat : Int) = false) (r : List UInt8) : Lx.Fr (c :: r) := ⟨Lx.rl_no h, Lx.rl_no h2⟩
/-- Members with a comma between, and a sign behind. -/
def jnM (c : UInt8) : List Sk → List Sk
  | [] => [sgT c]
  | x :: xs => sgT 44 :: x :: jnM c xs
theorem jt_nums {c : UInt8} (hs : LexF [c] [sgT c]) (hc : ∀ r, Lx.Fr (c :: r)) : ∀ (l : List Int), (∀ x ∈ l, numOk x = true) → LexF (jt [44, 32] (l.map itI) ++ [c]) (jnM c (l.map itT)) ∧ ∀ r, Lx.Fr (jt [44, 32] (l.map itI) ++ [c] ++ r)
  | [], _ => ⟨by simpa [jt, jnM] using hs, fun r => by simpa [jt] using hc r⟩
  | x :: l, h => by
    have ih := jt_nums hs hc l fun y hy => h y (List.mem_cons_of_mem _ hy)
    have h0 : LexF ([44] ++ [32]) ([sgT 44] ++ []) := (LexF.sign (c := 44) (by decide) (by decide) (by decide) (by decide)).app (LexF.blank (c := 32) (by decide))
    have h1 := (LexN.num (h x (by simp))).app ih.1 ih.2
    refine ⟨?_, fun r => fr_cons (c := 44) (by decide) (by decide) _⟩
    have := h0.app h1
    simpa [jt, jnM] using this
theorem jt_words {c : UInt8} (hs : LexF [c] [sgT c]) : ∀ (l : List ByteArray), (∀ x ∈ l, wordOk x = true) → LexF (jt [44, 32] (l.map itW) ++ [c]) (jnM c (l.map wdT))
  | [], _ => by simpa [jt, jnM] using hs
  | x :: l, h => by
    have ih := jt_words hs l fun y hy => h y (List.mem_cons_of_mem _ hy)
    have h0 : LexF ([44] ++ [32]) ([sgT 44] ++ []) := (LexF.sign (c := 44) (by decide) (by decide) (by decide) (by decide)).app (LexF.blank (c := 32) (by decide))
    have := h0.app ((LexF.word (h x (by simp))).app ih)
    simpa [jt, jnM] using this
/-- The tokens of a predicate. -/
def bodyT (k : Int) (i : List Int) (w : List ByteArray) (l h : Int) : List Sk :=
  if k = 1 then sgT 123 :: (match i with | [] => [] | x :: xs => itT x :: jnM 125 (xs.map itT))
  else if k = 2 then sgT 123 :: (match w with | [] => [] | x :: xs => wdT x :: jnM 125 (xs.map wdT))
  else if k = 3 then [sgT 91, itT l, sgT 44, itT h, sgT 93]
  else (match w with | [] => [] | x :: _ => [wdT x, sgT 42])
theorem lex_pred {k : Int} {a : ByteArray} {i : List Int} {w : List ByteArray} {l h : Int} (H : predB k a i w l h = true) : LexF (predL k a i w l h) (nmT a :: bodyT k i w l h) := by
  rw [predL_eq]
  have hsp := LexF.blank (c := 32) (by decide)
  have close : ∀ b s, LexF b s → LexF (a.data.toList ++ 32 :: b) (nmT a :: s) := fun b s hb => by
    have := (LexN.name (predB_is H).1).app (hsp.app hb) (fun r => fr_cons (c := 32) (by decide) (by decide) _)
    simpa using this
  refine close _ _ ?_
  rcases (predB_is H).2 with ⟨rfl, h1, h2, _⟩ | ⟨rfl, h1, h2, _⟩ | ⟨rfl, h1, h2, _⟩ | ⟨rfl, ⟨x, rfl, hx⟩, _⟩
  · cases i with
    | nil => exact absurd rfl h2
    | cons x xs =>
      have hj := jt_nums (c := 125) (LexF.sign (by decide) (by decide) (by decide) (by decide)) (fun r => fr_cons (by decide) (by decide) r) xs fun y hy => h1 y (List.mem_cons_of_mem _ hy)
      have := (LexF.sign (c := 123) (by decide) (by decide) (by decide) (by decide)).app ((LexN.num (h1 x (by simp))).app hj.1 hj.2)
      rw [body1, List.map_cons, jl_zero]
      simpa [bodyT] using this
  · cases w with
    | nil => exact absurd rfl h2
    | cons x xs =>
      have hj := jt_words (c := 125) (LexF.sign (by decide) (by decide) (by decide) (by decide)) xs fun y hy => h1 y (List.mem_cons_of_mem _ hy)
      have := (LexF.sign (c := 123) (by decide) (by decide) (by decide) (by decide)).app ((LexF.word (h1 x (by simp))).app hj)
      rw [body2, List.map_cons, jl_zero]
      simpa [bodyT] using this
  · have hj := jt_nums (c := 93) (LexF.sign (by decide) (by decide) (by decide) (by decide)) (fun r => fr_cons (by decide) (by decide) r) [h] (by simpa using h2)
    have := (LexF.sign (c := 91) (by decide) (by decide) (by decide) (by decide)).app ((LexN.num h1).app hj.1 hj.2)
    rw [body3, List.map_cons, jl_zero]
    simpa [bodyT, jnM] using this
  · have := (LexF.word hx).app (LexF.sign (c := 42) (by decide) (by decide) (by decide) (by decide))
    rw [body4]
    simpa [bodyT] using this
end Go.Proofs.YtencibjmiphinaaGreatDoor
namespace Go.Proofs.YtencibjmiphinaaGreatDoor
open Go.RowKit

theorem stp_sg {t : Tk} {c : UInt8} (h : stp t = sgT c) : t.1 = 4 ∧ t.2.2.2.2 = ⟨#[c]⟩ := by
  simp only [stp, sgT, Prod.mk.injEq] at h; exact ⟨h.1, h.2.2⟩
theorem sk_yes {t : Tk} {c : UInt8} {l : List Tk} (h : stp t = sgT c) : skL ⟨#[c]⟩ (t :: l) = some l := by
  rw [skL_cons, if_pos (stp_sg h)]
theorem sk_kind {t : Tk} {s : ByteArray} {l : List Tk} (h : t.1 ≠ 4) : skL s (t :: l) = none := by
  rw [skL_cons, if_neg (fun k => h k.1)]
theorem sk_else {t : Tk} {c : UInt8} {s : ByteArray} {l : List Tk} (h : stp t = sgT c) (hs : s ≠ ⟨#[c]⟩) : skL s (t :: l) = none := by
  rw [skL_cons, if_neg (fun k => hs (k.2.symm.trans (stp_sg h).2))]
theorem sg_yes {en : Int} {t : Tk} {c : UInt8} {l : List Tk} (h : stp t = sgT c) : sgL en ⟨#[c]⟩ (t :: l) = .ok () l := by
  unfold sgL; rw [sk_yes h]
theorem nd_yes {en k : Int} {t : Tk} {l : List Tk} (h : t.1 = k) : ndL en k (t :: l) = .ok t l := by
  simp only [ndL, if_pos h]
theorem map_cons {l : List Tk} {x : Sk} {s : List Sk} (h : l.map stp = x :: s) : ∃ t q, l = t :: q ∧ stp t = x ∧ q.map stp = s := by
  cases l with
  | nil => simp at h
  | cons t q => simp only [List.map_cons, List.cons.injEq] at h; exact ⟨t, q, rfl, h⟩
theorem map_app {l : List Tk} {s s' : List Sk} (h : l.map stp = s ++ s') : ∃ a b, l = a ++ b ∧ a.map stp = s ∧ b.map stp = s' := by
  obtain ⟨a, b, h1, h2, h3⟩ := List.map_eq_append_iff.1 h
  exact ⟨a, b, h1, h2, h3⟩
/-- The members of a set are read. -/
theorem mb_read {en k : Int} : ∀ (xs : List Sk) (acc l r : List Tk), (∀ x ∈ xs, x.1 = k) → l.map stp = jnM 125 xs → acc.length + xs.length ≤ 64 → ∃ ts, ts.map stp = xs ∧ mbP en k acc (l ++ r) = .ok (acc ++ ts) r
  | [], acc, l, r, _, hl, _ => by
    obtain ⟨t, q, rfl, ht, hq⟩ := map_cons hl
    have hq : q = [] := by simpa using hq
    subst hq
    refine ⟨[], rfl, ?_⟩
    rw [mbP_eq]
    show brn _ _ _ (t :: r) = _
    simp only [brn, sk_else (l := r) ht (s := ⟨#[44]⟩) (by decide), sg_yes (en := en) (l := r) ht, Rs.bnd, List.append_nil]
  | x :: xs, acc, l, r, hk, hl, hn => by
    obtain ⟨t, q, rfl, ht, hq⟩ := map_cons hl
    obtain ⟨u, q2, rfl, hu, hq2⟩ := map_cons hq
    simp only [List.length_cons] at hn
    have hk0 : u.1 = k := by
      have : (stp u).1 = k := by rw [hu]; exact hk x (by simp)
      exact this
    obtain ⟨ts, h1, h2⟩ := mb_read (en := en) (k := k) xs (acc ++ [u]) q2 r (fun y hy => hk y (List.mem_cons_of_mem _ hy)) hq2 (by simp; omega)
    refine ⟨u :: ts, by simp [hu, h1], ?_⟩
    rw [mbP_eq]
    show brn _ _ _ (t :: (u :: (q2 ++ r))) = _
    simp only [brn, sk_yes (l := u :: (q2 ++ r)) ht]
    rw [if_neg (by omega)]
    simp only [nd_yes (en := en) (l := q2 ++ r) hk0, Rs.bnd]
    rw [h2]; simp
theorem pb_len {k : Int} {a : ByteArray} {i : List Int} {w : List ByteArray} {l h : Int} (H : predB k a i w l h = true) : i.length ≤ 64 ∧ w.length ≤ 64 := by
  unfold predB at H
  rw [Bool.and_eq_true] at H
  have H2 := H.2
  by_cases k1 : k = 1
  · rw [if_pos k1] at H2
    simp only [memB, emptyB, Bool.and_eq_true, decide_eq_true_eq] at H2
    omega
  rw [if_neg k1] at H2
  by_cases k2 : k = 2
  · rw [if_pos k2] at H2
    simp only [memB, emptyB, Bool.and_eq_true, decide_eq_true_eq] at H2
    omega
  rw [if_neg k2] at H2
  by_cases k3 : k = 3
  · rw [if_pos k3] at H2
    simp only [emptyB, Bool.and_eq_true, decide_eq_true_eq] at H2
    omega
  rw [if_neg k3] at H2
  by_cases k4 : k = 4
  · rw [if_pos k4] at H2
    simp only [memB, emptyB, Bool.and_eq_true, decide_eq_true_eq] at H2
    omega
  · rw [if_neg k4] at H2; cases H2
theorem set_read {en k : Int} {x : Sk} {xs : List Sk} {l r : List Tk} (hk : ∀ y ∈ x :: xs, y.1 = k) (hl : l.map stp = x :: jnM 125 xs) (hn : xs.length + 1 ≤ 64) : ∃ ts, ts.map stp = x :: xs ∧ msL en k (l ++ r) = .ok ts r ∧ isK k (l ++ r) = true ∧ ∀ k', k' ≠ k → isK k' (l ++ r) = false := by
  obtain ⟨t, q, rfl, ht, hq⟩ := map_cons hl
  have h0 : t.1 = k := by
    have : (stp t).1 = k := by rw [ht]; exact hk x (by simp)
    exact this
  obtain ⟨ts, h1, h2⟩ := mb_read (en := en) (k := k) xs [t] q r (fun y hy => hk y (List.mem_cons_of_mem _ hy)) hq (by simp; omega)
  refine ⟨t :: ts, by simp [ht, h1], ?_, by simp [isK, h0], fun k' h => by simp [isK, h0, Ne.symm h]⟩
  rw [msL_eq]
  show (ndL en k (t :: (q ++ r))).bnd _ = _
  rw [nd_yes h0]
  simp only [Rs.bnd, h2]; rfl
theorem ts_ints {ts : List Tk} {l : List Int} (h : ts.map stp = l.map itT) : ts.map (·.2.2.2.1) = l := by
  have e : ts.map (·.2.2.2.1) = (ts.map stp).map (·.2.1) := by rw [List.map_map]; rfl
  rw [e, h, List.map_map]
  exact List.map_id'' (fun _ => rfl) l
theorem ts_words {ts : List Tk} {l : List ByteArray} (h : ts.map stp = l.map wdT) : ts.map (·.2.2.2.2) = l := by
  have e : ts.map (·.2.2.2.2) = (ts.map stp).map (·.2.2) := by rw [List.map_map]; rfl
  rw [e, h, List.map_map]
  exact List.map_id'' (fun _ => rfl) l
theorem stp_parts {t : Tk} {x : Sk} (h : stp t = x) : t.1 = x.1 ∧ t.2.2.2.1 = x.2.1 ∧ t.2.2.2.2 = x.2.2 := by subst h; exact ⟨rfl, rfl, rfl⟩
/-- A predicate is read. -/
theorem pred_read {k : Int} {a : ByteArray} {i : List Int} {w : List ByteArray} {lo hi : Int} (H : predB k a i w lo hi = true) (en : Int) (l r : List Tk) (hl : l.map stp = nmT a :: bodyT k i w lo hi) : prL en (l ++ r) = .ok (.mk k a i w lo hi 1 []) r := by
  obtain ⟨t, q, rfl, ht, hq⟩ := map_cons hl
  have h0 := stp_parts ht
  rw [prL_eq]
  show (ndL en 1 (t :: (q ++ r))).bnd _ = _
  rw [nd_yes (show t.1 = 1 from h0.1)]
  simp only [Rs.bnd]
  rw [show t.2.2.2.2 = a from h0.2.2]
  have hlen := pb_len H
  rcases (predB_is H).2 with ⟨rfl, h1, h2, rfl, rfl, rfl⟩ | ⟨rfl, h1, h2, rfl, rfl, rfl⟩ | ⟨rfl, h1, h2, rfl, rfl⟩ | ⟨rfl, ⟨x, rfl, hx⟩, rfl, rfl, rfl⟩
  · cases i with
    | nil => exact absurd rfl h2
    | cons x xs =>
      obtain ⟨u, q2, rfl, hu, hq2⟩ := map_cons (show q.map stp = sgT 123 :: (itT x :: jnM 125 (xs.map itT)) from hq)
      obtain ⟨ts, k1, k2, _, k4⟩ := set_read (en := en) (k := 2) (x := itT x) (xs := xs.map itT) (l := q2) (r := r) (fun y hy => by
        rcases List.mem_cons.1 hy with rfl | hy
        · rfl
        · obtain ⟨z, _, rfl⟩ := List.mem_map.1 hy; rfl) hq2 (by simpa using hlen.1)
      simp only [List.cons_append, brn, sk_yes (l := q2 ++ r) hu]
      rw [setL_eq]
      simp only [k4 3 (by decide), Bool.false_eq_true, if_false, k2, Rs.bnd]
      rw [ts_ints (l := x :: xs) (by simpa using k1)]
  · cases w with
    | nil => exact absurd rfl h2
    | cons x xs =>
      obtain ⟨u, q2, rfl, hu, hq2⟩ := map_cons (show q.map stp = sgT 123 :: (wdT x :: jnM 125 (xs.map wdT)) from hq)
      obtain ⟨ts, k1, k2, k3, _⟩ := set_read (en := en) (k := 3) (x := wdT x) (xs := xs.map wdT) (l := q2) (r := r) (fun y hy => by
        rcases List.mem_cons.1 hy with rfl | hy
        · rfl
        · obtain ⟨z, _, rfl⟩ := List.mem_map.1 hy; rfl) hq2 (by simpa using hlen.2)
      simp only [List.cons_append, brn, sk_yes (l := q2 ++ r) hu]
      rw [setL_eq]
      simp only [k3, if_true, k2, Rs.bnd]
      rw [ts_words (l := x :: xs) (by simpa using k1)]
  · obtain ⟨t1, q1, rfl, e1, f1⟩ := map_cons (show q.map stp = [sgT 91, itT lo, sgT 44, itT hi, sgT 93] from hq)
    obtain ⟨t2, q2, rfl, e2, f2⟩ := map_cons f1
    obtain ⟨t3, q3, rfl, e3, f3⟩ := map_cons f2
    obtain ⟨t4, q4, rfl, e4, f4⟩ := map_cons f3
    obtain ⟨t5, q5, rfl, e5, f5⟩ := map_cons f4
    have f5 : q5 = [] := by simpa using f5
    subst f5
    have g2 := stp_parts e2
    have g4 := stp_parts e4
    simp only [List.cons_append, List.nil_append, brn, sk_else (s := ⟨#[123]⟩) e1 (by decide), sk_yes e1]
    rw [bdL_eq]
    simp only [nd_yes (en := en) (k := 2) g2.1, sg_yes (en := en) e3, nd_yes (en := en) (k := 2) g4.1, sg_yes (en := en) e5, Rs.bnd]
    rw [g2.2.1, g4.2.1]; rfl
  · obtain ⟨t1, q1, rfl, e1, f1⟩ := map_cons (show q.map stp = [wdT x, sgT 42] from hq)
    obtain ⟨t2, q2, rfl, e2, f2⟩ := map_cons f1
    have f2 : q2 = [] := by simpa using f2
    subst f2
    have g1 := stp_parts e1
    have gk : t1.1 ≠ 4 := by rw [g1.1]; exact (by decide : (3 : Int) ≠ 4)
    simp only [List.cons_append, List.nil_append, brn, sk_kind gk]
    rw [pxL_eq]
    simp only [nd_yes (en := en) (k := 3) g1.1, sg_yes (en := en) e2, Rs.bnd]
    rw [g1.2.2]; rfl
/-- Operands with a sign between. -/
theorem ch_read {c : UInt8} {f : Pz Nd} (hd : Dec f) (C : List Tk → Prop) (hC : ∀ t q, stp t = sgT c → C (t :: q)) : ∀ (zs : List (Nd × List Sk)) (acc : List Nd) (l r : List Tk), (∀ z ∈ zs, ∀ a q, a.map stp = z.2 → C q → f (a ++ q) = .ok z.1 q) → l.map stp = zs.flatMap (fun z => sgT c :: z.2) → C r → skL ⟨#[c]⟩ r = none → chP ⟨#[c]⟩ f acc (l ++ r) = .ok (acc ++ zs.map (·.1)) r
  | [], acc, l, r, _, hl, _, hr => by
    have hl : l = [] := by simpa using hl
    subst hl
    rw [chP_eq hd]
    simp only [List.nil_append, brn, hr, List.map_nil, List.append_nil]
  | z :: zs, acc, l, r, hz, hl, hCr, hr => by
    simp only [List.flatMap_cons, List.cons_append] at hl
    obtain ⟨t, q, rfl, ht, hq⟩ := map_cons hl
    obtain ⟨a, b, rfl, ha, hb⟩ := map_app hq
    have hCb : C (b ++ r) := by
      cases zs with
      | nil =>
        have : b = [] := by simpa using hb
        subst this; exact hCr
      | cons z2 zs =>
        simp only [List.flatMap_cons, List.cons_append] at hb
        obtain ⟨t2, q2, rfl, ht2, _⟩ := map_cons hb
        exact hC _ _ ht2
    rw [chP_eq hd]
    have e1 := hz z (by simp) a (b ++ r) ha hCb
    have ih := ch_read hd C hC zs (acc ++ [z.1]) b r (fun y hy => hz y (List.mem_cons_of_mem _ hy)) hb hCr hr
    show brn _ _ _ (t :: (a ++ b ++ r)) = _
    simp only [brn, sk_yes ht, List.append_assoc, e1, Rs.bnd, ih]
    simp
theorem chL_read {op : Int} {c : UInt8} {f : Pz Nd} (hd : Dec f) (C : List Tk → Prop) (hC : ∀ t q, stp t = sgT c → C (t :: q)) (z : Nd × List Sk) (zs : List (Nd × List Sk)) (l r : List Tk) (hz : ∀ y ∈ z :: zs, ∀ a q, a.map stp = y.2 → C q → f (a ++ q) = .ok y.1 q) (hl : l.map stp = z.2 ++ zs.flatMap (fun z => sgT c :: z.2)) (hCr : C r) (hr : skL ⟨#[c]⟩ r = none) : chL op ⟨#[c]⟩ f (l ++ r) = .ok (jnT op ((z :: zs).map (·.1))) r := by
  obtain ⟨a, b, rfl, ha, hb⟩ := map_app hl
  have hCb : C (b ++ r) := by
    cases zs with
    | nil =>
      have : b = [] := by simpa using hb
      subst this; exact hCr
    | cons z2 zs =>
      simp only [List.flatMap_cons, List.cons_append] at hb
      obtain ⟨t2, q2, rfl, ht2, _⟩ := map_cons hb
      exact hC _ _ ht2
  rw [chL_eq]
  have e1 := hz z (by simp) a (b ++ r) ha hCb
  have e2 := ch_read hd C hC zs [z.1] b r (fun y hy => hz y (List.mem_cons_of_mem _ hy)) hb hCr hr
  show (f (a ++ b ++ r)).bnd _ = _
  rw [List.append_assoc, e1]
  simp only [Rs.bnd, e2]
  rfl
/-- The text of a unit, and how it is read. -/
def Unit2 (x : Nd) (s : List Sk) : Prop := LexF (unitL x) s ∧ ∀ en l r, l.map stp = s → oneP en (l ++ r) = .ok x r
def Kid2 (x : Nd) (s : List Sk) : Prop := LexF (kidL 4 x) s ∧ ∀ en l r, l.map stp = s → skL ⟨#[38]⟩ r = none → andP en (l ++ r) = .ok x r
def Text2 (x : Nd) (s : List Sk) : Prop := LexF (textN x) s ∧ ∀ en l r, l.map stp = s → skL ⟨#[38]⟩ r = none → skL ⟨#[124]⟩ r = none → orP en (l ++ r) = .ok x r
theorem all_choice {α : Type} {P : α → List Sk → Prop} : ∀ (l : List α), (∀ x ∈ l, ∃ s, P x s) → ∃ zs : List (α × List Sk), zs.map (·.1) = l ∧ ∀ z ∈ zs, P z.1 z.2
  | [], _ => ⟨[], rfl, fun z h => by cases h⟩
  | x :: l, h => by
    obtain ⟨s, hs⟩ := h x (by simp)
    obtain ⟨zs, h1, h2⟩ := all_choice l fun y hy => h y (List.mem_cons_of_mem _ hy)
    exact ⟨(x, s) :: zs, by simp [h1], fun z hz => by
      rcases List.mem_cons.1 hz with rfl | hz
      · exact hs
      · exact h2 z hz⟩
theorem lex_jt {c : UInt8} (hc : LexF [c] [sgT c]) {g : Nd → List UInt8} : ∀ (zs : List (Nd × List Sk)), (∀ z ∈ zs, LexF (g z.1) z.2) → LexF (jt [32, c, 32] (zs.map fun z => g z.1)) (zs.flatMap fun z => sgT c :: z.2)
  | [], _ => LexF.nil
  | z :: zs, h => by
    have ih := lex_jt hc zs fun y hy => h y (List.mem_cons_of_mem _ hy)
    have hb := LexF.blank (c := 32) (by decide)
    have := ((hb.app (hc.app hb)).app (h z (by simp))).app ih
    simpa [jt] using this
theorem units_jn {x : Nd} (hx : chkN x = true) : jnT 3 (unitsN x) = x := by
  unfold unitsN
  by_cases h : x.op = 3
  · rw [if_pos h]
    obtain ⟨e, h2, _⟩ := join_is hx (Or.inl h)
    rw [h] at e
    conv => rhs; rw [e]
    unfold jnT
    split
    · rename_i y hy
      rw [hy] at h2; simp at h2
    · rfl
  · rw [if_neg h]; rfl
theorem parts_jn {x : Nd} (hx : chkN x = true) : jnT 4 (partsN x) = x := by
  unfold partsN
  by_cases h : x.op = 4
  · rw [if_pos h]
    obtain ⟨e, h2, _⟩ := join_is hx (Or.inr h)
    rw [h] at e
    conv => rhs; rw [e]
    unfold jnT
    split
    · rename_i y hy
      rw [hy] at h2; simp at h2
    · rfl
  · rw [if_neg h]; rfl
theorem kid_of {x : Nd} (hx : chkN x = true) (hu : ∀ u ∈ unitsN x, ∃ s, Unit2 u s) : ∃ s, Kid2 x s := by
  obtain ⟨zs, h1, h2⟩ := all_choice (unitsN x) hu
  have hne := (units_ok hx).1
  cases zs with
  | nil => exact absurd h1.symm hne
  | cons z zs =>
    refine ⟨z.2 ++ zs.flatMap (fun z => sgT 38 :: z.2), ?_, fun en l r hl hr => ?_⟩
    · rw [kid4_units hx, ← h1, List.map_map, List.map_cons, jl_zero]
      exact (h2 z (by simp)).1.app (lex_jt (LexF.sign (by decide) (by decide) (by decide) (by decide)) zs fun y hy => (h2 y (List.mem_cons_of_mem _ hy)).1)
    · have := chL_read (op := 3) (c := 38) (f := oneP en) (oneP_dec en) (fun _ => True) (fun _ _ _ => trivial) z zs l r (fun y hy a q ha _ => (h2 y hy).2 en a q ha) hl trivial hr
      rw [h1, units_jn hx] at this
      exact this
theorem text_of {x : Nd} (hx : chkN x = true) (hu : ∀ p ∈ partsN x, ∀ u ∈ unitsN p, ∃ s, Unit2 u s) : ∃ s, Text2 x s := by
  have hp := parts_ok hx
  obtain ⟨zs, h1, h2⟩ := all_choice (P := Kid2) (partsN x) fun p hp2 => kid_of (hp.2 p hp2) (hu p hp2)
  cases zs with
  | nil => exact absurd h1.symm hp.1
  | cons z zs =>
    refine ⟨z.2 ++ zs.flatMap (fun z => sgT 124 :: z.2), ?_, fun en l r hl hr hr2 => ?_⟩
    · rw [text_parts hx, ← h1, List.map_map, List.map_cons, jl_zero]
      exact (h2 z (by simp)).1.app (lex_jt (LexF.sign (by decide) (by decide) (by decide) (by decide)) zs fun y hy => (h2 y (List.mem_cons_of_mem _ hy)).1)
    · have := chL_read (op := 4) (c := 124) (f := andP en) (chL_dec (oneP_dec en)) (fun q => skL ⟨#[38]⟩ q = none) (fun t q ht => sk_else ht (by decide)) z zs l r (fun y hy a q ha hq => (h2 y hy).2 en a q ha hq) hl hr hr2
      rw [h1, parts_jn hx] at this
      exact this
theorem unit_of : ∀ (n : Nat) (x : Nd), sizeN x ≤ n → chkN x = true → ∃ s, Unit2 x s
  | 0, x, h, _ => absurd h (by cases x; simp only [sizeN]; omega)
  | n + 1, x, h, hx => by
    have ih := unit_of n
    cases is_of hx with
    | @pred k a i w lo hi H =>
      refine ⟨nmT a :: bodyT k i w lo hi, ?_, fun en l r hl => ?_⟩
      · rw [unit_plain (by simp [Nd.op]) (by simp [Nd.op]), textN_eq, if_pos rfl]
        exact lex_pred H
      · have hp := pred_read H en l r hl
        obtain ⟨t, q, rfl, ht, _⟩ := map_cons hl
        have gk : t.1 ≠ 4 := by rw [(stp_parts ht).1]; exact (by decide : (1 : Int) ≠ 4)
        rw [oneP_eq]
        show brn _ _ _ (t :: (q ++ r)) = _
        simp only [brn, sk_kind gk]
        exact hp
    | @no y hy =>
      have hsz : sizeN y ≤ n := by
        have := kid_size (x := .mk 0 ⟨#[]⟩ [] [] 0 0 2 [y]) (k := y) (by simp [Nd.kids])
        omega
      obtain ⟨s, h1, h2⟩ := ih y hsz hy
      refine ⟨sgT 33 :: s, ?_, fun en l r hl => ?_⟩
      · rw [unit_plain (by simp [Nd.op]) (by simp [Nd.op]), text_no]
        exact (LexF.sign (c := 33) (by decide) (by decide) (by decide) (by decide)).app h1
      · obtain ⟨t, q, rfl, ht, hq⟩ := map_cons hl
        rw [oneP_eq]
        show brn _ _ _ (t :: (q ++ r)) = _
        simp only [brn, sk_yes ht, h2 en q r hq, Rs.bnd]
    | @join op ks ho h2 hk =>
      have hsz : ∀ p ∈ partsN (.mk 0 ⟨#[]⟩ [] [] 0 0 op ks), ∀ u ∈ unitsN p, sizeN u ≤ n ∧ chkN u = true := fun p hp u hu => by
        refine ⟨?_, (units_ok ((parts_ok hx).2 p hp)).2 u hu⟩
        unfold partsN at hp
        split at hp
        · have e1 := kid_size hp
          have e2 := units_size hu
          omega
        · rename_i h4
          have hp : p = .mk 0 ⟨#[]⟩ [] [] 0 0 op ks := by simpa using hp
          subst hp
          unfold unitsN at hu
          split at hu
          · have e1 := kid_size hu
            omega
          · rename_i h3
            rcases ho with rfl | rfl
            · exact absurd rfl h3
            · exact absurd rfl h4
      obtain ⟨s, t1, t2⟩ := text_of hx fun p hp u hu => ih u (hsz p hp u hu).1 (hsz p hp u hu).2
      refine ⟨sgT 40 :: (s ++ [sgT 41]), ?_, fun en l r hl => ?_⟩
      · rw [unit_join (by simpa [Nd.op] using ho)]
        exact (LexF.sign (c := 40) (by decide) (by decide) (by decide) (by decide)).app (t1.app (LexF.sign (c := 41) (by decide) (by decide) (by decide) (by decide)))
      · obtain ⟨t, q, rfl, ht, hq⟩ := map_cons hl
        obtain ⟨a, b, rfl, ha, hb⟩ := map_app hq
        obtain ⟨u, q2, rfl, hu, hq2⟩ := map_cons hb
        have hq2 : q2 = [] := by simpa using hq2
        subst hq2
        have := t2 en a (u :: r) ha (sk_else hu (by decide)) (sk_else hu (by decide))
        have h9 := par_one (en := en) (stp_sg ht) (stp_sg hu) this
        simpa using h9
theorem text_any2 {x : Nd} (hx : chkN x = true) : ∃ s, Text2 x s :=
  text_of hx fun p hp u hu => unit_of (sizeN u) u (Nat.le_refl _) ((units_ok ((parts_ok hx).2 p hp)).2 u hu)
/-- What is printed is read back. -/
theorem back_plain {x : Nd} (hx : chkN x = true) (s : ByteArray) (hs : s.data.toList = textN x) : (Lx.toksL s.data.toList 0).2 = none ∧ ∀ en, whL en (Lx.toksL s.data.toList 0).1 = .ok x [] := by
  obtain ⟨k, h1, h2⟩ := text_any2 hx
  obtain ⟨L, h3, h4⟩ := h1 [] 0 (fun h => h.elim)
  have he : Lx.toksL ([] : List UInt8) (0 + (textN x).length) = ([], none) := Lx.toksL_end (by simp)
  rw [List.append_nil, he] at h4
  rw [hs, h4]
  refine ⟨rfl, fun en => ?_⟩
  have := h2 en L [] h3 rfl rfl
  simp only [List.append_nil] at this ⊢
  exact wh_of this
end Go.Proofs.YtencibjmiphinaaGreatDoor
namespace Go.Proofs.YtencibjmiphinaaGreatDoor
open Go.RowKit Go.Sort

theorem textB4_yes {t : Nd} (h : chkN t = true) : (textB4 t).data.toList = textN t := by unfold textB4; rw [if_pos h]
theorem back_parL {t : Nd} (h : chkN t = true) (hs : (textB4 t).size ≤ 4096) : parL (textB4 t) = .ok t [] := by
  obtain ⟨h1, h2⟩ := back_plain h (textB4 t) (textB4_yes h)
  unfold parL
  rw [if_neg (by omega), h1]
  exact h2 _
set_option maxHeartbeats 4000000 in
theorem parseBack_any (t : Nd) (v : Nv) (w : World) (hG : Lx.G w) (hin : NdIn w v t) (hwt : wtN t ≤ 100000000) :
    Calls Tryz.prog 5 #[v.val] w fun e w' => e = .returned (.bool true) ∧ RowKit.Below w.heap.size w w' := by
  have B0 := al_bel w (.cells #[.int .i64 v.kind, .string v.attr, .slice v.qi v.ni v.ci, .slice v.qw v.nw v.cw, .int .i64 v.lo, .int .i64 v.hi, .int .i64 v.op, .slice v.qk v.nk v.ck] 29)
  have hfx := fixed_any5 _ (G_on hG B0)
  have htl := text_len t
  have hok := OkN.of_wt t (by omega)
  have htx := fun W (h1 : Lx.G W) (h2 : NdIn W v t) => textT_any t v W h1.1 h2 (by omega) (by omega)
  have IN0 := hide (hin.keep B0)
  have X0 := hide (box_nw w (.cells #[.int .i64 v.kind, .string v.attr, .slice v.qi v.ni v.ci, .slice v.qw v.nw v.cw, .int .i64 v.lo, .int .i64 v.hi, .int .i64 v.op, .slice v.qk v.nk v.ck] 29))
  have HB0 := hide B0
  have HG := hide hG
  have HOK := hide hok
  obtain ⟨s, hs⟩ : ∃ s, textB4 t = s := ⟨_, rfl⟩
  rw [hs] at htx
  have HS := hide hs
  unfold Nv.val at htx ⊢
  cases hc : chkN t with
  | false =>
    rw [hc] at htx
    have HT := hide htx
    clear htx hG hin hok htl hs hc B0
    simp only [code, Bool.false_eq_true, if_false] at HT
    go_enter Tryz.func5, Tryz.ntmps5
    go_wp2_with first
      | (go_at_call 9; refine hfx.mono ?_; rintro e w1 ⟨rfl, hb⟩; have B1 := hide (below_sub (unhide HB0) hb); have I1 := hide ((unhide IN0).keep hb); obtain ⟨k0, k1, k2, k3, k4, k5, k6, k7⟩ := of8' (bl_on (unhide X0) hb); clear hb)
      | (go_at_call 21; refine (unhide HT _ (G_on (unhide HG) (unhide B1)) (unhide I1)).mono ?_; rintro e w2 ⟨rfl, hb⟩; have B2 := hide (below_sub (unhide B1) hb); clear hb)
    go_ret
    exact ⟨rfl, unhide B2⟩
  | true =>
    rw [hc] at htx
    simp only [code, if_true] at htx
    have HT := hide htx
    by_cases hl : 4096 < s.size
    · have hp : parL s = .bad 4096 := by unfold parL; rw [if_pos hl]
      have HP := hide hp
      clear htx hG hin hok htl hs hc B0 hp
      go_enter Tryz.func5, Tryz.ntmps5
      go_wp2_with first
        | (go_at_call 9; refine hfx.mono ?_; rintro e w1 ⟨rfl, hb⟩; have B1 := hide (below_sub (unhide HB0) hb); have I1 := hide ((unhide IN0).keep hb); obtain ⟨k0, k1, k2, k3, k4, k5, k6, k7⟩ := of8' (bl_on (unhide X0) hb); clear hb)
        | (go_at_call 21; refine (unhide HT _ (G_on (unhide HG) (unhide B1)) (unhide I1)).mono ?_; rintro e w2 ⟨rfl, hb⟩; have B2 := hide (below_sub (unhide B1) hb); clear hb)
        | (go_at_call 10; refine (parse_any s _ (G_on (unhide HG) (unhide B2))).mono ?_; intro e w3 h; rw [unhide HP] at h; obtain ⟨u, rfl, hu, hb⟩ := h.said; simp only [prP, prC]; have B3 := hide (below_sub (below_sub (unhide B2) hb) (al_bel w3 (.cells #[.int .i64 u.kind, .string u.attr, .slice u.qi u.ni u.ci, .slice u.qw u.nw u.cw, .int .i64 u.lo, .int .i64 u.hi, .int .i64 u.op, .slice u.qk u.nk u.ck] 29))); clear h hu hb; unfold Nv.val)
      go_ret
      exact ⟨rfl, unhide B3⟩
    · have hp : parL s = .ok t [] := by rw [← hs]; exact back_parL hc (by rw [hs]; omega)
      have HP := hide hp
      have HSAME := hide (sameT_yes (rfl : t = t))
      clear htx hG hin hok htl hs hc B0 hp
      go_enter Tryz.func5, Tryz.ntmps5
      go_wp2_with first
        | (go_at_call 9; refine hfx.mono ?_; rintro e w1 ⟨rfl, hb⟩; have B1 := hide (below_sub (unhide HB0) hb); have I1 := hide ((unhide IN0).keep hb); have X1 := hide (bl_on (unhide X0) hb); obtain ⟨k0, k1, k2, k3, k4, k5, k6, k7⟩ := of8' (unhide X1); clear hb)
        | (go_at_call 21; refine (unhide HT _ (G_on (unhide HG) (unhide B1)) (unhide I1)).mono ?_; rintro e w2 ⟨rfl, hb⟩; have B2 := hide (below_sub (unhide B1) hb); have I2 := hide ((unhide I1).keep hb); have X2 := hide (bl_on (unhide X1) hb); clear hb)
        | (go_at_call 10; refine (parse_any s _ (G_on (unhide HG) (unhide B2))).mono ?_; intro e w3 h; rw [unhide HP] at h; obtain ⟨u, rfl, hu, hb⟩ := h.said; simp only [prP, prC]; have hb4 := below_sub hb (al_bel w3 (.cells #[.int .i64 u.kind, .string u.attr, .slice u.qi u.ni u.ci, .slice u.qw u.nw u.cw, .int .i64 u.lo, .int .i64 u.hi, .int .i64 u.op, .slice u.qk u.nk u.ck] 29)); have I4 := hide ((unhide I2).keep hb4); have U4 := hide (hu.keep (al_bel w3 (.cells #[.int .i64 u.kind, .string u.attr, .slice u.qi u.ni u.ci, .slice u.qw u.nw u.cw, .int .i64 u.lo, .int .i64 u.hi, .int .i64 u.op, .slice u.qk u.nk u.ck] 29))); have B4 := hide (below_sub (unhide B2) hb4); obtain ⟨m0, m1, m2, m3, m4, m5, m6, m7⟩ := of8' (bl_on (unhide X2) hb4); obtain ⟨j0, j1, j2, j3, j4, j5, j6, j7⟩ := of8' (box_nw w3 (.cells #[.int .i64 u.kind, .string u.attr, .slice u.qi u.ni u.ci, .slice u.qw u.nw u.cw, .int .i64 u.lo, .int .i64 u.hi, .int .i64 u.op, .slice u.qk u.nk u.ck] 29)); clear h hu hb hb4; unfold Nv.val)
        | (go_at_call 12; have hsm := sameM_all t t u v _ (unhide U4) (unhide I4) (unhide HOK); rw [unhide HSAME] at hsm; unfold Nv.val at hsm; refine hsm.mono ?_; rintro e w5 ⟨rfl, hb⟩; have B5 := hide (below_sub (unhide B4) hb); clear hb hsm)
      go_ret
      exact ⟨rfl, unhide B5⟩
end Go.Proofs.YtencibjmiphinaaGreatDoor

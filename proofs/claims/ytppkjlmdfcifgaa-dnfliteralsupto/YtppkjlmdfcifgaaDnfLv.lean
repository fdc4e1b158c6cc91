/- The predicates of a tree, from left to right: the law's helper leaves (layer 8). -/
import Derived.Test.YtppkjlmdfcifgaaDnfRows
import Derived.Test.YtppkjlmdfcifgaaPushPlain
import Derived.Test.YtppkjlmdfcifgaaPushWid2
import Derived.Test.YtppkjlmdfcifgaaKept
import Derived.Test.YtppkjlmdfcifgaaDeep
namespace Go.Proofs.Ytppkjlmdfcifgaa
open Go.RowKit Go.Sort

structure Pd where
  kind : Int
  attr : ByteArray
  ints : List Int
  words : List ByteArray
  lo : Int
  hi : Int
mutual
/-- The predicates of a tree. -/
def lvN : Nd → List Pd
  | .mk kind attr ints words lo hi op ks => if op = 1 then [⟨kind, attr, ints, words, lo, hi⟩] else lvL ks
def lvL : List Nd → List Pd
  | [] => []
  | x :: xs => lvN x ++ lvL xs
end
theorem lvL_app (a b : List Nd) : lvL (a ++ b) = lvL a ++ lvL b := by
  induction a with
  | nil => simp [lvL]
  | cons x a ih => simp [lvL, ih]
theorem lvL_snoc {l : List Nd} {k : Nat} {x : Nd} (h : l[k]? = some x) : lvL (l.take (k + 1)) = lvL (l.take k) ++ lvN x := by
  rw [take_snoc_of h, lvL_app]; simp [lvL]
theorem lv_len : ∀ t, (lvN t).length ≤ wtN t := by
  intro t
  induction t using Nd.ind with
  | h kind attr ints words lo hi op kids ih =>
    have hL : (lvL kids).length ≤ wtL kids := by
      clear kind attr ints words lo hi op
      induction kids with
      | nil => simp [lvL]
      | cons x l ih2 =>
        have h1 := ih x (by simp)
        have h2 := ih2 fun y hy => ih y (by simp [hy])
        simp only [lvL, wtL, List.length_append]; omega
    simp only [lvN, wtN]
    by_cases h : op = 1
    · rw [if_pos h]; simp only [List.length_cons, List.length_nil]; omega
    · rw [if_neg h]; omega
theorem lvL_len (l : List Nd) : (lvL l).length ≤ wtL l := by
  induction l with
  | nil => simp [lvL]
  | cons x l ih => have := lv_len x; simp only [lvL, wtL, List.length_append]; omega
theorem lvL_take (l : List Nd) (k : Nat) : (lvL (l.take k)).length ≤ (lvL l).length := by
  have : lvL l = lvL (l.take k) ++ lvL (l.drop k) := by rw [← lvL_app, List.take_append_drop]
  rw [this, List.length_append]; omega
/-- The predicate of the node v lies in memory. -/
def PdIn (w : World) (u : Nv) (p : Pd) : Prop := u.kind = p.kind ∧ u.attr = p.attr ∧ u.ni = p.ints.length ∧ u.nw = p.words.length ∧ u.lo = p.lo ∧ u.hi = p.hi ∧ SlOf encI 1 w u.qi u.ci p.ints ∧ SlOf encS 1 w u.qw u.cw p.words
theorem PdIn.keep {w w' : World} {u : Nv} {p : Pd} (h : PdIn w u p) (hb : Below w.heap.size w w') : PdIn w' u p := by
  obtain ⟨h1, h2, h3, h4, h5, h6, h7, h8⟩ := h
  exact ⟨h1, h2, h3, h4, h5, h6, h7.below hb, h8.below hb⟩
def PdsIn (w : World) (us : List Nv) (ps : List Pd) : Prop := us.length = ps.length ∧ ∀ (j : Nat) (u : Nv) (p : Pd), us[j]? = some u → ps[j]? = some p → PdIn w u p
theorem PdsIn.nil (w : World) : PdsIn w [] [] := ⟨rfl, fun j u p h => by simp at h⟩
theorem PdsIn.app {w : World} {us us' : List Nv} {ps ps' : List Pd} (h : PdsIn w us ps) (h' : PdsIn w us' ps') : PdsIn w (us ++ us') (ps ++ ps') := by
  refine ⟨by rw [List.length_append, List.length_append, h.1, h'.1], fun j u p hj hp => ?_⟩
  by_cases hjl : j < us.length
  · rw [List.getElem?_append_left hjl] at hj
    rw [List.getElem?_append_left (by rw [← h.1]; exact hjl)] at hp
    exact h.2 j u p hj hp
  · rw [List.getElem?_append_right (by omega)] at hj
    rw [List.getElem?_append_right (by rw [← h.1]; omega), ← h.1] at hp
    exact h'.2 _ u p hj hp
theorem PdsIn.keep {w w' : World} {us : List Nv} {ps : List Pd} (h : PdsIn w us ps) (hb : Below w.heap.size w w') : PdsIn w' us ps := ⟨h.1, fun j u p hj hp => (h.2 j u p hj hp).keep hb⟩
def encD (v : Nv) : List Value := [.int .i64 v.kind, .string v.attr, .slice v.qi v.ni v.ci, .slice v.qw v.nw v.cw, .int .i64 v.lo, .int .i64 v.hi]
theorem info29 : (Try.prog.info? 29).map (fun i => (i.zero, i.size, i.bytes)) = some (some (.agg #[.int .i64 0, .string ⟨#[]⟩, .slice none 0 0, .slice none 0 0, .int .i64 0, .int .i64 0]), 6, 88) := by kernel_rfl
theorem rowD : RowOf encD 60 29 6 88 where
  und := Try.underlying60
  info := by
    obtain ⟨i0, hi, hz0, hz1, hz2⟩ := info_parts info29
    exact ⟨i0, _, hi, hz0, hz1, hz2, rfl⟩
  pos := by decide
  one := one_flat (fun x c hc => by
    have hm : c = 0 ∨ c = 1 ∨ c = 2 ∨ c = 3 ∨ c = 4 ∨ c = 5 := by omega
    rcases hm with e | e | e | e | e | e <;> rw [e] <;> rfl) (by decide)
theorem flatD_1 (a : Nv) : (flatK encD 6 [a].toArray).toList = encD a := by
  apply List.ext_getElem?
  intro i
  by_cases hi : i < 6
  · have h := flat_at (enc := encD) (k := 6) (l := [a]) (j := 0) (x := a) rfl i hi
    rw [Nat.zero_mul, Nat.zero_add] at h
    rw [h]
    have hm : i = 0 ∨ i = 1 ∨ i = 2 ∨ i = 3 ∨ i = 4 ∨ i = 5 := by omega
    rcases hm with e | e | e | e | e | e <;> rw [e] <;> rfl
  · rw [List.getElem?_eq_none (by simp; omega), List.getElem?_eq_none (by simp [encD]; omega)]
theorem own_one {w : World} {B : Nat} {v : Nv} (hB : B ≤ w.heap.size) : OwnK encD 29 6 B (w.alloc (.cells #[.int .i64 v.kind, .string v.attr, .slice v.qi v.ni v.ci, .slice v.qw v.nw v.cw, .int .i64 v.lo, .int .i64 v.hi] 29)) (some ⟨w.heap.size, 0, none⟩) 1 [v] := by
  unfold OwnK
  rw [flatD_1]
  exact ⟨rfl, .inr ⟨w.heap.size, 1, _, rfl, hB, box_nw _ _, Nat.le_refl _, by unfold maxLen; omega, rfl, rfl⟩⟩
theorem own_mono {w : World} {B B' c : Nat} {q : Option Addr} {l : List Nv} (h : OwnK encD 29 6 B w q c l) (hB : B' ≤ B) : OwnK encD 29 6 B' w q c l := by
  refine ⟨h.1, ?_⟩
  rcases h.2 with h0 | ⟨g, cp, cur, hv, hb, hr⟩
  · exact Or.inl h0
  · exact Or.inr ⟨g, cp, cur, hv, Nat.le_trans hB hb, hr⟩
theorem predsAt {w : World} {q : Option Addr} {c : Nat} {l : List Nv} {j : Nat} {u : Nv} (h : SlOf encD 6 w q c l) (hj : l[j]? = some u) : ∃ b off, q = some ⟨b, off, none⟩ ∧ b < w.heap.size ∧ w.cell? ⟨b, off + j * 6, none⟩ = some (.int .i64 u.kind) ∧ w.cell? ⟨b, off + j * 6 + 1, none⟩ = some (.string u.attr) ∧ w.cell? ⟨b, off + j * 6 + 2, none⟩ = some (.slice u.qi u.ni u.ci) ∧ w.cell? ⟨b, off + j * 6 + 3, none⟩ = some (.slice u.qw u.nw u.cw) ∧ w.cell? ⟨b, off + j * 6 + 4, none⟩ = some (.int .i64 u.lo) ∧ w.cell? ⟨b, off + j * 6 + 5, none⟩ = some (.int .i64 u.hi) := by
  obtain ⟨b, off, hq, hb, hc⟩ := h.2.2.2.at hj
  exact ⟨b, off, hq, hb, hc 0 (by omega), hc 1 (by omega), hc 2 (by omega), hc 3 (by omega), hc 4 (by omega), hc 5 (by omega)⟩
def LvP (x : Nd) : Prop := ∀ (v : Nv) (w0 w : World), NdIn w0 v x → Below w0.heap.size w0 w → wtN x ≤ 1000000000 → Calls Try.prog 67 #[v.val] w fun e w' => (∃ q c us, e = .returned (.slice q us.length c) ∧ OwnK encD 29 6 w.heap.size w' q c us ∧ PdsIn w0 us (lvN x)) ∧ Below w.heap.size w w'
set_option maxRecDepth 100000 in
set_option maxHeartbeats 4000000 in
theorem lv_one (kind : Int) (attr : ByteArray) (qi : Option Addr) (ci : Nat) (ints : List Int) (qw : Option Addr) (cw : Nat) (words : List ByteArray) (lo hi : Int) (qk : Option Addr) (ck : Nat) (kids : List Nd) (w0 w : World) (h1 : SlOf encI 1 w0 qi ci ints) (h2 : SlOf encS 1 w0 qw cw words) :
    Calls Try.prog 67 #[.agg #[.int .i64 kind, .string attr, .slice qi ints.length ci, .slice qw words.length cw, .int .i64 lo, .int .i64 hi, .int .i64 1, .slice qk kids.length ck]] w fun e w' => (∃ q c us, e = .returned (.slice q us.length c) ∧ OwnK encD 29 6 w.heap.size w' q c us ∧ PdsIn w0 us [⟨kind, attr, ints, words, lo, hi⟩]) ∧ Below w.heap.size w w' := by
  obtain ⟨X, HX⟩ : ∃ X, w.alloc (.cells #[.int .i64 kind, .string attr, .slice qi ints.length ci, .slice qw words.length cw, .int .i64 lo, .int .i64 hi, .int .i64 1, .slice qk kids.length ck] 31) = X := ⟨_, rfl⟩
  have hX0 : X.heap[w.heap.size]? = some (.cells #[.int .i64 kind, .string attr, .slice qi ints.length ci, .slice qw words.length cw, .int .i64 lo, .int .i64 hi, .int .i64 1, .slice qk kids.length ck] 31 (0, 0)) := by rw [← HX]; exact box_nw _ _
  have hwX : Below w.heap.size w X := by rw [← HX]; exact (Below.refl _ _).alloc (Nat.le_refl _) _
  obtain ⟨x0, x1, x2, x3, x4, x5, x6, x7⟩ := of8' hX0
  have HWX := hide hwX
  have hXs : X.heap.size = w.heap.size + 1 := by rw [← HX]; simp
  have hO := hide (own_one (B := w.heap.size) (v := ⟨kind, attr, qi, ints.length, ci, qw, words.length, cw, lo, hi, 1, none, 0, 0⟩) (w := X) hwX.size)
  have hBB := hide (hwX.alloc hwX.size (.cells #[.int .i64 kind, .string attr, .slice qi ints.length ci, .slice qw words.length cw, .int .i64 lo, .int .i64 hi] 29))
  have hP := hide (show PdsIn w0 [(⟨kind, attr, qi, ints.length, ci, qw, words.length, cw, lo, hi, 1, none, 0, 0⟩ : Nv)] [⟨kind, attr, ints, words, lo, hi⟩] from ⟨rfl, fun j u p hj hp => by
    match j, hj, hp with
    | 0, hj, hp => cases hj; cases hp; exact ⟨rfl, rfl, rfl, rfl, rfl, rfl, h1, h2⟩⟩)
  rw [hXs] at hO
  clear h1 h2 hwX hX0
  go_enter Try.func67, Try.ntmps67
  go_wp2
  go_ret
  exact ⟨⟨_, _, _, rfl, unhide hO, unhide hP⟩, unhide hBB⟩
set_option maxRecDepth 100000 in
set_option maxHeartbeats 8000000 in
theorem lv_many (kind : Int) (attr : ByteArray) (qi : Option Addr) (ci : Nat) (ints : List Int) (qw : Option Addr) (cw : Nat) (words : List ByteArray) (lo hi op : Int) (qk : Option Addr) (ck : Nat) (kids : List Nd) (w0 w : World) (hk : NdsOf w0 qk ck kids) (hb0 : Below w0.heap.size w0 w) (ih : ∀ x ∈ kids, LvP x) (l3 : wtL kids ≤ 1000000000) (no1 : ¬ op = 1) :
    Calls Try.prog 67 #[.agg #[.int .i64 kind, .string attr, .slice qi ints.length ci, .slice qw words.length cw, .int .i64 lo, .int .i64 hi, .int .i64 op, .slice qk kids.length ck]] w fun e w' => (∃ q c us, e = .returned (.slice q us.length c) ∧ OwnK encD 29 6 w.heap.size w' q c us ∧ PdsIn w0 us (lvL kids)) ∧ Below w.heap.size w w' := by
  have hlen := Nat.le_trans (Nat.le_trans (len_size kids) (sizeL_wt kids)) l3
  have a0 : (kids.length : Int) ≤ 1000000000 := by omega
  have hLL := Nat.le_trans (lvL_len kids) l3
  obtain ⟨X, HX⟩ : ∃ X, w.alloc (.cells #[.int .i64 kind, .string attr, .slice qi ints.length ci, .slice qw words.length cw, .int .i64 lo, .int .i64 hi, .int .i64 op, .slice qk kids.length ck] 31) = X := ⟨_, rfl⟩
  have hX0 : X.heap[w.heap.size]? = some (.cells #[.int .i64 kind, .string attr, .slice qi ints.length ci, .slice qw words.length cw, .int .i64 lo, .int .i64 hi, .int .i64 op, .slice qk kids.length ck] 31 (0, 0)) := by rw [← HX]; exact box_nw _ _
  have hwX : Below w.heap.size w X := by rw [← HX]; exact (Below.refl _ _).alloc (Nat.le_refl _) _
  obtain ⟨x0, x1, x2, x3, x4, x5, x6, x7⟩ := of8' hX0
  have HWX := hide hwX
  have e1 : (op == 1) = false := by simp [no1]
  have HK := hide hk
  have IH := hide ih
  have HB0 := hide (below_sub hb0 hwX)
  clear hk ih hb0 hwX hX0
  go_enter Try.func67, Try.ntmps67
  go_wp2
  go_loopw [3, 15] (fun o i wr => ∃ (k : Nat) (q : Option Addr) (c : Nat) (us : List Nv), k ≤ kids.length ∧ i = .int .i64 k ∧ o = .slice q us.length c ∧ OwnK encD 29 6 X.heap.size wr q c us ∧ PdsIn w0 us (lvL (kids.take k)) ∧ Below X.heap.size X wr) (fun _ i _ => kids.length - (intOf i).toNat)
  case atStart => exact ⟨0, none, 0, [], by omega, rfl, rfl, OwnK.nil _ _, PdsIn.nil _, Below.refl _ _⟩
  case round =>
    obtain ⟨k, q, c, us, hkk, rfl, rfl, hown, hps, hbel⟩ := hrel
    have HB := hide hbel
    have HO := hide hown
    have HP := hide hps
    by_cases hlt : k < kids.length
    · obtain ⟨x, hx, hxd⟩ := get_at hlt
      clear hxd
      obtain ⟨b, off, v, hq, hin, g0, g1, g2, g3, g4, g5, g6, g7⟩ := (unhide HK).on2 hx (below_sub (unhide HB0) hbel)
      subst hq
      have hxm : x ∈ kids := List.mem_of_getElem? hx
      have hxw := wtL_mem hxm
      have ki0 : (0 : Int) ≤ (k : Int) := by omega
      have ki1 : (k : Int) < (kids.length : Int) := by omega
      obtain ⟨Z, HZ⟩ : ∃ Z, wr.alloc (.cells #[.int .i64 v.kind, .string v.attr, .slice v.qi v.ni v.ci, .slice v.qw v.nw v.cw, .int .i64 v.lo, .int .i64 v.hi, .int .i64 v.op, .slice v.qk v.nk v.ck] 31) = Z := ⟨_, rfl⟩
      have bZ : Below wr.heap.size wr Z := by rw [← HZ]; exact (Below.refl _ _).alloc (Nat.le_refl _) _
      have zk : Z.heap[wr.heap.size]? = some (.cells #[.int .i64 v.kind, .string v.attr, .slice v.qi v.ni v.ci, .slice v.qw v.nw v.cw, .int .i64 v.lo, .int .i64 v.hi, .int .i64 v.op, .slice v.qk v.nk v.ck] 31 (0, 0)) := by rw [← HZ]; exact box_nw _ _
      obtain ⟨z0, z1, z2, z3, z4, z5, z6, z7⟩ := of8' zk
      have hW := unhide IH x hxm v w0 Z hin (below_sub (below_sub (unhide HB0) hbel) bZ) (by omega)
      simp only [Nv.val] at hW
      have HSN := hide (lvL_snoc hx)
      have hln := lvL_take kids (k + 1)
      rw [lvL_snoc hx, List.length_append] at hln
      have HL1 := hide hps.1
      have BZ := hide bZ
      have sX := hbel.size
      have sZ := bZ.size
      clear hin hx hxm hown hps hbel bZ zk
      go_wp2_with (first
        | (go_at_call 67; refine hW.mono ?_; rintro e w2 ⟨⟨q2, c2, us2, rfl, o2, p2⟩, b2⟩; have O2 := hide o2; have P2 := hide p2; have HL2 := hide p2.1; have s2 := b2.size; have B2 := hide (below_sub (unhide BZ) b2); clear o2 p2 b2)
        | (at_builtin; refine wpList_app rowD rfl _ _ rfl X.heap.size q c us q2 c2 us2 us.length us2.length (us.length + us2.length) rfl rfl rfl rfl rfl ((unhide HO).below (unhide B2)) (unhide O2).ls.src (by have h1 := unhide HL1; have h2 := unhide HL2; unfold maxLen; omega) (by have h1 := unhide HL1; have h2 := unhide HL2; omega) (by omega) ?_; intro q3 c3 w3 ho3 hb3 _ _; have HO3 := hide ho3; have HB3 := hide hb3; clear ho3 hb3))
      go_roundw
      case rel =>
        refine ⟨k + 1, q3, c3, us ++ us2, by omega, by go_num, by rw [List.length_append], unhide HO3, ?_, ((below_sub (unhide HB) (unhide B2)).trans (unhide HB3))⟩
        rw [unhide HSN]
        exact (unhide HP).app (unhide P2)
      case measure => simp [intOf]; omega
    · have hkl : k = kids.length := by omega
      subst hkl
      have ki1 : ¬ (kids.length : Int) < (kids.length : Int) := by omega
      rw [List.take_of_length_le (Nat.le_refl _)] at hps
      have HP2 := hide hps
      clear hown hps hbel
      go_wp2
      go_ret
      refine ⟨⟨q, c, us, rfl, ?_, unhide HP2⟩, below_sub (unhide HWX) (unhide HB)⟩
      exact own_mono (unhide HO) (unhide HWX).size
theorem lv_any : ∀ x, LvP x := by
  intro t
  induction t using Nd.ind with
  | h kind attr ints words lo hi op kids ih =>
    intro v w0 w hin hb hwt
    obtain ⟨qi, ci, qw, cw, qk, ck, rfl, h1, h2, hk⟩ := hin.parts
    simp only [wtN] at hwt
    by_cases n1 : op = 1
    · subst n1
      have := lv_one kind attr qi ci ints qw cw words lo hi qk ck kids w0 w h1 h2
      simpa only [lvN, if_true, Nv.val] using this
    · have := lv_many kind attr qi ci ints qw cw words lo hi op qk ck kids w0 w hk hb ih (by omega) n1
      simpa only [lvN, if_neg n1, Nv.val] using this
theorem lv_down : ∀ (t : Nd) (neg : Bool), chkN t = true → lvN (downN t neg) = lvN t := by
  intro t
  induction t using Nd.ind with
  | h kind attr ints words lo hi op kids ih =>
    intro neg hc
    rcases chk_parts hc with ⟨rfl, rfl, hp⟩ | ⟨rfl, ⟨x, rfl, hx⟩, _⟩ | ⟨ho, h2, hl, _⟩
    · cases neg <;> simp [downN, litT, notT, lvN, lvL]
    · have := ih x (by simp) (!neg) hx
      simpa [downN, downH, lvN, lvL] using this
    · rw [down_34 ho]
      have h3 := op2_34 ho neg
      generalize (if neg = true then otherI op else op) = op2 at h3
      have n1 : ¬ op2 = 1 := by omega
      have n2 : ¬ op = 1 := by omega
      simp only [lvN, if_neg n1, if_neg n2]
      have hh : ∀ x ∈ kids, lvN (downN x neg) = lvN x := fun x hx => ih x hx neg (chkL_all hl x hx)
      clear ih hl h2 hc ho h3
      induction kids with
      | nil => rfl
      | cons x l ih2 => simp only [downL, lvL]; rw [hh x (by simp), ih2 fun y hy => hh y (by simp [hy])]
theorem lv_bound : ∀ (t : Nd), ∀ p ∈ lvN t, p.ints.length ≤ wtN t ∧ p.words.length ≤ wtN t := by
  intro t
  induction t using Nd.ind with
  | h kind attr ints words lo hi op kids ih =>
    intro p hp
    simp only [lvN] at hp
    by_cases h : op = 1
    · rw [if_pos h] at hp
      obtain rfl := List.mem_singleton.1 hp
      have := words_len words
      simp only [wtN]; omega
    · rw [if_neg h] at hp
      have hL : ∀ (l : List Nd), (∀ x ∈ l, ∀ p ∈ lvN x, p.ints.length ≤ wtN x ∧ p.words.length ≤ wtN x) → ∀ p ∈ lvL l, p.ints.length ≤ wtL l ∧ p.words.length ≤ wtL l := by
        intro l hl
        induction l with
        | nil => intro p hp; simp [lvL] at hp
        | cons x l ih2 =>
          intro p hp
          simp only [lvL, List.mem_append] at hp
          simp only [wtL]
          rcases hp with hp | hp
          · have := hl x (by simp) p hp; omega
          · have := ih2 (fun y hy => hl y (by simp [hy])) p hp; omega
      have := hL kids ih p hp
      simp only [wtN]; omega
end Go.Proofs.Ytppkjlmdfcifgaa

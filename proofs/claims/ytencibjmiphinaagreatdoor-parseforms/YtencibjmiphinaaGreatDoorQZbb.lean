/- How much a parsed tree holds. -/
import Derived.Test.YtencibjmiphinaaGreatDoorQZai
import Derived.Test.YtencibjmiphinaaGreatDoorQZax
import Derived.Test.YtencibjmiphinaaGreatDoorQZba
import Derived.Test.YtencibjmiphinaaGreatDoorQCheck
import Derived.Test.YtencibjmiphinaaGreatDoorQZaf
namespace Go.Proofs.YtencibjmiphinaaGreatDoor
open Go.RowKit

def Sml (l : List Tk) : Prop := ∀ t ∈ l, t.2.2.2.2.size ≤ 4096
theorem skL_tail {s : ByteArray} {l r : List Tk} (h : skL s l = some r) : ∃ t, l = t :: r := by
  cases l with
  | nil => simp [skL] at h
  | cons t l =>
    simp only [skL] at h
    split at h
    · cases h; exact ⟨t, rfl⟩
    · cases h
theorem ndL_tail {en k : Int} {l r : List Tk} {t : Tk} (h : ndL en k l = .ok t r) : l = t :: r ∧ t.1 = k := by
  cases l with
  | nil => simp [ndL] at h
  | cons t l =>
    simp only [ndL] at h
    split at h
    · cases h; exact ⟨rfl, ‹_›⟩
    · cases h
theorem sgL_tail {en : Int} {s : ByteArray} {l r : List Tk} {u : Unit} (h : sgL en s l = .ok u r) : ∃ t, l = t :: r := by
  unfold sgL at h
  split at h
  · cases h
  · cases h; exact skL_tail ‹_›
theorem Sml.tail {l r : List Tk} {t : Tk} (h : Sml l) (e : l = t :: r) : Sml r ∧ t.2.2.2.2.size ≤ 4096 ∧ r.length + 1 = l.length := by
  subst e; exact ⟨fun x hx => h x (List.mem_cons_of_mem _ hx), h t (by simp), rfl⟩
def tw (ts : List Tk) : Nat := wordsWt (ts.map (·.2.2.2.2))
theorem tw_snoc (ts : List Tk) (t : Tk) : tw (ts ++ [t]) = tw ts + (1 + t.2.2.2.2.size) := by
  unfold tw
  induction ts with
  | nil => simp [wordsWt]
  | cons x ts ih => simp only [List.cons_append, List.map_cons, wordsWt, ih]; omega
theorem mbL_wt {en k : Int} : ∀ (n : Nat) (acc l ts r : List Tk), Sml l → mbL en k n acc l = .ok ts r → tw ts + 4098 * r.length ≤ tw acc + 4098 * l.length ∧ ts.length + r.length ≤ acc.length + l.length ∧ Sml r
  | 0, acc, l, ts, r, _, h => by simp [mbL] at h
  | n + 1, acc, l, ts, r, hs, h => by
    simp only [mbL] at h
    split at h
    · split at h
      · cases h
      · cases h
        obtain ⟨t, e⟩ := sgL_tail ‹_›
        have := hs.tail e
        exact ⟨by omega, by omega, this.1⟩
    · obtain ⟨t, e⟩ := skL_tail ‹_›
      have h1 := hs.tail e
      split at h
      · cases h
      · split at h
        · cases h
        · obtain ⟨e2, _⟩ := ndL_tail ‹_›
          have h2 := h1.1.tail e2
          have h3 := mbL_wt n _ _ _ _ h2.1 h
          rw [tw_snoc] at h3
          simp only [List.length_append, List.length_cons, List.length_nil] at h3
          exact ⟨by omega, by omega, h3.2.2⟩
theorem msL_wt {en k : Int} {l ts r : List Tk} (hs : Sml l) (h : msL en k l = .ok ts r) : tw ts + 4098 * r.length ≤ 4098 * l.length ∧ ts.length + r.length ≤ l.length ∧ Sml r := by
  unfold msL at h
  split at h
  · cases h
  · obtain ⟨e2, _⟩ := ndL_tail ‹_›
    have h2 := hs.tail e2
    have h3 := mbL_wt _ _ _ _ _ h2.1 h
    have : ∀ t : Tk, tw [t] = 1 + t.2.2.2.2.size := fun t => by simp [tw, wordsWt]
    rw [this] at h3
    simp only [List.length_cons, List.length_nil] at h3
    exact ⟨by omega, by omega, h3.2.2⟩
theorem setL_wt {en : Int} {a : ByteArray} {l r : List Tk} {x : Nd} (hs : Sml l) (h : setL en a l = .ok x r) : wtN x + 4098 * r.length ≤ 1 + a.size + 4098 * l.length ∧ Sml r := by
  unfold setL at h
  split at h
  · split at h
    · cases h
    · cases h
      have := msL_wt hs ‹_›
      refine ⟨?_, this.2.2⟩
      unfold tw at this
      simp only [wtN, wtL, List.length_nil]; omega
  · split at h
    · cases h
    · cases h
      have := msL_wt hs ‹_›
      refine ⟨?_, this.2.2⟩
      simp only [wtN, wtL, wordsWt, List.length_map]; omega
theorem bdL_wt {en : Int} {a : ByteArray} {l r : List Tk} {x : Nd} (hs : Sml l) (h : bdL en a l = .ok x r) : wtN x + 4098 * r.length ≤ 1 + a.size + 4098 * l.length ∧ Sml r := by
  unfold bdL at h
  split at h
  · cases h
  · have h1 := hs.tail (ndL_tail ‹_›).1
    split at h
    · cases h
    · obtain ⟨t, e⟩ := sgL_tail ‹_›
      have h2 := h1.1.tail e
      split at h
      · cases h
      · have h3 := h2.1.tail (ndL_tail ‹_›).1
        split at h
        · cases h
        · obtain ⟨t, e⟩ := sgL_tail ‹_›
          have h4 := h3.1.tail e
          cases h
          refine ⟨?_, h4.1⟩
          simp only [wtN, wtL, wordsWt, List.length_nil]; omega
theorem pxL_wt {en : Int} {a : ByteArray} {l r : List Tk} {x : Nd} (hs : Sml l) (h : pxL en a l = .ok x r) : wtN x + 4098 * r.length ≤ 1 + a.size + 4098 * l.length ∧ Sml r := by
  unfold pxL at h
  split at h
  · cases h
  · have h1 := hs.tail (ndL_tail ‹_›).1
    split at h
    · cases h
    · obtain ⟨t, e⟩ := sgL_tail ‹_›
      have h2 := h1.1.tail e
      cases h
      refine ⟨?_, h2.1⟩
      simp only [wtN, wtL, wordsWt, List.length_nil]; omega
theorem prL_wt {en : Int} {l r : List Tk} {x : Nd} (hs : Sml l) (h : prL en l = .ok x r) : wtN x + 4098 * r.length ≤ 4098 * l.length ∧ Sml r := by
  unfold prL at h
  split at h
  · cases h
  · have h1 := hs.tail (ndL_tail ‹_›).1
    split at h
    · obtain ⟨t, e⟩ := skL_tail ‹_›
      have h2 := h1.1.tail e
      have h3 := setL_wt h2.1 h
      exact ⟨by omega, h3.2⟩
    · split at h
      · obtain ⟨t, e⟩ := skL_tail ‹_›
        have h2 := h1.1.tail e
        have h3 := bdL_wt h2.1 h
        exact ⟨by omega, h3.2⟩
      · have h3 := pxL_wt h1.1 h
        exact ⟨by omega, h3.2⟩
def Wt (f : List Tk → Rs Nd) : Prop := ∀ l x r, Sml l → f l = .ok x r → wtN x + 4098 * r.length ≤ 4098 * l.length ∧ Sml r
theorem wtL_app (a b : List Nd) : wtL (a ++ b) = wtL a + wtL b := by
  induction a with
  | nil => simp [wtL]
  | cons x a ih => simp only [List.cons_append, wtL, ih]; omega
theorem chG_wt {s : ByteArray} {f : List Tk → Rs Nd} (hf : Wt f) : ∀ (n : Nat) (ks : List Nd) (l : List Tk) (ks' : List Nd) (r : List Tk), Sml l → chG s f n ks l = .ok ks' r → wtL ks' + ks'.length + 4098 * r.length ≤ wtL ks + ks.length + 4098 * l.length ∧ Sml r
  | 0, ks, l, ks', r, _, h => by simp [chG] at h
  | n + 1, ks, l, ks', r, hs, h => by
    simp only [chG] at h
    split at h
    · cases h; exact ⟨by omega, hs⟩
    · obtain ⟨t, e⟩ := skL_tail ‹_›
      have h1 := hs.tail e
      split at h
      · cases h
      · have h2 := hf _ _ _ h1.1 ‹_›
        have h3 := chG_wt hf n _ _ _ _ h2.2 h
        rw [wtL_app] at h3
        simp only [wtL, List.length_append, List.length_cons, List.length_nil] at h3
        exact ⟨by omega, h3.2⟩
theorem jnT_wt (op : Int) (ks : List Nd) (h : 1 ≤ ks.length) : wtN (jnT op ks) + 1 ≤ wtL ks + ks.length := by
  match ks, h with
  | [x], _ => simp [jnT, wtL]
  | x :: y :: ks, _ => simp only [jnT, wtN, wtL, wordsWt, List.length_cons, List.length_nil]; show 1 + 0 + 0 + 0 + _ + 1 ≤ _; omega
theorem chG_pos {s : ByteArray} {f : List Tk → Rs Nd} : ∀ (n : Nat) (ks : List Nd) (l : List Tk) (ks' : List Nd) (r : List Tk), 1 ≤ ks.length → chG s f n ks l = .ok ks' r → 1 ≤ ks'.length
  | 0, ks, l, ks', r, _, h => by simp [chG] at h
  | n + 1, ks, l, ks', r, hk, h => by
    simp only [chG] at h
    split at h
    · cases h; exact hk
    · split at h
      · cases h
      · exact chG_pos n _ _ _ _ (by simp) h
theorem chL_wt {op : Int} {s : ByteArray} {f : List Tk → Rs Nd} (hf : Wt f) : Wt (chL op s f) := fun l x r hs h => by
  unfold chL at h
  split at h
  · cases h
  · have h1 := hf _ _ _ hs ‹_›
    split at h
    · cases h
    · rename_i hc
      have hp := chG_pos _ [_] _ _ _ (Nat.le_refl 1) hc
      have h2 := chG_wt hf _ _ _ _ _ h1.2 hc
      cases h
      have h3 := jnT_wt op _ hp
      simp only [wtL, List.length_cons, List.length_nil] at h2
      exact ⟨by omega, h2.2⟩
theorem onL_wt {en : Int} : ∀ (n : Nat), Wt (onL en n)
  | 0 => fun l x r _ h => by change (Rs.bad 0 : Rs Nd) = Rs.ok x r at h; cases h
  | n + 1 => fun l x r hs h => by
    simp only [onL] at h
    split at h
    · obtain ⟨t, e⟩ := skL_tail ‹_›
      have h1 := hs.tail e
      split at h
      · cases h
      · have h2 := onL_wt n _ _ _ h1.1 ‹_›
        cases h
        refine ⟨?_, h2.2⟩
        simp only [wtN, wtL, wordsWt, List.length_nil]; show 1 + 0 + 0 + 0 + _ + _ ≤ _; omega
    · split at h
      · obtain ⟨t, e⟩ := skL_tail ‹_›
        have h1 := hs.tail e
        split at h
        · cases h
        · have h2 := chL_wt (chL_wt (onL_wt n)) _ _ _ h1.1 ‹_›
          split at h
          · cases h
          · obtain ⟨t, e⟩ := sgL_tail ‹_›
            have h3 := h2.2.tail e
            cases h
            exact ⟨by omega, h3.1⟩
      · exact prL_wt hs h
theorem orL_wt {en : Int} {n : Nat} {l r : List Tk} {x : Nd} (hs : Sml l) (h : orL en n l = .ok x r) : wtN x ≤ 4098 * l.length := by
  have := chL_wt (chL_wt (onL_wt n)) l x r hs h
  omega
end Go.Proofs.YtencibjmiphinaaGreatDoor
namespace Go.Proofs.YtencibjmiphinaaGreatDoor
open Go.RowKit

/-- What Kinds answers. -/
def kndE (ats : List (ByteArray × Int)) (t : Nd) : Int := if chkN t then (if fitN ats t then 0 else 12) else 1
set_option maxHeartbeats 2000000 in
theorem kinds_any (b : Nat) (ats : List (ByteArray × Int)) (hm : ats.length ≤ 140737488355328) (t : Nd) (v : Nv) (w : World) (hin : NdIn w v t) (hS : Sc.SchAt w b ats) (hwt : wtN t ≤ 1000000000) :
    Calls Tryz.prog 18 #[.pointer (some ⟨b, 0, none⟩), v.val] w fun e w' => e = .returned (.int .i64 (kndE ats t)) ∧ Below w.heap.size w w' := by
  have hsz : sizeN t ≤ 1000000000 := Nat.le_trans (size_wt t) hwt
  have hc := checkT_any t v (w.alloc (.cells #[.int .i64 v.kind, .string v.attr, .slice v.qi v.ni v.ci, .slice v.qw v.nw v.cw, .int .i64 v.lo, .int .i64 v.hi, .int .i64 v.op, .slice v.qk v.nk v.ck] 29)) (hin.keep ((Below.refl _ _).alloc (Nat.le_refl _) _)) hwt
  have HIN := hide hin
  have HS := hide hS
  have hB : Below w.heap.size w (w.alloc (.cells #[.int .i64 v.kind, .string v.attr, .slice v.qi v.ni v.ci, .slice v.qw v.nw v.cw, .int .i64 v.lo, .int .i64 v.hi, .int .i64 v.op, .slice v.qk v.nk v.ck] 29)) := (Below.refl _ _).alloc (Nat.le_refl _) _
  have HB := hide hB
  clear hin hS hB
  unfold Nv.val at hc ⊢
  cases hk : chkN t with
  | false =>
    have e1 : kndE ats t = 1 := by simp [kndE, hk]
    rw [e1]
    rw [hk] at hc
    simp only [code, Bool.false_eq_true, if_false] at hc
    clear hk e1
    go_enter Tryz.func18, Tryz.ntmps18
    go_wp2_with (go_at_call 22; refine hc.mono ?_; rintro e w1 ⟨rfl, hb⟩; have HB1 := hide hb; clear hb)
    go_ret
    exact ⟨rfl, below_sub (unhide HB) (unhide HB1)⟩
  | true =>
    rw [hk] at hc
    simp only [code, if_true] at hc
    have hf := fun W (h1 : NdIn W v t) (h2 : Sc.SchAt W b ats) => fits_any b ats hm t v W h1 h2 hsz
    unfold Nv.val at hf
    have HF := hide hf
    clear hf
    cases hq : fitN ats t with
    | false =>
      have e1 : kndE ats t = 12 := by simp [kndE, hk, hq]
      rw [e1]
      have HQ := hide hq
      clear hk e1 hq
      go_enter Tryz.func18, Tryz.ntmps18
      go_wp2_with first
        | (go_at_call 22; refine hc.mono ?_; rintro e w1 ⟨rfl, hb⟩; have HB1 := hide (below_sub (unhide HB) hb); have hx := (hb.block w.heap.size (by simp)).trans (box_nw w (.cells #[.int .i64 v.kind, .string v.attr, .slice v.qi v.ni v.ci, .slice v.qw v.nw v.cw, .int .i64 v.lo, .int .i64 v.hi, .int .i64 v.op, .slice v.qk v.nk v.ck] 29)); obtain ⟨c0, c1, c2, c3, c4, c5, c6, c7⟩ := of8' hx; clear hb hx)
        | (go_at_call 39; refine (unhide HF _ ((unhide HIN).keep (unhide HB1)) ((unhide HS).below (unhide HB1))).mono ?_; rintro e w2 ⟨rfl, hb⟩; have HB2 := hide hb; clear hb; rw [unhide HQ])
      go_ret
      exact ⟨rfl, below_sub (unhide HB1) (unhide HB2)⟩
    | true =>
      have e1 : kndE ats t = 0 := by simp [kndE, hk, hq]
      rw [e1]
      have HQ := hide hq
      clear hk e1 hq
      go_enter Tryz.func18, Tryz.ntmps18
      go_wp2_with first
        | (go_at_call 22; refine hc.mono ?_; rintro e w1 ⟨rfl, hb⟩; have HB1 := hide (below_sub (unhide HB) hb); have hx := (hb.block w.heap.size (by simp)).trans (box_nw w (.cells #[.int .i64 v.kind, .string v.attr, .slice v.qi v.ni v.ci, .slice v.qw v.nw v.cw, .int .i64 v.lo, .int .i64 v.hi, .int .i64 v.op, .slice v.qk v.nk v.ck] 29)); obtain ⟨c0, c1, c2, c3, c4, c5, c6, c7⟩ := of8' hx; clear hb hx)
        | (go_at_call 39; refine (unhide HF _ ((unhide HIN).keep (unhide HB1)) ((unhide HS).below (unhide HB1))).mono ?_; rintro e w2 ⟨rfl, hb⟩; have HB2 := hide hb; clear hb; rw [unhide HQ])
      go_ret
      exact ⟨rfl, below_sub (unhide HB1) (unhide HB2)⟩
theorem parL_wt {s : ByteArray} {t : Nd} {r : List Tk} (h : parL s = .ok t r) : wtN t ≤ 1000000000 := by
  unfold parL at h
  split at h
  · cases h
  · rename_i hs
    split at h
    · cases h
    · have hf := toksL_fit 4096 s.data.toList 0 (by simp; omega) (Nat.le_refl _)
      obtain ⟨l, hl⟩ : ∃ l, (Lx.toksL s.data.toList 0).1 = l := ⟨_, rfl⟩
      rw [hl] at h hf
      unfold whL at h
      have hlen : l.length ≤ 4096 := by have := hf.1; simp at this; omega
      split at h
      · cases h
      · cases h
        have := orL_wt (fun t ht => (hf.2 t ht).2) ‹_›
        omega
      · cases h
end Go.Proofs.YtencibjmiphinaaGreatDoor
namespace Go.Proofs.YtencibjmiphinaaGreatDoor
open Go.RowKit

/-- What Expr answers. -/
noncomputable def exL (ats : List (ByteArray × Int)) (d : Int) (s : ByteArray) : Rs Nd := match parL s with
  | .bad _ => .bad 10
  | .ok t _ => if d < depN t then .bad 11 else if kndE ats t = 0 then .ok t [] else .bad (kndE ats t)
def ExR (w : World) (x : Rs Nd) (e : Ending) (w' : World) : Prop := match x with
  | .bad c => e = .returned (.tuple #[zVal, .int .i64 c]) ∧ Below w.heap.size w w'
  | .ok t _ => (∃ v, e = .returned (.tuple #[v.val, .int .i64 0]) ∧ NdFrom w' w.heap.size v t) ∧ Below w.heap.size w w'
theorem PrR.bad {w w' : World} {x : Rs Nd} {e : Ending} {p : Int} (h : PrR w x e w') (hx : x = .bad p) : e = .returned (.tuple #[zVal, .int .i64 p, .int .i64 10]) ∧ Below w.heap.size w w' := by subst hx; exact h
theorem PrR.ok {w w' : World} {x : Rs Nd} {e : Ending} {t : Nd} {r : List Tk} (h : PrR w x e w') (hx : x = .ok t r) : (∃ v, e = .returned (.tuple #[v.val, .int .i64 0, .int .i64 0]) ∧ NdFrom w' w.heap.size v t) ∧ Below w.heap.size w w' := by subst hx; exact h
theorem res_on {w w1 : World} (hb : Below (w.alloc (.cells #[.int .i64 0, .string ⟨#[]⟩, .slice none 0 0, .slice none 0 0, .int .i64 0, .int .i64 0, .int .i64 0, .slice none 0 0] 29)).heap.size (w.alloc (.cells #[.int .i64 0, .string ⟨#[]⟩, .slice none 0 0, .slice none 0 0, .int .i64 0, .int .i64 0, .int .i64 0, .slice none 0 0] 29)) w1) : w1.heap[w.heap.size]? = some (.cells #[.int .i64 0, .string ⟨#[]⟩, .slice none 0 0, .slice none 0 0, .int .i64 0, .int .i64 0, .int .i64 0, .slice none 0 0] 29) ∧ w.heap.size < w1.heap.size := by
  have hs := hb.size
  simp at hs
  exact ⟨(hb.block _ (by simp)).trans (box_nw w _), hs⟩
set_option maxHeartbeats 4000000 in
theorem expr_any (b : Nat) (ats : List (ByteArray × Int)) (hm : ats.length ≤ 140737488355328) (d : Int) (s : ByteArray) (w : World) (hG : Lx.G w) (hS : Sc.SchAt w b ats) :
    Calls Tryz.prog 15 #[.pointer (some ⟨b, 0, none⟩), .int .i64 d, .string s] w fun e w' => ExR w (exL ats d s) e w' := by
  have hc := parse_any s (w.alloc (.cells #[.int .i64 0, .string ⟨#[]⟩, .slice none 0 0, .slice none 0 0, .int .i64 0, .int .i64 0, .int .i64 0, .slice none 0 0] 29)) (Lx.G_below hG (bel_z w))
  have HS := hide (hS.below (bel_z w))
  clear hG hS
  cases ep : parL s with
  | bad p =>
    have hx : exL ats d s = .bad 10 := by simp only [exL, ep]
    rw [hx]
    have EP := hide ep
    clear ep hx
    go_enter Tryz.func15, Tryz.ntmps15
    go_wp2_with (go_at_call 10; refine hc.mono ?_; rintro e w1 hq; obtain ⟨rfl, hb⟩ := hq.bad (unhide EP); obtain ⟨y1, y2⟩ := res_on hb; obtain ⟨q0, q1, q2, q3, q4, q5, q6, q7⟩ := of8' y1; have qf : ∀ o, w1.frozen? ⟨w.heap.size, o, none⟩ = false := fun o => frozen_free y1; have HB := hide hb; clear hb hq y1; unfold zVal)
    refine bodyPost_ret (v := .tuple #[zVal, .int .i64 10]) (by simp [results, Tryz.results15, go_sem, zVal, *]) rfl ⟨rfl, ?_⟩
    have h9 := (set8_below (below_sub (bel_z w) (unhide HB)) (Nat.le_refl w.heap.size) (.int .i64 0) (.string ⟨#[]⟩) (.slice none 0 0) (.slice none 0 0) (.int .i64 0) (.int .i64 0) (.int .i64 0) (.slice none 0 0))
    exact h9.alloc (by have := h9.size; omega) _
  | ok t r =>
    have hwt := parL_wt ep
    have hsz : sizeN t ≤ 1000000000 := Nat.le_trans (size_wt t) hwt
    have EP := hide ep
    have hdp := fun v W (h : NdIn W v t) => depth_any t v W h hsz
    have hkd := fun v W (h : NdIn W v t) (h2 : Sc.SchAt W b ats) => kinds_any b ats hm t v W h h2 hwt
    unfold Nv.val at hdp hkd
    have HD := hide hdp
    have HK := hide hkd
    clear hdp hkd
    by_cases hd : d < (depN t : Int)
    · have hx : exL ats d s = .bad 11 := by simp only [exL, ep, if_pos hd]
      rw [hx]
      clear ep hx
      go_enter Tryz.func15, Tryz.ntmps15
      go_wp2_with first
        | (go_at_call 10; refine hc.mono ?_; rintro e w1 hq; obtain ⟨⟨v, rfl, hv⟩, hb⟩ := hq.ok (unhide EP); obtain ⟨y1, y2⟩ := res_on hb; have HB := hide hb; have HV := hide hv; have HB1 := hide (below_sub hb ((Below.refl w1.heap.size w1).alloc (Nat.le_refl _) (.cells #[.int .i64 v.kind, .string v.attr, .slice v.qi v.ni v.ci, .slice v.qw v.nw v.cw, .int .i64 v.lo, .int .i64 v.hi, .int .i64 v.op, .slice v.qk v.nk v.ck] 29))); clear hb hv hq y1; unfold Nv.val)
        | (go_at_call 36; refine (unhide HD v _ ((unhide HV).toIn.keep ((Below.refl _ _).alloc (Nat.le_refl _) (.cells #[.int .i64 v.kind, .string v.attr, .slice v.qi v.ni v.ci, .slice v.qw v.nw v.cw, .int .i64 v.lo, .int .i64 v.hi, .int .i64 v.op, .slice v.qk v.nk v.ck] 29)))).mono ?_; rintro e w2 ⟨rfl, hb⟩; have HB2 := hide (below_sub (unhide HB1) hb); obtain ⟨y1, y3⟩ := res_on (unhide HB2); obtain ⟨q0, q1, q2, q3, q4, q5, q6, q7⟩ := of8' y1; have qf : ∀ o, w2.frozen? ⟨w.heap.size, o, none⟩ = false := fun o => frozen_free y1; clear hb y1)
      refine bodyPost_ret (v := .tuple #[zVal, .int .i64 11]) (by simp [results, Tryz.results15, go_sem, zVal, *]) rfl ⟨rfl, ?_⟩
      exact set8_below (below_sub (bel_z w) (unhide HB2)) (Nat.le_refl _) _ _ _ _ _ _ _ _
    · obtain ⟨k, hk⟩ : ∃ k, kndE ats t = k := ⟨_, rfl⟩
      rw [hk] at HK
      by_cases h0 : k = 0
      · have hx : exL ats d s = .ok t [] := by simp only [exL, ep, if_neg hd, hk, h0, if_true]
        rw [hx]
        subst h0
        clear ep hx hk
        go_enter Tryz.func15, Tryz.ntmps15
        go_wp2_with first
          | (go_at_call 10; refine hc.mono ?_; rintro e w1 hq; obtain ⟨⟨v, rfl, hv⟩, hb⟩ := hq.ok (unhide EP); obtain ⟨y1, y2⟩ := res_on hb; have HB := hide hb; have HV := hide hv; have HB1 := hide (below_sub hb ((Below.refl w1.heap.size w1).alloc (Nat.le_refl _) (.cells #[.int .i64 v.kind, .string v.attr, .slice v.qi v.ni v.ci, .slice v.qw v.nw v.cw, .int .i64 v.lo, .int .i64 v.hi, .int .i64 v.op, .slice v.qk v.nk v.ck] 29))); clear hb hv hq y1; unfold Nv.val)
          | (go_at_call 36; refine (unhide HD v _ ((unhide HV).toIn.keep ((Below.refl _ _).alloc (Nat.le_refl _) (.cells #[.int .i64 v.kind, .string v.attr, .slice v.qi v.ni v.ci, .slice v.qw v.nw v.cw, .int .i64 v.lo, .int .i64 v.hi, .int .i64 v.op, .slice v.qk v.nk v.ck] 29)))).mono ?_; rintro e w2 ⟨rfl, hb⟩; have HB2 := hide (below_sub (unhide HB1) hb); have HX2 := hide (below_sub ((Below.refl w1.heap.size w1).alloc (Nat.le_refl _) (.cells #[.int .i64 v.kind, .string v.attr, .slice v.qi v.ni v.ci, .slice v.qw v.nw v.cw, .int .i64 v.lo, .int .i64 v.hi, .int .i64 v.op, .slice v.qk v.nk v.ck] 29)) hb); have y5 := (hb.block w1.heap.size (by simp)).trans (box_nw w1 (.cells #[.int .i64 v.kind, .string v.attr, .slice v.qi v.ni v.ci, .slice v.qw v.nw v.cw, .int .i64 v.lo, .int .i64 v.hi, .int .i64 v.op, .slice v.qk v.nk v.ck] 29)); obtain ⟨p0, p1, p2, p3, p4, p5, p6, p7⟩ := of8' y5; have Y5 := hide y5; clear hb y5)
          | (go_at_call 18; refine (unhide HK v _ ((unhide HV).toIn.keep (unhide HX2)) ((unhide HS).below (unhide HB2))).mono ?_; rintro e w3 ⟨rfl, hb⟩; have HB3 := hide (below_sub (unhide HB2) hb); have HX3 := hide (below_sub (unhide HX2) hb); have y6 := (hb.block w1.heap.size (Array.getElem?_eq_some_iff.1 (unhide Y5)).1).trans (unhide Y5); obtain ⟨r0, r1, r2, r3, r4, r5, r6, r7⟩ := of8' y6; obtain ⟨y1, y3⟩ := res_on (unhide HB3); obtain ⟨q0, q1, q2, q3, q4, q5, q6, q7⟩ := of8' y1; have qf : ∀ o, w3.frozen? ⟨w.heap.size, o, none⟩ = false := fun o => frozen_free y1; clear hb y1 y6)
        refine bodyPost_ret (v := .tuple #[v.val, .int .i64 0]) (by simp [results, Tryz.results15, go_sem, Nv.val, *]) rfl ⟨⟨v, rfl, ?_⟩, set8_below (below_sub (bel_z w) (unhide HB3)) (Nat.le_refl _) _ _ _ _ _ _ _ _⟩
        have h9 := (unhide HV).keep (unhide HX3)
        simp at h9
        exact (h9.up (set8_up _ (Nat.lt_succ_self _) _ _ _ _ _ _ _ _)).mono (Nat.le_succ _)
      · have hx : exL ats d s = .bad k := by simp only [exL, ep, if_neg hd, hk, if_neg h0]
        rw [hx]
        clear ep hx hk
        go_enter Tryz.func15, Tryz.ntmps15
        go_wp2_with first
          | (go_at_call 10; refine hc.mono ?_; rintro e w1 hq; obtain ⟨⟨v, rfl, hv⟩, hb⟩ := hq.ok (unhide EP); obtain ⟨y1, y2⟩ := res_on hb; have HB := hide hb; have HV := hide hv; have HB1 := hide (below_sub hb ((Below.refl w1.heap.size w1).alloc (Nat.le_refl _) (.cells #[.int .i64 v.kind, .string v.attr, .slice v.qi v.ni v.ci, .slice v.qw v.nw v.cw, .int .i64 v.lo, .int .i64 v.hi, .int .i64 v.op, .slice v.qk v.nk v.ck] 29))); clear hb hv hq y1; unfold Nv.val)
          | (go_at_call 36; refine (unhide HD v _ ((unhide HV).toIn.keep ((Below.refl _ _).alloc (Nat.le_refl _) (.cells #[.int .i64 v.kind, .string v.attr, .slice v.qi v.ni v.ci, .slice v.qw v.nw v.cw, .int .i64 v.lo, .int .i64 v.hi, .int .i64 v.op, .slice v.qk v.nk v.ck] 29)))).mono ?_; rintro e w2 ⟨rfl, hb⟩; have HB2 := hide (below_sub (unhide HB1) hb); have HX2 := hide (below_sub ((Below.refl w1.heap.size w1).alloc (Nat.le_refl _) (.cells #[.int .i64 v.kind, .string v.attr, .slice v.qi v.ni v.ci, .slice v.qw v.nw v.cw, .int .i64 v.lo, .int .i64 v.hi, .int .i64 v.op, .slice v.qk v.nk v.ck] 29)) hb); have y5 := (hb.block w1.heap.size (by simp)).trans (box_nw w1 (.cells #[.int .i64 v.kind, .string v.attr, .slice v.qi v.ni v.ci, .slice v.qw v.nw v.cw, .int .i64 v.lo, .int .i64 v.hi, .int .i64 v.op, .slice v.qk v.nk v.ck] 29)); obtain ⟨p0, p1, p2, p3, p4, p5, p6, p7⟩ := of8' y5; have Y5 := hide y5; clear hb y5)
          | (go_at_call 18; refine (unhide HK v _ ((unhide HV).toIn.keep (unhide HX2)) ((unhide HS).below (unhide HB2))).mono ?_; rintro e w3 ⟨rfl, hb⟩; have HB3 := hide (below_sub (unhide HB2) hb); obtain ⟨y1, y3⟩ := res_on (unhide HB3); obtain ⟨q0, q1, q2, q3, q4, q5, q6, q7⟩ := of8' y1; have qf : ∀ o, w3.frozen? ⟨w.heap.size, o, none⟩ = false := fun o => frozen_free y1; clear hb y1)
        refine bodyPost_ret (v := .tuple #[zVal, .int .i64 k]) (by simp [results, Tryz.results15, go_sem, zVal, *]) rfl ⟨rfl, ?_⟩
        exact set8_below (below_sub (bel_z w) (unhide HB3)) (Nat.le_refl _) _ _ _ _ _ _ _ _
end Go.Proofs.YtencibjmiphinaaGreatDoor

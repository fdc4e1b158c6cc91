/- An append to a row of keys that tells where the row lies. -/
import Derived.Test.YtedakipjfpdajaaGreatDoorCompact
namespace Go.Proofs.YtedakipjfpdajaaGreatDoor
open Go.RowKit Go.Sort Go.Shelf

theorem grown_below {w w' : World} (h : Below w.heap.size w w') (r : Option Nat) : w.grownBy w' r := ⟨h.os, h.tape, h.output, h.size, fun k hk _ => h.block k hk⟩
/-- Where the row lies behind an append: where it lay, or all that lay has stayed and it is new. -/
def Stays (w w' : World) (q q' : Option Addr) : Prop := w.grownBy w' (q.map (·.block)) ∧ (q' = q ∨ (w.grownBy w' none ∧ (q' = none ∨ ∃ g', q' = some ⟨g', 0, none⟩ ∧ w.heap.size ≤ g')))
theorem own_block (q : Option Addr) (n c : Nat) : (Value.slice q n c).ownBlock = q.map (·.block) := by cases q <;> rfl
theorem run_appK (ty : TypeId) (w : World) (B : Nat) (q : Option Addr) (cap : Nat) (l : List Ky) (p : Option Addr) (c : Nat) (m : List Ky) (hown : OwnK encK 46 5 B w q cap l) (hs : SrcK encK 5 w p c m) (hm : l.length + m.length ≤ maxLen) (hb : (l.length + m.length) * 56 ≤ 140737488355328) (hB : B ≤ w.heap.size) :
    ∃ q' cap' w', (Builtin.append_ #[30, 30] ty #[.slice q l.length cap, .slice p m.length c]).run Tryz.prog w = .ok (.slice q' (l.length + m.length) cap') w' ∧ OwnK encK 46 5 B w' q' cap' (l ++ m) ∧ Below B w w' ∧ Stays w w' q q' := by
  obtain ⟨q', cap', w', hr, ho, hbl, _, hg⟩ := run_app rowP ty w B q cap l p c m hown hs hm hb hB
  rw [own_block] at hg
  refine ⟨q', cap', w', hr, ho, hbl, hg, ?_⟩
  obtain ⟨i0, hi, hz0, hz1, hz2⟩ := info_parts Tryz.info46
  cases p with
  | none =>
    obtain ⟨h0, rfl⟩ := hs.1 rfl
    obtain rfl : m = [] := List.length_eq_zero_iff.1 h0
    have hr2 := run_append_owned_none (P := Tryz.prog) (w := w) B 30 ty 46 i0 5 Tryz.underlying30 hi _ _ _ hown
    simp only [List.length_nil, Nat.add_zero] at hr
    have e := hr.symm.trans hr2
    injection e with e1 e2
    injection e1 with e1
    exact Or.inl e1
  | some ad =>
    rcases hown.2 with ⟨h1, h2⟩ | ⟨g, cap1, cur, hv, hbg, hblk, hnc, hcm, hcs, htk⟩
    · injection h1 with h1 h3 h4
      subst h1
      refine Or.inr ⟨hg, ?_⟩
      rcases ho.2 with ⟨h5, _⟩ | ⟨g', _, _, hv', _⟩
      · injection h5 with h5; exact Or.inl h5
      · injection hv' with h5
        refine Or.inr ⟨g', h5, ?_⟩
        -- the row is new: what was asked for lay nowhere
        obtain ⟨v2, w2, hr2, _, _, _, hat⟩ := run_append_own_at (P := Tryz.prog) w B 30 ty 46 i0 (.agg #[.string ⟨#[]⟩, .int .i64 0, .int .i64 0, .int .i64 0, .string ⟨#[]⟩]) 5 56 Tryz.underlying30 hi hz0 hz1 hz2 rfl (by decide) _ _ _ hown ad m.length c (flatK encK 5 m.toArray).toList (by rw [flat_len]) (hs.2 ad rfl) (rowP.one m) hm hb hB
        have e := hr.symm.trans hr2
        injection e with e1 e2
        rw [← e1, own_block, own_block, h5] at hat
        rcases hat with h | h
        · simp at h
        · simp at h; omega
    · injection hv with h1 h2 h3
      subst h1 h3
      by_cases hroom : l.length + m.length ≤ cap
      · have hr2 := run_append_room (P := Tryz.prog) w 30 ty 46 i0 Tryz.underlying30 hi g l.length cap cur hblk ad m.length c (flatK encK 5 m.toArray).toList (by rw [flat_len, hz1]) (hs.2 ad rfl) (rowP.one m) hroom (by rw [flat_len, hz1, hcs, ← Nat.add_mul]; exact Nat.mul_le_mul_right _ hroom)
        have e := hr.symm.trans hr2
        injection e with e1 e2
        injection e1 with e1
        exact Or.inl e1
      · have hr2 := run_append_grow (P := Tryz.prog) w 30 ty 46 i0 _ Tryz.underlying30 hi hz0 ⟨g, 0, none⟩ l.length cap (flatK encK 5 l.toArray).toList (by rw [flat_len, hz1]) (World.ownsRow.cells (v := .slice (some ⟨g, 0, none⟩) l.length cap) hown rfl) ad m.length c (flatK encK 5 m.toArray).toList (by rw [flat_len, hz1]) (hs.2 ad rfl) (by omega) (by unfold maxLen at hm; omega) (growslice_fits (by omega) (by rw [hz2]; exact hb))
        have e := hr.symm.trans hr2
        injection e with e1 e2
        injection e1 with e1
        refine Or.inr ⟨?_, Or.inr ⟨w.heap.size, e1, Nat.le_refl _⟩⟩
        rw [e2]
        exact grown_below (((Below.refl _ w).drew).alloc (Nat.le_refl _) _) _
theorem wpList_appK {ops : Array Oper} {rest : List Oper} {o : Oper} {a : Act} {w : World} {Q : Exit → Act → World → Prop} (hgd : o.guard = none) (s x : Operand)
    (ho : o.op = .call { callee := .builtin .append, args := #[s, x], argTypes := #[30, 30] }) (B : Nat) (q : Option Addr) (cap : Nat) (l : List Ky) (p : Option Addr) (c : Nat) (m : List Ky) (n n' N : Nat) (hn : l.length = n) (hn' : m.length = n') (hN : n + n' = N)
    (es : a.eval s = .slice q n cap) (ex : a.eval x = .slice p n' c) (hown : OwnK encK 46 5 B w q cap l) (hs : SrcK encK 5 w p c m) (hm : N ≤ maxLen) (hb : N * 56 ≤ 140737488355328) (hB : B ≤ w.heap.size)
    (h : ∀ q' cap' w', OwnK encK 46 5 B w' q' cap' (l ++ m) → Below B w w' → Stays w w' q q' → wpList Tryz.prog ops Q rest (a.put o.dst (.slice q' N cap')) w') : wpList Tryz.prog ops Q (o :: rest) a w := by
  subst hn hn' hN
  refine wpList_plain hgd fun K hK => ?_
  obtain ⟨q', cap', w', hr, h2, h3, h4⟩ := run_appK o.type w B q cap l p c m hown hs hm hb hB
  unfold Oper.wp execOp
  simp only [ho, resolve, invoke, builtin, Sem.run_bind, Sem.run_pure, Result.andThen_ok, List.map_toArray, List.map_cons, List.map_nil, es, ex, hr]
  exact hK _ _ (h q' cap' w' h2 h3 h4)
end Go.Proofs.YtedakipjfpdajaaGreatDoor

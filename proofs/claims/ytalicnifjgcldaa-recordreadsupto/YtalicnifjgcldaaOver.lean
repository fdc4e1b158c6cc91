/- The statement's over: only the row itself and new memory change. -/
import Derived.Test.YtalicnifjgcldaaRefOne
namespace Go.Proofs.Ytalicnifjgcldaa
open Go.RowKit Go.Sort Go.Shelf

theorem own_block (q : Option Addr) (n c : Nat) : (Value.slice q n c).ownBlock = q.map (·.block) := by cases q <;> rfl
theorem wpList_appL {ops : Array Oper} {rest : List Oper} {o : Oper} {a : Act} {w : World} {Q : Exit → Act → World → Prop} (hgd : o.guard = none) (s x : Operand)
    (ho : o.op = .call { callee := .builtin .append, args := #[s, x], argTypes := #[24, 24] }) (B : Nat) (q : Option Addr) (cap : Nat) (l : List UInt8) (ad : Addr) (c : Nat) (m : List UInt8) (n n' N : Nat) (hn : l.length = n) (hn' : m.length = n') (hN : n + n' = N)
    (es : a.eval s = .slice q n cap) (ex : a.eval x = .slice (some ad) n' c) (hown : OwnK encB 5 1 B w q cap l) (hs : SrcK encB 1 w (some ad) c m) (hm : N ≤ maxLen) (hb : N ≤ 140737488355328) (hB : B ≤ w.heap.size)
    (h : ∀ q' cap' w', OwnK encB 5 1 B w' q' cap' (l ++ m) → w.grownBy w' (q.map (·.block)) → (q'.map (·.block) = q.map (·.block) ∨ ∀ g, q'.map (·.block) = some g → w.heap.size ≤ g) → wpList Try.prog ops Q rest (a.put o.dst (.slice q' N cap')) w') : wpList Try.prog ops Q (o :: rest) a w := by
  subst hn hn' hN
  obtain ⟨i0, hi, hz0, hz1, hz2⟩ := info_parts Try.info5
  refine wpList_plain hgd fun K hK => ?_
  obtain ⟨v', w', hr, ho2, hg, _, hat⟩ := run_append_own_at (P := Try.prog) w B 24 o.type 5 i0 (.int .u8 0) 1 1 Try.underlying24 hi hz0 hz1 hz2 rfl (by decide) _ _ _ hown ad m.length c (flatK encB 1 m.toArray).toList (by simp) (hs.2 ad rfl) (rowB.one m) hm (by omega) hB
  obtain ⟨q', cap', rfl, _⟩ := OwnK.shape ho2
  rw [own_block] at hg
  rw [own_block, own_block] at hat
  unfold Oper.wp execOp
  simp only [ho, resolve, invoke, builtin, Sem.run_bind, Sem.run_pure, Result.andThen_ok, List.map_toArray, List.map_cons, List.map_nil, es, ex, hr]
  refine hK _ _ (h q' cap' w' ?_ hg ?_)
  · unfold OwnK
    rw [flat_app encB 1 (by decide), List.length_append]
    exact ho2
  · rcases hat with h1 | h1
    · exact Or.inl h1
    · exact Or.inr fun g hg => by rw [h1] at hg; injection hg with hg; omega
theorem grown_new {w V : World} {r : Option Nat} (h : w.grownBy V r) {g o : Nat} (v : Value) (hg : some g = r ∨ w.heap.size ≤ g) : w.grownBy (V.setCell ⟨g, o, none⟩ v) r := by
  have h2 := grown_set V g o v
  refine ⟨h2.os.trans h.os, h2.tape.trans h.tape, h2.output.trans h.output, Nat.le_trans h.size h2.size, fun k hk hne => ?_⟩
  refine (h2.block k (Nat.lt_of_lt_of_le hk h.size) ?_).trans (h.block k hk hne)
  rcases hg with e | e
  · rw [e]; exact hne
  · intro e2; injection e2 with e2; omega
set_option maxHeartbeats 1000000 in
theorem over_any (B : Nat) (q : Option Addr) (cap : Nat) (l : List UInt8) (w : World) (ho : OwnK encB 5 1 B w q cap l) (hB : B ≤ w.heap.size) (hl : l.length ≤ 100000000000000) :
    Calls Try.prog 14 #[.slice q l.length cap] w fun e w' => (∃ v, e = .returned v) ∧ w.grownBy w' (q.map (·.block)) := by
  have HO := hide ho
  obtain ⟨N, hN⟩ : ∃ N, l.length = N := ⟨_, rfl⟩
  have HN := hide hN
  rw [hN] at hl ⊢
  clear ho hN
  go_enter Try.func14, Try.ntmps14
  go_wp2
  go_loopw [6] (fun i wr => ∃ (k : Nat) (l' : List UInt8), k ≤ N ∧ i = .int .i64 (k : Int) ∧ Hid (l'.length = N) ∧ Hid (OwnK encB 5 1 B wr q cap l') ∧ Hid (w.grownBy wr (q.map (·.block)))) (fun i _ => N - (intOf i).toNat)
  case atStart => exact ⟨0, l, Nat.zero_le _, rfl, HN, HO, hide (grown_refl _ _)⟩
  case round =>
    obtain ⟨k, l', hk, rfl, HL', HO', HG⟩ := hrel
    have hgs := (unhide HG).size
    by_cases hlt : k < N
    · obtain ⟨g, hq, hg1, hg2⟩ := own_some (unhide HO') (by rw [unhide HL']; omega)
      subst hq
      obtain ⟨o2, zc, zf⟩ := own_set (unhide HO') k (by rw [unhide HL']; omega) 238
      have zc2 : wr.cell? ⟨g, k, none⟩ = some (.int .u8 ((l'[k]'(by rw [unhide HL']; omega)).toNat : Int)) := zc
      have O2 : Hid (OwnK encB 5 1 B (wr.setCell ⟨g, k, none⟩ (.int .u8 238)) (some ⟨g, 0, none⟩) cap (l'.set k 238)) := hide o2
      have G2 := hide (grown_new (unhide HG) (g := g) (o := k) (.int .u8 238) (Or.inl rfl))
      have ki0 : (0 : Int) ≤ (k : Int) := by omega
      have ki1 : (k : Int) < (N : Int) := by omega
      clear zc o2
      go_wp2
      go_roundw
      case rel => exact ⟨k + 1, l'.set k 238, by omega, by go_num, hide (by rw [List.length_set]; exact unhide HL'), O2, G2⟩
      case measure => simp [intOf]; omega
    · obtain rfl : k = N := by omega
      have ki1 : ¬ (k : Int) < (k : Int) := by omega
      go_wp2_with (at_builtin; refine wpList_appL rfl _ _ rfl B q cap l' ⟨wr.heap.size, 0, none⟩ 2 [1, 2] k 2 (k + 2) (unhide HL') rfl rfl rfl rfl ((unhide HO').grow _) (srcA _ _ [1, 2]) (by unfold maxLen; omega) (by omega) (by simp; omega) ?_; intro q2 c2 w2 o2 g2 hat; obtain ⟨g', hq2, _⟩ := own_some o2 (by simp); subst hq2; obtain ⟨o3, zc, zf⟩ := own_set o2 k (by rw [List.length_append, unhide HL']; simp) 3; have zc2 : w2.cell? ⟨g', k, none⟩ = some (.int .u8 (((l' ++ [1, 2])[k]'(by rw [List.length_append, unhide HL']; simp)).toNat : Int)) := zc; have G0 := grown_trans (unhide HG) (grown_trans (grown_below ((Below.refl wr.heap.size wr).alloc (Nat.le_refl _) (.cells #[.int .u8 1, .int .u8 2] 5)) _) g2); have G3 := hide (grown_new G0 (g := g') (o := k) (.int .u8 3) (by rcases hat with h | h; exact Or.inl h; have h9 := h g' rfl; simp at h9; exact Or.inr (by omega))); have kk : (k : Int) < (k : Int) + 2 := (by omega); have k00 : (0 : Int) ≤ (k : Int) := (by omega); clear zc o3 o2 g2 hat G0)
      go_end0
      exact ⟨⟨_, rfl⟩, unhide G3⟩
end Go.Proofs.Ytalicnifjgcldaa

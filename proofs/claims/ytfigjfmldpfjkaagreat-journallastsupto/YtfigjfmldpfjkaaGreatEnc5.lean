/- The records of changes: what the program answers. -/
import Derived.Test.YtfigjfmldpfjkaaGreatEnc4
namespace Go.Proofs.YtfigjfmldpfjkaaGreat
open Go.RowKit Go.Sort

theorem four_len (s : Nat) : (four s).length = 4 := rfl
theorem seal_len (l : List UInt8) : (sealB l).length = l.length + 4 := by simp [sealB, four_len]
theorem body_len (c : Ch) (h : MayB c) : (bodyB c).length ≤ 4110 := by
  have h9 := vint_len9 c.id.toNat (by have := h.1; omega)
  have : c.text.data.size = c.text.size := rfl
  have : c.text.size ≤ 4096 := by rcases h.2 with h | h <;> omega
  simp [bodyB]; omega
theorem one_lenR (c : Ch) (h : MayB c) : (oneB c).length ≤ 4130 := by
  have := body_len c h
  have h9 := vint_len9 (bodyB c).length (by omega)
  simp [oneB, recB, seal_len]; omega
/-- The records of changes. -/
def encs (cs : List Ch) : List UInt8 := (cs.map oneB).flatten
theorem encs_snoc (cs : List Ch) (c : Ch) : encs (cs ++ [c]) = encs cs ++ oneB c := by simp [encs]
theorem encs_cons (cs : List Ch) (c : Ch) : encs (c :: cs) = oneB c ++ encs cs := by simp [encs]
theorem encs_len (cs : List Ch) (h : ∀ c ∈ cs, MayB c) : (encs cs).length ≤ cs.length * 4130 := by
  induction cs with
  | nil => simp [encs]
  | cons c cs ih =>
    rw [encs_cons]
    have := ih (fun x hx => h x (List.mem_cons_of_mem _ hx))
    have := one_lenR c (h c (by simp))
    simp; omega
theorem may_nums {c : Ch} (h : MayB c) : ∃ k n : Nat, c.kind = (k : Int) ∧ c.id = (n : Int) ∧ n ≤ 4611686018427387904 ∧ c.text.size ≤ 1000000000 := by
  obtain ⟨⟨h1, h2⟩, h3⟩ := h
  refine ⟨c.kind.toNat, c.id.toNat, ?_, ?_, ?_, ?_⟩
  · rcases h3 with h | h <;> omega
  · omega
  · omega
  · rcases h3 with h | h <;> omega
theorem write_may (c : Ch) (hc : MayB c) (w : World) :
    Calls Tryz.prog 69 #[.agg #[.int .i64 c.kind, .int .i64 c.id, .string c.text]] w fun e w' => (∃ q cap, e = .returned (.agg #[.int .i64 c.kind, .int .i64 c.id, .string c.text, .slice q (oneB c).length cap]) ∧ OwnK encB 5 1 w.heap.size w' q cap (oneB c)) ∧ Below w.heap.size w w' := by
  obtain ⟨k, n, h1, h2, h3, h4⟩ := may_nums hc
  exact write_any c k n h1 h2 h3 h4 w
theorem field52 (a b c d : Value) (w : World) : (Instr.field 113 (.agg #[a, b, c, d]) 1).run Tryz.prog w = .ok d w := by kernel_rfl
attribute [local go_sem] field52
/-- What Encode answers. -/
def EncR (B : Nat) (cs : List Ch) (e : Ending) (w' : World) : Prop :=
  ((∀ c ∈ cs, MayB c) ∧ ∃ q cap, e = .returned (.tuple #[.slice q (encs cs).length cap, .int .i64 0]) ∧ OwnK encB 5 1 B w' q cap (encs cs)) ∨
  ((¬ ∀ c ∈ cs, MayB c) ∧ e = .returned (.tuple #[.slice none 0 0, .int .i64 1]))
set_option maxHeartbeats 2000000 in
theorem encode_any (q : Option Addr) (cp : Nat) (cs : List Ch) (w : World) (h : SlOf encC 3 w q cp cs) (hn : cs.length ≤ 10000000000) :
    Calls Tryz.prog 35 #[.slice q cs.length cp] w fun e w' => EncR w.heap.size cs e w' ∧ Below w.heap.size w w' := by
  have hm := fun (c : Ch) (W : World) => may_any c W
  have hw := fun (c : Ch) (hc : MayB c) (W : World) => write_may c hc W
  go_enter Tryz.func35, Tryz.ntmps35
  go_wp2
  go_loopw [4, 9] (fun v i wr => ∃ (k N : Nat) (q' : Option Addr) (cap' : Nat), k ≤ cs.length ∧ i = .int .i64 (k : Int) ∧ v = .slice q' N cap' ∧ Hid (N = (encs (cs.take k)).length) ∧ Hid (OwnK encB 5 1 w.heap.size wr q' cap' (encs (cs.take k))) ∧ Hid (∀ c ∈ cs.take k, MayB c) ∧ Hid (Below w.heap.size w wr)) (fun _ i _ => cs.length - (intOf i).toNat)
  case atStart => exact ⟨0, 0, none, 0, Nat.zero_le _, rfl, rfl, hide (by simp [encs]), hide (OwnK.nil _ _), hide (by simp), hide (Below.refl _ _)⟩
  case round =>
    obtain ⟨k, N, q', cap', hk, rfl, rfl, HN, HO, HM, HB⟩ := hrel
    by_cases hlt : k < cs.length
    · obtain ⟨x, hx, _⟩ := get_at hlt
      obtain ⟨b, off, hq, hb, c0, c1, c2⟩ := changeAt (h.below (unhide HB)) hx
      subst hq
      have HT := hide (take_snoc_of hx)
      have HX := hide (List.mem_of_getElem? hx)
      have ki0 : (0 : Int) ≤ (k : Int) := by omega
      have ki1 : (k : Int) < (cs.length : Int) := by omega
      have hsB := (unhide HB).size
      have hb1 : Below wr.heap.size wr (wr.alloc (.cells #[.int .i64 x.kind, .int .i64 x.id, .string x.text] 63)) := (Below.refl _ _).alloc (Nat.le_refl _) _
      have hblk := heap_alloc_new wr (.cells #[.int .i64 x.kind, .int .i64 x.id, .string x.text] 63)
      have hm1 := hm x (wr.alloc (.cells #[.int .i64 x.kind, .int .i64 x.id, .string x.text] 63))
      have hcl : ∀ W : World, W.heap[wr.heap.size]? = some (.cells #[.int .i64 x.kind, .int .i64 x.id, .string x.text] 63 (0, 0)) → W.cell? ⟨wr.heap.size, 0, none⟩ = some (.int .i64 x.kind) ∧ W.cell? ⟨wr.heap.size, 1, none⟩ = some (.int .i64 x.id) ∧ W.cell? ⟨wr.heap.size, 2, none⟩ = some (.string x.text) := fun W h => by
        refine ⟨?_, ?_, ?_⟩ <;> (unfold World.cell?; rw [h]; rfl)
      have hnl := encs_len (cs.take k) (unhide HM)
      have hnl2 : (cs.take k).length ≤ k := List.length_take_le _ _
      by_cases hmay : MayB x
      · have hol := one_lenR x hmay
        have hw1 := hw x hmay
        rw [decide_eq_true hmay] at hm1
        have hN := unhide HN
        have hNb : N + (oneB x).length ≤ 50000000000000 := by omega
        have HB1 := hide hb1
        have HBLK := hide hblk
        have HM2 := hide (show ∀ c ∈ cs.take (k + 1), MayB c by
          rw [unhide HT]; intro c hc
          rcases List.mem_append.1 hc with h | h
          · exact unhide HM c h
          · obtain rfl : c = x := by simpa using h
            exact hmay)
        have hfd := fun (d : Value) (W : World) => field52 (.int .i64 x.kind) (.int .i64 x.id) (.string x.text) d W
        clear h hm hw hb1 hblk hnl hnl2 hN
        go_wp2_with (first
          | (go_at_call 68; refine hm1.mono ?_; rintro e w1 ⟨rfl, b1⟩; obtain ⟨d0, d1, d2⟩ := hcl w1 ((b1.block _ (by simp)).trans (unhide HBLK)); have B1 := hide (below_sub (unhide HB1) b1); clear b1)
          | (go_at_call 69; refine (hw1 _).mono ?_; rintro e w2 ⟨⟨q2, c2', rfl, o2⟩, b2⟩; have O2 := hide o2; have B2 := hide (below_sub (unhide B1) b2); clear o2 b2)
          | (at_builtin; refine wpList_app rowB rfl _ _ rfl w.heap.size q' cap' (encs (cs.take k)) q2 c2' (oneB x) N (oneB x).length (N + (oneB x).length) (unhide HN).symm rfl rfl rfl rfl ((unhide HO).below (unhide B2)) (unhide O2).ls.src (by unfold maxLen; omega) (by omega) (by have := (unhide B2).size; omega) ?_; intro q3 c3 w3 o3 b3 _ _; have O3 := hide o3; have B3 := hide ((unhide HB).trans (((unhide B2).mono hsB).trans b3)); clear o3 b3))
        go_roundw
        case rel => exact ⟨k + 1, N + (oneB x).length, q3, c3, by omega, by go_num, rfl, hide (by rw [unhide HT, encs_snoc, List.length_append, ← unhide HN]), hide (by rw [unhide HT, encs_snoc]; exact unhide O3), HM2, B3⟩
        case measure => simp [intOf]; omega
      · rw [decide_eq_false hmay] at hm1
        have HB1 := hide hb1
        have HNM := hide hmay
        clear h hm hw hb1 hblk hcl hnl hnl2 hmay
        go_wp2_with (go_at_call 68; refine hm1.mono ?_; rintro e w1 ⟨rfl, b1⟩; have B1 := hide (below_sub (unhide HB1) b1); clear b1)
        refine bodyPost_ret (v := .tuple #[.slice none 0 0, .int .i64 1]) (by simp [results, Tryz.f35, go_sem]) rfl ?_
        exact ⟨.inr ⟨fun hall => unhide HNM (hall x (unhide HX)), rfl⟩, (unhide HB).trans ((unhide B1).mono hsB)⟩
    · obtain rfl : k = cs.length := by omega
      have ki1 : ¬ (cs.length : Int) < (cs.length : Int) := by omega
      clear h hm hw
      go_wp2
      refine bodyPost_ret (v := .tuple #[.slice q' N cap', .int .i64 0]) (by simp [results, Tryz.f35, go_sem]) rfl ?_
      have h1 := unhide HN
      have h2 := unhide HO
      have h3 := unhide HM
      rw [List.take_length] at h1 h2 h3
      exact ⟨.inl ⟨h3, q', cap', by rw [h1], h2⟩, unhide HB⟩
end Go.Proofs.YtfigjfmldpfjkaaGreat

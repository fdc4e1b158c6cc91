/- The law ValueLeast at a list of no values: it returns true. -/
import Derived.Test.YtojeihchkdkkgaaDoorLeastWalk
namespace Go.Proofs.YtojeihchkdkkgaaDoor
open Go.RowKit

def noVals (_ : Nat) : Val := ⟨0, 0, ⟨#[]⟩⟩

set_option maxRecDepth 100000 in
set_option maxHeartbeats 1000000 in
theorem valueLeast_empty (a : Addr) (cap : Nat) (w : World) (hG : G w) :
    Calls Tryd.prog 8 #[.slice (some a) 0 cap] w fun e w' => e = .returned (.bool true) ∧ Below w.heap.size w w' := by
  obtain ⟨i0, hi, hz0, hz1, hz2⟩ := info_parts Tryd.info23
  have hfx := fixed_any w hG
  have hls := fun (g cap2 : Nat) (W : World) => least_zero (some ⟨g, 0, none⟩) cap2 W
  have hrl := fun (W : World) => refLeast_zero (some a) cap W
  go_enter Tryd.func8, Tryd.ntmps8
  go_wp2_with (first
    | (go_at_call 9; refine hfx.mono ?_; rintro e w0 ⟨rfl, b0⟩; have B0 := hide b0; clear b0)
    | (at_builtin; refine wpList_append_own _ rfl (.tmp 12) (.tmp 13) 38 rfl w0.heap.size 23 i0 (.agg #[.int .i64 0, .int .i64 0, .string ⟨#[]⟩]) 3 32 Tryd.underlying38 hi hz0 hz1 hz2 rfl (by decide) _ _ _ rfl (World.ownsRow_made (e := 23) (size := 3) w0 #[] 0 (Nat.le_refl _) (by unfold maxLen; omega) rfl) a 0 cap [] rfl rfl (fun j u h => by simp at h) (fun u h => by simp at h) (by unfold maxLen; omega) (by omega) (by simp) ?_; intro v1 w1 hown1 hgrow1 hn1; simp only [Nat.zero_add, List.nil_append] at hown1; have hs1 : w0.heap.size ≤ w1.heap.size := (by have := hgrow1.size; simp at this; omega))
    | (at_builtin; refine wpList_append_own _ rfl (.tmp 14) (.tmp 16) 38 rfl w0.heap.size 23 i0 (.agg #[.int .i64 0, .int .i64 0, .string ⟨#[]⟩]) 3 32 Tryd.underlying38 hi hz0 hz1 hz2 rfl (by decide) _ 0 [] rfl (hown1.alloc _) ⟨_, 0, none⟩ 1 1 [.int .i64 7, .int .i64 0, .string ⟨#[]⟩] rfl rfl seven_news seven_one (by unfold maxLen; omega) (by omega) (by simp; omega) ?_; intro v2 w2 hown2 hgrow2 hn2; obtain ⟨⟨g, cap2, rfl, hcap, hg, _, h7⟩, hbel⟩ := copied_of (n := 0) (f := noVals) hown1 hgrow1 hown2 hgrow2; have B2 := hide (below_sub (unhide B0) hbel); clear hown1 hgrow1 hn1 hown2 hgrow2 hn2 hbel; simp only [Nat.zero_mul] at h7; have hc2 : (0 : Int) ≤ (cap2 : Int) := (by omega))
    | (go_at_call 23; refine (hls g cap2 _).mono ?_; rintro e w3 ⟨rfl, b3⟩; have B3 := hide ((below_sub (unhide B2) b3).alloc (below_sub (unhide B2) b3).size (.cells #[.int .i64 0, .int .i64 0, .string ⟨#[]⟩] 23)); have K3 := hide (Box.new w3 ⟨0, 0, ⟨#[]⟩⟩ 23); have h7c := (b3.cell (p := ⟨g, 0, none⟩) hg).trans h7; have hg3 : g < w3.heap.size := Nat.lt_of_lt_of_le hg b3.size; clear b3)
    | (go_at_call 24; refine (hrl _).mono ?_; rintro e w4 ⟨rfl, b4⟩; have B4 := hide ((below_sub (unhide B3) b4).alloc (below_sub (unhide B3) b4).size (.cells #[.int .i64 0, .int .i64 0, .string ⟨#[]⟩] 23)); have K4 := hide ((unhide K3).below b4); obtain ⟨c0, c1, c2, _, z4⟩ := unhide K4; simp only at c0 c1 c2; have h7d : w4.cell? ⟨g, 0, none⟩ = some (.int .i64 7) := (by rw [b4.cell (by simp; omega)]; rw [World.cell?_alloc_past _ _ _ (by simpa using hg3)]; exact h7c); have hg4 : g < w4.heap.size := (by have := b4.size; simp at this; omega); clear b4))
  go_loop [50] (fun i => i = .int .i64 0) (fun _ => 0)
  case atStart => rfl
  case round =>
    subst hrel
    go_wp2
    go_ret
    exact ⟨rfl, unhide B4⟩

theorem seven_newsN {w : World} {t : TypeId} {N : Nat} (hN : w.heap.size = N) : ∀ (j : Nat) (u : Value), [Value.int .i64 7, Value.int .i64 0, Value.string ⟨#[]⟩][j]? = some u → (w.alloc (.cells #[.int .i64 7, .int .i64 0, .string ⟨#[]⟩] t)).cell? ((⟨N, 0, none⟩ : Addr).add j) = some u := by
  subst hN; exact seven_news
theorem copied_nil {w0 w2 : World} {v2 : Value} {o o2 : Obj} {c : Nat}
    (h2 : w2.ownsRow w0.heap.size 23 3 v2 1 [.int .i64 7, .int .i64 0, .string ⟨#[]⟩]) (g2 : ((w0.alloc o).alloc o2).grownBy w2 (Value.slice (some ⟨w0.heap.size, 0, none⟩) 0 c).ownBlock) : Copied w0 w2 v2 0 noVals := by
  have hb2 : Below w0.heap.size w0 w2 := (((Below.refl _ _).alloc (Nat.le_refl _) _).alloc (by simp) _).grown g2 (by simp; omega) (fun k hk => by simp [Value.ownBlock] at hk; omega)
  rcases h2.2 with ⟨_, h0⟩ | ⟨g, cap, cur, rfl, hg, hblk, hc, _, _, _⟩
  · omega
  · refine ⟨⟨g, cap, rfl, hc, (Array.getElem?_eq_some_iff.1 hblk).1, fun j hj => by omega, ?_⟩, hb2⟩
    rw [h2.cellAt (0 * 3) (by omega)]
    simp

set_option maxRecDepth 100000 in
set_option maxHeartbeats 1000000 in
theorem valueLeast_nil (w : World) (hG : G w) :
    Calls Tryd.prog 8 #[.slice none 0 0] w fun e w' => e = .returned (.bool true) ∧ Below w.heap.size w w' := by
  obtain ⟨i0, hi, hz0, hz1, hz2⟩ := info_parts Tryd.info23
  have hfx := fixed_any w hG
  have hls := fun (g cap2 : Nat) (W : World) => least_zero (some ⟨g, 0, none⟩) cap2 W
  have hrl := fun (W : World) => refLeast_zero none 0 W
  go_enter Tryd.func8, Tryd.ntmps8
  go_wp2_with (first
    | (go_at_call 9; refine hfx.mono ?_; rintro e w0 ⟨rfl, b0⟩; have B0 := hide b0; clear b0)
    | (at_builtin; refine wpList_append_own _ rfl (.tmp 14) (.tmp 16) 38 rfl w0.heap.size 23 i0 (.agg #[.int .i64 0, .int .i64 0, .string ⟨#[]⟩]) 3 32 Tryd.underlying38 hi hz0 hz1 hz2 rfl (by decide) _ 0 [] rfl ((World.ownsRow_made (e := 23) (size := 3) w0 #[] 0 (Nat.le_refl _) (by unfold maxLen; omega) rfl).alloc _) ⟨_, 0, none⟩ 1 1 [.int .i64 7, .int .i64 0, .string ⟨#[]⟩] rfl rfl (seven_newsN (by simp)) seven_one (by unfold maxLen; omega) (by omega) (by simp <;> omega) ?_; intro v2 w2 hown2 hgrow2 hn2; obtain ⟨⟨g, cap2, rfl, hcap, hg, _, h7⟩, hbel⟩ := copied_nil hown2 hgrow2; have B2 := hide (below_sub (unhide B0) hbel); clear hown2 hgrow2 hn2 hbel; simp only [Nat.zero_mul] at h7; have hc2 : (0 : Int) ≤ (cap2 : Int) := (by omega))
    | (go_at_call 23; refine (hls g cap2 _).mono ?_; rintro e w3 ⟨rfl, b3⟩; have B3 := hide ((below_sub (unhide B2) b3).alloc (below_sub (unhide B2) b3).size (.cells #[.int .i64 0, .int .i64 0, .string ⟨#[]⟩] 23)); have K3 := hide (Box.new w3 ⟨0, 0, ⟨#[]⟩⟩ 23); have h7c := (b3.cell (p := ⟨g, 0, none⟩) hg).trans h7; have hg3 : g < w3.heap.size := Nat.lt_of_lt_of_le hg b3.size; clear b3)
    | (go_at_call 24; refine (hrl _).mono ?_; rintro e w4 ⟨rfl, b4⟩; have B4 := hide ((below_sub (unhide B3) b4).alloc (below_sub (unhide B3) b4).size (.cells #[.int .i64 0, .int .i64 0, .string ⟨#[]⟩] 23)); have K4 := hide ((unhide K3).below b4); obtain ⟨c0, c1, c2, _, z4⟩ := unhide K4; simp only at c0 c1 c2; have h7d : w4.cell? ⟨g, 0, none⟩ = some (.int .i64 7) := (by rw [b4.cell (by simp; omega)]; rw [World.cell?_alloc_past _ _ _ (by simpa using hg3)]; exact h7c); have hg4 : g < w4.heap.size := (by have := b4.size; simp at this; omega); clear b4))
  go_loop [50] (fun i => i = .int .i64 0) (fun _ => 0)
  case atStart => rfl
  case round =>
    subst hrel
    go_wp2
    go_ret
    exact ⟨rfl, unhide B4⟩
end Go.Proofs.YtojeihchkdkkgaaDoor

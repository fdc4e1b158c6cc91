/- What the reference's Holds returns, for every predicate and every event. -/
import Derived.Test.YtkpdhkdegoincaaRefTold
namespace Go.Proofs.Ytkpdhkdegoincaa
open Go.RowKit Go.Sort

theorem pred_no_words {attr : ByteArray} {ints : List Int} {words : List ByteArray} {lo hi : Int} (h : predB 1 attr ints words lo hi = true) : words = [] := by
  cases words with
  | nil => rfl
  | cons a l => simp [predB, emptyB] at h
theorem pred_no_ints {attr : ByteArray} {ints : List Int} {words : List ByteArray} {lo hi : Int} (h : predB 2 attr ints words lo hi = true) : ints = [] := by
  cases ints with
  | nil => rfl
  | cons a l => simp [predB, emptyB] at h
theorem told_any (kind : Int) (attr : ByteArray) (qi : Option Addr) (ci : Nat) (ints : List Int) (qw : Option Addr) (cw : Nat) (words : List ByteArray) (lo hi : Int) (y : Pr) (w : World) (h1 : SlOf encI 1 w qi ci ints) (h2 : SlOf encS 1 w qw cw words) (l1 : ints.length ≤ 100000000000000) (l2 : words.length ≤ 100000000000000) (hpB : predB kind attr ints words lo hi = true) :
    Calls Try.prog 37 #[.agg #[.int .i64 kind, .string attr, .slice qi ints.length ci, .slice qw words.length cw, .int .i64 lo, .int .i64 hi], .agg #[.int .i64 y.kind, .int .i64 y.int, .string y.word]] w fun e w' => e = .returned (.bool (toldB kind ints words lo hi y)) ∧ Below w.heap.size w w' := by
  rcases pred_kinds hpB with hk | hk | hk | ⟨hk, x, rfl⟩
  · have := told_set kind attr qi ci ints qw cw words lo hi y w h1 h2 l1 l2 (by subst hk; rfl) (by subst hk; rfl)
    subst hk
    obtain rfl := pred_no_words hpB
    unfold toldB
    simpa [hasS] using this
  · have := told_set kind attr qi ci ints qw cw words lo hi y w h1 h2 l1 l2 (by subst hk; rfl) (by subst hk; rfl)
    subst hk
    obtain rfl := pred_no_ints hpB
    unfold toldB
    simpa [hasI] using this
  · have := told_k3 kind attr qi ci ints qw cw words lo hi y w h1 h2 hk
    unfold toldB; rwa [if_neg (by omega), if_neg (by omega), if_pos hk]
  · subst hk
    obtain ⟨b, off, rfl, hlt, hc⟩ := wordsAt h2 (j := 0) rfl
    exact told_k4 attr qi ci ints b off cw x lo hi y w h1 h2 hlt hc
set_option maxRecDepth 100000 in
set_option maxHeartbeats 4000000 in
theorem refHolds_any (kind : Int) (attr : ByteArray) (qi : Option Addr) (ci : Nat) (ints : List Int) (qw : Option Addr) (cw : Nat) (words : List ByteArray) (lo hi : Int) (qe : Option Addr) (ce : Nat) (ev : List Pr) (w : World) (h1 : SlOf encI 1 w qi ci ints) (h2 : SlOf encS 1 w qw cw words) (l1 : ints.length ≤ 100000000000000) (l2 : words.length ≤ 100000000000000) (h3 : SlOf encP 4 w qe ce ev) (l3 : ev.length ≤ 100000000000000) :
    Calls Try.prog 11 #[.agg #[.int .i64 kind, .string attr, .slice qi ints.length ci, .slice qw words.length cw, .int .i64 lo, .int .i64 hi], .slice qe ev.length ce] w fun e w' => e = .returned (.bool (holdsB kind attr ints words lo hi ev)) ∧ Below w.heap.size w w' := by
  obtain ⟨X, HX⟩ : ∃ X, w.alloc (.cells #[.int .i64 kind, .string attr, .slice qi ints.length ci, .slice qw words.length cw, .int .i64 lo, .int .i64 hi] 29) = X := ⟨_, rfl⟩
  have hX0 : X.heap[w.heap.size]? = some (.cells #[.int .i64 kind, .string attr, .slice qi ints.length ci, .slice qw words.length cw, .int .i64 lo, .int .i64 hi] 29 (0, 0)) := by rw [← HX]; exact box_nw _ _
  have hwX : Below w.heap.size w X := by rw [← HX]; exact (Below.refl _ _).alloc (Nat.le_refl _) _
  obtain ⟨x0, x1, x2, x3, x4, x5⟩ := of6' hX0
  have hz0 := heap_lt hX0
  have hg := refGet_any qe ce ev attr X (by omega) (h3.below hwX)
  have hp := fun (W : World) (hb : Below w.heap.size w W) => refPred_any kind attr qi ci ints qw cw words lo hi W (h1.below hb) (h2.below hb) (by omega) (by omega)
  obtain ⟨ky, ny, sy, th, hgv, hB⟩ : ∃ ky ny sy th, getV (getP attr ev) = .tuple #[.agg #[.int .i64 ky, .int .i64 ny, .string sy], .bool th] ∧ holdsB kind attr ints words lo hi ev = (predB kind attr ints words lo hi && (th && (decide (chkV ky ny sy = 0) && toldB kind ints words lo hi ⟨⟨#[]⟩, ky, ny, sy⟩))) := by
    cases hgt : getP attr ev with
    | none => exact ⟨0, 0, ⟨#[]⟩, false, rfl, by simp [holdsB, hgt]⟩
    | some y => exact ⟨y.kind, y.int, y.word, true, rfl, by simp [holdsB, hgt, toldB]⟩
  rw [hgv] at hg
  have ht := fun (W : World) (hb : Below w.heap.size w W) (hpB : predB kind attr ints words lo hi = true) => told_any kind attr qi ci ints qw cw words lo hi ⟨⟨#[]⟩, ky, ny, sy⟩ W (h1.below hb) (h2.below hb) l1 l2 hpB
  have hc := fun (W : World) => refCheck_any ky ny sy W
  rw [hB]
  have HT := hide ht
  have HX0 := hide hX0
  have HWX := hide hwX
  clear h1 h2 h3 hX0 hwX ht hgv hB
  cases hpB : predB kind attr ints words lo hi with
  | false => 
    go_enter Try.func11, Try.ntmps11
    go_wp2_with (first
      | (go_at_call 34; refine hg.mono ?_; rintro e w1 ⟨rfl, b1⟩; simp only; have hh := (b1.block _ hz0).trans (unhide HX0); have HH1 := hide hh; have B1 := hide (below_sub (unhide HWX) b1); obtain ⟨c0, c1, c2, c3, c4, c5⟩ := of6' hh; have sz1 := heap_lt hh; clear b1 hh x0 x1 x2 x3 x4 x5)
      | (go_at_call 35; refine name_world ?_; intro Y hY; have bx : Box Y w1.heap.size (ky, ny, sy) := (by rw [hY]; exact Box.new w1 (ky, ny, sy) 48); have bY : Below w1.heap.size w1 Y := (by rw [hY]; exact (Below.refl _ _).alloc (Nat.le_refl _) _); clear hY; refine (hp Y (below_sub (unhide B1) bY)).mono ?_; rw [hpB]; rintro e w2 ⟨rfl, b2⟩; have hh := ((below_sub bY b2).block _ (heap_lt (unhide HH1))).trans (unhide HH1); have HH2 := hide hh; have B2 := hide (below_sub (unhide B1) (below_sub bY b2)); have BX2 := hide (bx.below b2); obtain ⟨d0, d1, d2, d3, d4, d5⟩ := of6' hh; obtain ⟨v0, v1, v2, _, _⟩ := unhide BX2; simp only at v0 v1 v2; clear b2 hh bx bY c0 c1 c2 c3 c4 c5))
    go_ret
    exact ⟨ret_bool (by simp), unhide B2⟩
  | true =>
    cases th with
    | false => 
      go_enter Try.func11, Try.ntmps11
      go_wp2_with (first
        | (go_at_call 34; refine hg.mono ?_; rintro e w1 ⟨rfl, b1⟩; simp only; have hh := (b1.block _ hz0).trans (unhide HX0); have HH1 := hide hh; have B1 := hide (below_sub (unhide HWX) b1); obtain ⟨c0, c1, c2, c3, c4, c5⟩ := of6' hh; have sz1 := heap_lt hh; clear b1 hh x0 x1 x2 x3 x4 x5)
        | (go_at_call 35; refine name_world ?_; intro Y hY; have bx : Box Y w1.heap.size (ky, ny, sy) := (by rw [hY]; exact Box.new w1 (ky, ny, sy) 48); have bY : Below w1.heap.size w1 Y := (by rw [hY]; exact (Below.refl _ _).alloc (Nat.le_refl _) _); clear hY; refine (hp Y (below_sub (unhide B1) bY)).mono ?_; rw [hpB]; rintro e w2 ⟨rfl, b2⟩; have hh := ((below_sub bY b2).block _ (heap_lt (unhide HH1))).trans (unhide HH1); have HH2 := hide hh; have B2 := hide (below_sub (unhide B1) (below_sub bY b2)); have BX2 := hide (bx.below b2); obtain ⟨d0, d1, d2, d3, d4, d5⟩ := of6' hh; obtain ⟨v0, v1, v2, _, _⟩ := unhide BX2; simp only at v0 v1 v2; clear b2 hh bx bY c0 c1 c2 c3 c4 c5))
      go_ret
      exact ⟨ret_bool (by simp), unhide B2⟩
    | true =>
      rcases chk_or ky ny sy with hck | hck
      · have hn : decide (chkV ky ny sy = 0) = true := by rw [hck]; rfl
        rw [hn]
        clear hn
        obtain ⟨tv, htv⟩ : ∃ tv, toldB kind ints words lo hi ⟨⟨#[]⟩, ky, ny, sy⟩ = tv := ⟨_, rfl⟩
        rw [htv]
        have HTV := hide htv
        clear htv
        go_enter Try.func11, Try.ntmps11
        go_wp2_with (first
          | (go_at_call 34; refine hg.mono ?_; rintro e w1 ⟨rfl, b1⟩; simp only; have hh := (b1.block _ hz0).trans (unhide HX0); have HH1 := hide hh; have B1 := hide (below_sub (unhide HWX) b1); obtain ⟨c0, c1, c2, c3, c4, c5⟩ := of6' hh; have sz1 := heap_lt hh; clear b1 hh x0 x1 x2 x3 x4 x5)
          | (go_at_call 35; refine name_world ?_; intro Y hY; have bx : Box Y w1.heap.size (ky, ny, sy) := (by rw [hY]; exact Box.new w1 (ky, ny, sy) 48); have bY : Below w1.heap.size w1 Y := (by rw [hY]; exact (Below.refl _ _).alloc (Nat.le_refl _) _); clear hY; refine (hp Y (below_sub (unhide B1) bY)).mono ?_; rw [hpB]; rintro e w2 ⟨rfl, b2⟩; have hh := ((below_sub bY b2).block _ (heap_lt (unhide HH1))).trans (unhide HH1); have HH2 := hide hh; have B2 := hide (below_sub (unhide B1) (below_sub bY b2)); have BX2 := hide (bx.below b2); obtain ⟨d0, d1, d2, d3, d4, d5⟩ := of6' hh; obtain ⟨v0, v1, v2, _, _⟩ := unhide BX2; simp only at v0 v1 v2; clear b2 hh bx bY c0 c1 c2 c3 c4 c5)
          | (go_at_call 36; refine (hc _).mono ?_; rw [hck]; rintro e w3 ⟨rfl, b3⟩; have hh := (b3.block _ (heap_lt (unhide HH2))).trans (unhide HH2); have HH3 := hide hh; have B3 := hide (below_sub (unhide B2) b3); have BX3 := hide ((unhide BX2).below b3); obtain ⟨e0, e1, e2, e3, e4, e5⟩ := of6' hh; clear v0 v1 v2; obtain ⟨v0, v1, v2, _, _⟩ := unhide BX3; simp only at v0 v1 v2; clear b3 hh d0 d1 d2 d3 d4 d5)
          | (go_at_call 37; refine ((unhide HT) _ (unhide B3) hpB).mono ?_; rw [unhide HTV]; rintro e w4 ⟨rfl, b4⟩; have B4 := hide (below_sub (unhide B3) b4); clear b4))
        go_ret
        exact ⟨ret_bool (by simp), unhide B4⟩
      · have hn : decide (chkV ky ny sy = 0) = false := by rw [hck]; rfl
        rw [hn]
        clear hn
        go_enter Try.func11, Try.ntmps11
        go_wp2_with (first
          | (go_at_call 34; refine hg.mono ?_; rintro e w1 ⟨rfl, b1⟩; simp only; have hh := (b1.block _ hz0).trans (unhide HX0); have HH1 := hide hh; have B1 := hide (below_sub (unhide HWX) b1); obtain ⟨c0, c1, c2, c3, c4, c5⟩ := of6' hh; have sz1 := heap_lt hh; clear b1 hh x0 x1 x2 x3 x4 x5)
          | (go_at_call 35; refine name_world ?_; intro Y hY; have bx : Box Y w1.heap.size (ky, ny, sy) := (by rw [hY]; exact Box.new w1 (ky, ny, sy) 48); have bY : Below w1.heap.size w1 Y := (by rw [hY]; exact (Below.refl _ _).alloc (Nat.le_refl _) _); clear hY; refine (hp Y (below_sub (unhide B1) bY)).mono ?_; rw [hpB]; rintro e w2 ⟨rfl, b2⟩; have hh := ((below_sub bY b2).block _ (heap_lt (unhide HH1))).trans (unhide HH1); have HH2 := hide hh; have B2 := hide (below_sub (unhide B1) (below_sub bY b2)); have BX2 := hide (bx.below b2); obtain ⟨d0, d1, d2, d3, d4, d5⟩ := of6' hh; obtain ⟨v0, v1, v2, _, _⟩ := unhide BX2; simp only at v0 v1 v2; clear b2 hh bx bY c0 c1 c2 c3 c4 c5)
          | (go_at_call 36; refine (hc _).mono ?_; rw [hck]; rintro e w3 ⟨rfl, b3⟩; have hh := (b3.block _ (heap_lt (unhide HH2))).trans (unhide HH2); have HH3 := hide hh; have B3 := hide (below_sub (unhide B2) b3); have BX3 := hide ((unhide BX2).below b3); obtain ⟨e0, e1, e2, e3, e4, e5⟩ := of6' hh; clear v0 v1 v2; obtain ⟨v0, v1, v2, _, _⟩ := unhide BX3; simp only at v0 v1 v2; clear b3 hh d0 d1 d2 d3 d4 d5))
        go_ret
        exact ⟨ret_bool (by simp), unhide B3⟩
end Go.Proofs.Ytkpdhkdegoincaa

/- The law SchemaPlays returns true at every list of attributes, every list of pairs and every name. -/
import Derived.Test.YtojeihchkdkkgabMem
namespace Go.Proofs.Ytojeihchkdkkgab
open Go.RowKit Go.Sort Go.Shelf

/-- The attribute that marks the spare room. -/
def spA : ByteArray × Int := (⟨#[]⟩, 77)
theorem OwnA_some {B : Nat} {w : World} {q : Option Addr} {cap : Nat} {l : List (ByteArray × Int)} (h : OwnK encA 26 2 B w q cap l) (hl : 0 < l.length) : ∃ g, q = some ⟨g, 0, none⟩ ∧ l.length ≤ cap := by
  rcases h.newA with ⟨_, rfl, _⟩ | ⟨g, h1, _, _, _, h2, _⟩
  · simp at hl
  · exact ⟨g, h1, h2⟩
theorem refNew_big (p : Option Addr) (cap : Nat) (l : List (ByteArray × Int)) (w : World) (hl : l.length * 24 ≤ 140737488355328) (hA : AtsOf w p l) (h : 64 < l.length) :
    Calls Try.prog 10 #[.slice p l.length cap] w fun e w' => e = .returned (.tuple #[.slice none 0 0, .int .i64 2]) ∧ Below w.heap.size w w' := by
  refine (refNew_any p cap l w hl hA).mono fun e w' ⟨hr, hb⟩ => ⟨?_, hb⟩
  rcases hr with ⟨_, h1⟩ | ⟨h1, _⟩ | ⟨h1, _⟩
  · exact h1
  · omega
  · omega
theorem refNew_bad (p : Option Addr) (cap : Nat) (l : List (ByteArray × Int)) (w : World) (hl : l.length * 24 ≤ 140737488355328) (hA : AtsOf w p l) (h : l.length ≤ 64) (h2 : ¬ (l.all atOk = true ∧ (l.map nmA).Nodup)) :
    Calls Try.prog 10 #[.slice p l.length cap] w fun e w' => e = .returned (.tuple #[.slice none 0 0, .int .i64 1]) ∧ Below w.heap.size w w' := by
  refine (refNew_any p cap l w hl hA).mono fun e w' ⟨hr, hb⟩ => ⟨?_, hb⟩
  rcases hr with ⟨h1, _⟩ | ⟨_, _, h1⟩ | ⟨_, h3, h4, _⟩
  · omega
  · exact h1
  · exact absurd ⟨h3, h4⟩ h2
theorem refNew_good (ls : List (ByteArray × Int)) (p : Option Addr) (cap : Nat) (l : List (ByteArray × Int)) (w : World) (hl : l.length * 24 ≤ 140737488355328) (hA : AtsOf w p l) (h : l.length ≤ 64) (h1 : l.all atOk = true) (hs : Strict nmA ls) (hpm : ls.Perm l) :
    Calls Try.prog 10 #[.slice p l.length cap] w fun e w' => (∃ q cap', e = .returned (.tuple #[.slice q ls.length cap', .int .i64 0]) ∧ NewA w.heap.size w' q cap' ls) ∧ Below w.heap.size w w' := by
  have h2 := strict_nodup hs hpm
  refine (refNew_any p cap l w hl hA).mono fun e w' ⟨hr, hb⟩ => ⟨?_, hb⟩
  rcases hr with ⟨h3, _⟩ | ⟨_, h3, _⟩ | ⟨_, _, _, q, cap', l', he, hp', hs', hN⟩
  · omega
  · exact absurd ⟨h1, h2⟩ h3
  · obtain rfl := strict_one hs' hs (hp'.trans hpm.symm)
    exact ⟨q, cap', he, hN⟩
theorem new_any2 (p : Option Addr) (cap : Nat) (l : List (ByteArray × Int)) (w : World) (hl : l.length * 24 ≤ 140737488355328) (hp : p = none → l.length = 0 ∧ cap = 0) (hA : AtsOf w p l) (h : l.length ≤ 64) (h1 : l.all atOk = true) (h2 : (l.map nmA).Nodup) :
    Calls Try.prog 9 #[.slice p l.length cap] w fun e w' => (∃ b ls, e = .returned (.tuple #[.pointer (some ⟨b, 0, none⟩), .int .i64 0]) ∧ ls.Perm l ∧ Strict nmA ls ∧ SchNew w.heap.size w' b ls) ∧ Below w.heap.size w w' := by
  refine (new_any p cap l w hl hp hA).mono fun e w' ⟨hr, hb⟩ => ⟨?_, hb⟩
  rcases hr with ⟨h3, _⟩ | ⟨_, h3, _⟩ | ⟨_, _, _, b, l', he, hp', hs', hN⟩
  · omega
  · exact absurd ⟨h1, h2⟩ h3
  · exact ⟨b, l', he, hp', hs', hN⟩
theorem cell77 {w : World} {g : Nat} {l : List (ByteArray × Int)} (h : AtsAt w g 0 (l ++ [spA])) : w.cell? ⟨g, l.length * 2 + 1, none⟩ = some (.int .i64 77) := by
  have := (h l.length spA (by simp)).2
  simpa [spA] using this
theorem AtsAt.first {w : World} {g : Nat} {l : List (ByteArray × Int)} {x : ByteArray × Int} (h : AtsAt w g 0 (l ++ [x])) (hg : g < w.heap.size) : AtsOf w (some ⟨g, 0, none⟩) l := fun _ => ⟨g, 0, rfl, hg, by have := h.take l.length; rwa [List.take_left] at this⟩
/-- The block g has n cells that may be written. -/
def InRow (w : World) (g n : Nat) : Prop := g < w.heap.size ∧ ∀ t, t < n → (∃ v, w.cell? ⟨g, t, none⟩ = some v) ∧ w.frozen? ⟨g, t, none⟩ = false
theorem InRow.set {w : World} {g n : Nat} (h : InRow w g n) (o : Nat) (v : Value) : InRow (w.setCell ⟨g, o, none⟩ v) g n := by
  refine ⟨by simpa using h.1, fun t ht => ⟨?_, by simpa using (h.2 t ht).2⟩⟩
  obtain ⟨u, hu⟩ := (h.2 t ht).1
  exact cell?_setCell_some hu
theorem grown_set {w w' : World} {g : Nat} (h : w.grownBy w' (some g)) (o : Nat) (v : Value) : w.grownBy (w'.setCell ⟨g, o, none⟩ v) (some g) := by
  have hb := (Below.refl 0 w').setCell (p := ⟨g, o, none⟩) (Nat.zero_le _) v
  exact ⟨hb.os.trans h.os, hb.tape.trans h.tape, hb.output.trans h.output, Nat.le_trans h.size hb.size, fun k hk hne => (Below.heap_setCell _ _ _ _ (fun e => hne (by rw [e]))).trans (h.block k hk hne)⟩
theorem NewA.grown {B : Nat} {w w' : World} {q : Option Addr} {cap g0 : Nat} {l : List (ByteArray × Int)} (h : NewA B w q cap l) (hb : w.grownBy w' (some g0)) (hg0 : g0 < B) : NewA B w' q cap l := by
  rcases h with h | ⟨g, rfl, hB, hg, hH, hc⟩
  · exact Or.inl h
  · have hne : some g ≠ some g0 := fun e => by cases e; omega
    have hblk := hb.block g hg hne
    exact Or.inr ⟨g, rfl, hB, Nat.lt_of_lt_of_le hg hb.size, fun t ht => ⟨(World.cell?_of_block hblk).trans (hH t ht).1, (World.frozen?_of_block hblk).trans (hH t ht).2⟩, hc⟩
theorem SchNew.grown {B : Nat} {w w' : World} {b g0 : Nat} {l : List (ByteArray × Int)} (h : SchNew B w b l) (hb : w.grownBy w' (some g0)) (hg0 : g0 < B) : SchNew B w' b l := by
  obtain ⟨h0, h1, q, cap, hc, hN⟩ := h
  have hne : some b ≠ some g0 := fun e => by cases e; omega
  exact ⟨h0, Nat.lt_of_lt_of_le h1 hb.size, q, cap, (World.cell?_of_block (hb.block b h1 hne)).trans hc, hN.grown hb hg0⟩
theorem PrsAt.first {w : World} {g : Nat} {l : List (ByteArray × Int × Int × ByteArray)} {x : ByteArray × Int × Int × ByteArray} (h : PrsOf w (some ⟨g, 0, none⟩) (l ++ [x])) : PrsOf w (some ⟨g, 0, none⟩) l := fun _ => by
  obtain ⟨b, off, hb, hg, hA⟩ := h (by simp)
  exact ⟨b, off, hb, hg, by have := hA.take l.length; rwa [List.take_left] at this⟩
theorem refEvent_bad (pa : Option Addr) (ca : Nat) (al : List (ByteArray × Int)) (p : Option Addr) (cap : Nat) (l : List (ByteArray × Int × Int × ByteArray)) (w : World) (ha : al.length ≤ 140737488355328) (hl : l.length * 48 ≤ 140737488355328) (hsz : ∀ x ∈ l, x.1.size ≤ maxLen) (hA : AtsOf w pa al) (hP : PrsOf w p l) (h : ¬ ((∀ x ∈ l, fit2 al x) ∧ (l.map nmP).Nodup)) :
    Calls Try.prog 14 #[.slice pa al.length ca, .slice p l.length cap] w fun e w' => e = .returned (.tuple #[.slice none 0 0, .int .i64 12]) ∧ Below w.heap.size w w' := by
  refine (refEvent_any pa ca al p cap l w ha hl hsz hA hP).mono fun e w' ⟨hr, hb⟩ => ⟨?_, hb⟩
  rcases hr with ⟨_, h1⟩ | ⟨h1, h2, _⟩
  · exact h1
  · exact absurd ⟨h1, h2⟩ h
theorem refEvent_good (es : List (ByteArray × Int × Int × ByteArray)) (pa : Option Addr) (ca : Nat) (al : List (ByteArray × Int)) (p : Option Addr) (cap : Nat) (l : List (ByteArray × Int × Int × ByteArray)) (w : World) (ha : al.length ≤ 140737488355328) (hl : l.length * 48 ≤ 140737488355328) (hsz : ∀ x ∈ l, x.1.size ≤ maxLen) (hA : AtsOf w pa al) (hP : PrsOf w p l) (h : ∀ x ∈ l, fit2 al x) (hs : Strict nmP es) (hpm : es.Perm l) :
    Calls Try.prog 14 #[.slice pa al.length ca, .slice p l.length cap] w fun e w' => (∃ q cap', e = .returned (.tuple #[.slice q es.length cap', .int .i64 0]) ∧ NewP w.heap.size w' q cap' es) ∧ Below w.heap.size w w' := by
  have h2 := strict_nodup hs hpm
  refine (refEvent_any pa ca al p cap l w ha hl hsz hA hP).mono fun e w' ⟨hr, hb⟩ => ⟨?_, hb⟩
  rcases hr with ⟨h3, _⟩ | ⟨_, _, q, cap', l', he, hp', hs', hN⟩
  · exact absurd ⟨h, h2⟩ h3
  · obtain rfl := strict_one hs' hs (hp'.trans hpm.symm)
    exact ⟨q, cap', he, hN⟩
set_option maxHeartbeats 4000000 in
set_option maxRecDepth 100000 in
theorem schemaPlays_any (pp0 : Option Addr) (cap0 : Nat) (l0 : List (ByteArray × Int)) (pp1 : Option Addr) (cap1 : Nat) (l1 : List (ByteArray × Int × Int × ByteArray)) (s2 : ByteArray) (W : World) (hl0 : l0.length * 24 + 24 ≤ 140737488355328) (hl1 : l1.length * 48 + 48 ≤ 140737488355328) (hn0 : pp0 = none → l0.length = 0 ∧ cap0 = 0) (hn1 : pp1 = none → l1.length = 0 ∧ cap1 = 0) (hs1 : ∀ x ∈ l1, x.1.size ≤ maxLen) (hP0 : AtsOf W pp0 l0) (hP1 : PrsOf W pp1 l1) :
    Calls Try.prog 3 #[.slice pp0 l0.length cap0, .slice pp1 l1.length cap1, .string s2] W fun e w' => e = .returned (.bool true) ∧ Below W.heap.size W w' := by
  have mixed : Try.prog.follows .mixedOrders = true := by kernel_rfl
  have hfx := fixed_any W
  have HP0 := hide hP0
  have HP1 := hide hP1
  have Hn0 := hide hn0
  have Hn1 := hide hn1
  have Hs1 := hide hs1
  have l00 : (0 : Int) ≤ (l0.length : Int) := by omega
  clear hP0 hP1 hn0 hn1 hs1
  go_enter Try.func3, Try.ntmps3
  go_wp2_with (first
    | (go_at_call 8; refine hfx.mono ?_; rintro e w1 ⟨rfl, b1⟩; have B1 := hide b1; clear b1)
    | (at_builtin; refine wpList_app rowA rfl _ _ rfl w1.heap.size q2 cp2 l0 (some ⟨w2.heap.size, 0, none⟩) 1 [spA] l0.length 1 (l0.length + 1) rfl rfl rfl rfl rfl ((unhide Hown2).below ((Below.refl _ _).alloc (Nat.le_refl _) _)) (SrcK.ofA (fun h => by cases h) (AtsOf.one (by simp) (by go_simp; rfl) (by go_simp; rfl))) (by unfold maxLen; omega) (by omega) (by have := (unhide B2).size; simp; omega) ?_; intro q3 cp3 w3 hown3 hb3 _ _; have Hown3 := hide hown3; have B3 := hide (((unhide B2).alloc (unhide B2).size (.cells #[.string ⟨#[]⟩, .int .i64 77] 26)).trans hb3); obtain ⟨g3, rfl, hc3⟩ := OwnA_some hown3 (by simp); have c3 : (l0.length : Int) + 1 ≤ (cp3 : Int) := (by simp at hc3; omega); have c3' : (l0.length : Int) ≤ (cp3 : Int) := (by omega); clear hown3 hb3 hc3)
    | (at_builtin; refine wpList_app rowA rfl _ _ rfl w1.heap.size (some ⟨w1.heap.size, 0, none⟩) 0 [] pp0 cap0 l0 0 l0.length l0.length rfl rfl (by simp) rfl rfl (OwnK.made _ _ (Nat.le_refl _)) (SrcK.ofA (unhide Hn0) (((unhide HP0).below (unhide B1)).below ((Below.refl _ _).alloc (Nat.le_refl _) _))) (by unfold maxLen; omega) (by omega) (by simp) ?_; intro q2 cp2 w2 hown2 hb2 _ _; have Hown2 := hide hown2; have B2 := hide (((Below.refl w1.heap.size w1).alloc (Nat.le_refl _) (.cells #[] 26)).trans hb2); clear hown2 hb2))
  have hIn := (unhide Hown3).newA.of (by simp)
  obtain ⟨bI, oI, hbI, hltI, hAI⟩ := hIn
  cases hbI
  have HIn := hide hAI
  have Hg3 := hide hltI
  have HW3 := hide (below_sub (unhide B1) (unhide B3))
  have hI3 : AtsOf w3 (some ⟨g3, 0, none⟩) l0 := fun _ => ⟨g3, 0, rfl, hltI, by have := hAI.take l0.length; rwa [List.take_left] at this⟩
  have hP3 := (unhide HP0).below (unhide HW3)
  have l01 : (l0.length : Int) < (l0.length : Int) + 1 := by omega
  have e11 : ∀ args w, (callFunc 11 args).run Try.prog w = .ok (.enter 11 args) w := enters_of Try.func11 (by kernel_rfl) rfl
  clear hAI hltI hfx
  by_cases h64 : 64 < l0.length
  · have ha := new_big (some ⟨g3, 0, none⟩) cp3 l0 w3 (by omega) (fun h => by cases h) hI3 h64
    have hb := fun (V : World) (hv : Below w3.heap.size w3 V) => refNew_big pp0 cap0 l0 V (by omega) (hP3.below hv) h64
    clear hI3 hP3 h64
    go_wp2_with (first
      | (go_at_call 9; refine ha.mono ?_; rintro e w4 ⟨rfl, b4⟩; have B34 := hide b4; clear b4)
      | (go_at_call 10; refine (hb _ (unhide B34)).mono ?_; rintro e w5 ⟨rfl, b5⟩; have B35 := hide (below_sub (unhide B34) b5); clear b5)
        | (go_at_call 11; refine (sameA_eq (some ⟨g3, 0, none⟩) pp0 cp3 cap0 l0 w5 (by omega) (AtsAt.first ((unhide HIn).below (unhide B35) (unhide Hg3)) (Nat.lt_of_lt_of_le (unhide Hg3) (unhide B35).size)) ((unhide HP0).below (below_sub (unhide HW3) (unhide B35)))).mono ?_; rintro e w6 ⟨rfl, b6⟩; have B36 := hide (below_sub (unhide B35) b6); have B56 := hide b6; have z1 := cell77 ((unhide HIn).below (below_sub (unhide B35) b6) (unhide Hg3)); clear b6))
    go_ret
    exact ⟨rfl, below_sub (unhide HW3) (unhide B36)⟩
  by_cases hok : ¬ (l0.all atOk = true ∧ (l0.map nmA).Nodup)
  · have ha := new_bad (some ⟨g3, 0, none⟩) cp3 l0 w3 (by omega) (fun h => by cases h) hI3 (by omega) hok
    have hb := fun (V : World) (hv : Below w3.heap.size w3 V) => refNew_bad pp0 cap0 l0 V (by omega) (hP3.below hv) (by omega) hok
    clear hI3 hP3 h64 hok
    go_wp2_with (first
      | (go_at_call 9; refine ha.mono ?_; rintro e w4 ⟨rfl, b4⟩; have B34 := hide b4; clear b4)
      | (go_at_call 10; refine (hb _ (unhide B34)).mono ?_; rintro e w5 ⟨rfl, b5⟩; have B35 := hide (below_sub (unhide B34) b5); clear b5)
        | (go_at_call 11; refine (sameA_eq (some ⟨g3, 0, none⟩) pp0 cp3 cap0 l0 w5 (by omega) (AtsAt.first ((unhide HIn).below (unhide B35) (unhide Hg3)) (Nat.lt_of_lt_of_le (unhide Hg3) (unhide B35).size)) ((unhide HP0).below (below_sub (unhide HW3) (unhide B35)))).mono ?_; rintro e w6 ⟨rfl, b6⟩; have B36 := hide (below_sub (unhide B35) b6); have B56 := hide b6; have z1 := cell77 ((unhide HIn).below (below_sub (unhide B35) b6) (unhide Hg3)); clear b6))
    go_ret
    exact ⟨rfl, below_sub (unhide HW3) (unhide B36)⟩
  obtain ⟨hok1, hok2⟩ := Classical.byContradiction hok
  have ha := new_any2 (some ⟨g3, 0, none⟩) cp3 l0 w3 (by omega) (fun h => by cases h) hI3 (by omega) hok1 hok2
  have hb := fun (ls : List (ByteArray × Int)) (hs : Strict nmA ls) (hp : ls.Perm l0) (V : World) (hv : Below w3.heap.size w3 V) => refNew_good ls pp0 cap0 l0 V (by omega) (hP3.below hv) (by omega) hok1 hs hp
  have H64 : Hid (l0.length ≤ 64) := hide (by omega)
  have Hok1 := hide hok1
  clear hI3 hP3 h64 hok hok1
  go_wp2_with (first
    | (go_at_call 9; refine ha.mono ?_; rintro e w4 ⟨⟨b, ls, rfl, hpm, hst, hN⟩, b4⟩; have B34 := hide b4; have Hpm := hide hpm; have Hst := hide hst; have HN4 := hide hN; clear b4 hpm hst hN)
    | (go_at_call 10; refine (hb ls (unhide Hst) (unhide Hpm) _ (unhide B34)).mono ?_; rintro e w5 ⟨⟨q5, cp5, rfl, hN5⟩, b5⟩; have B35 := hide (below_sub (unhide B34) b5); have HN5 := hide hN5; have HN45 := hide ((unhide HN4).below b5); clear b5 hN5)
      | (go_at_call 11; refine (sameA_eq (some ⟨g3, 0, none⟩) pp0 cp3 cap0 l0 w5 (by omega) (AtsAt.first ((unhide HIn).below (unhide B35) (unhide Hg3)) (Nat.lt_of_lt_of_le (unhide Hg3) (unhide B35).size)) ((unhide HP0).below (below_sub (unhide HW3) (unhide B35)))).mono ?_; rintro e w6 ⟨rfl, b6⟩; have B36 := hide (below_sub (unhide B35) b6); have B56 := hide b6; have z1 := cell77 ((unhide HIn).below (below_sub (unhide B35) b6) (unhide Hg3)); clear b6))
  have Hrow6 : Hid (InRow w6 g3 ((l0.length + 1) * 2)) := hide (by
    rcases (unhide Hown3).newA.below (unhide B36) with ⟨h, _⟩ | ⟨g, h, _, hg, hH, _⟩
    · cases h
    · cases h
      refine ⟨hg, fun t ht => ?_⟩
      have := hH t (by simpa using ht)
      rw [Nat.zero_add] at this
      exact ⟨⟨_, this.1⟩, this.2⟩)
  have HgW : Hid (w1.heap.size ≤ g3 ∧ g3 < w3.heap.size) := hide (by
    rcases (unhide Hown3).newA with ⟨h, _⟩ | ⟨g, h, hB, hg, _⟩
    · cases h
    · cases h; exact ⟨hB, hg⟩)
  clear ha hb z1
  go_loopw [71] (fun i wr => ∃ k : Nat, k ≤ l0.length + 1 ∧ i = .int .i64 k ∧ Hid (InRow wr g3 ((l0.length + 1) * 2)) ∧ Hid (w6.grownBy wr (some g3))) (fun i _ => l0.length + 1 - (intOf i).toNat)
  case atStart => exact ⟨0, by omega, rfl, Hrow6, hide ⟨rfl, rfl, rfl, Nat.le_refl _, fun _ _ _ => rfl⟩⟩
  case round =>
    obtain ⟨k, hk, rfl, Hrow, Hgr⟩ := hrel
    by_cases hlt : k < l0.length + 1
    · have k0 : (0 : Int) ≤ (k : Int) := by omega
      have k1 : (k : Int) < (l0.length : Int) + 1 := by omega
      obtain ⟨⟨v0, cc0⟩, ff0⟩ := (unhide Hrow).2 (k * 2) (by omega)
      obtain ⟨⟨v1, cc1⟩, ff1⟩ := (unhide Hrow).2 (k * 2 + 1) (by omega)
      go_wp2
      exact ⟨⟨k + 1, by omega, by go_num, hide (((unhide Hrow).set _ _).set _ _), hide (grown_set (grown_set (unhide Hgr) _ _) _ _)⟩, by simp [intOf]; omega⟩
    · obtain rfl : k = l0.length + 1 := by omega
      have HWr : Hid (Below W.heap.size W wr) := hide ((below_sub (unhide HW3) (unhide B36)).grown (unhide Hgr) (below_sub (unhide HW3) (unhide B36)).size (fun j hj => by cases hj; exact Nat.le_trans (unhide B1).size (unhide HgW).1))
      have HSr := hide (((unhide HN45).below (unhide B56)).grown (unhide Hgr) (unhide HgW).2)
      have HAr := hide (((unhide HN5).below (unhide B56)).grown (unhide Hgr) (Nat.lt_of_lt_of_le (unhide HgW).2 (unhide B34).size))
      have hpr := pairs_any pp1 cap1 l1 wr hl1 (unhide Hn1) ((unhide HP1).below (unhide HWr))
      have hll : ls.length ≤ 140737488355328 := by rw [(unhide Hpm).length_eq]; omega
      have hl24 : ls.length * 24 ≤ 140737488355328 := by rw [(unhide Hpm).length_eq]; omega
      have Hnd : Hid ((ls.map nmA).Nodup) := hide (strict_nodup (unhide Hst) (List.Perm.refl _))
      have Hal : Hid (∀ y ∈ ls, atOk y = true) := hide (fun y hy => by
        have h1 := unhide Hok1
        rw [List.all_eq_true] at h1
        exact h1 y ((unhide Hpm).mem_iff.1 hy))
      have hkk : (kindOf ls s2 == kindOf ls s2) = true := by simp
      have hls : ((ls.length : Int) == (ls.length : Int)) = true := by simp
      clear Hrow Hgr Hown3 Hown2 B2 B3 HIn Hrow6 HN4 HN45 HN5 B34 B35 B36 B56 hok2 hk hlt
      by_cases hfit : ¬ (l1.all (fitOk ls) = true ∧ (l1.map nmP).Nodup)
      · have hfit2 : ¬ ((∀ x ∈ l1, fit2 ls x) ∧ (l1.map nmP).Nodup) := fun h => hfit ⟨by rw [List.all_eq_true]; exact fun x hx => (fit_iff (unhide Hal) (unhide Hnd)).2 (h.1 x hx), h.2⟩
        have Hf1 := hide hfit
        have Hf2 := hide hfit2
        clear hfit hfit2
        go_wp2_with (first
        | (go_at_call 12; refine hpr.mono ?_; rintro e w7 ⟨⟨g7, cp7, rfl, hN7⟩, b7⟩; have B7 := hide b7; have HM := hide hN7; clear b7 hN7)
        | (go_at_call 13; refine (event_bad b ls (some ⟨g7, 0, none⟩) cp7 l1 w7 hll (by omega) ((unhide HSr).at.below (unhide B7)) (fun h => by cases h) (PrsAt.first (unhide HM).of) (unhide Hf1)).mono ?_; rintro e w8 ⟨rfl, b8⟩; have B8 := hide (below_sub (unhide B7) b8); have HM8 := hide ((unhide HM).of.below b8); clear b8)
        | (go_at_call 14; refine (refEvent_bad q5 cp5 ls pp1 cap1 l1 w8 hll (by omega) (unhide Hs1) ((unhide HAr).of.below (unhide B8)) ((unhide HP1).below (below_sub (unhide HWr) (unhide B8))) (unhide Hf2)).mono ?_; rintro e w9 ⟨rfl, b9⟩; have B9 := hide (below_sub (unhide B8) b9); have HM9 := hide ((unhide HM8).below b9); clear b9)
        | (go_at_call 15; refine (len_any b ls w9 ((unhide HSr).at.below (unhide B9))).mono ?_; rintro e w9 ⟨rfl, rfl⟩)
        | (go_at_call 16; refine (attrs_any b ls w9 hl24 ((unhide HSr).at.below (unhide B9))).mono ?_; rintro e w10 ⟨q10, cp10, rfl, hN10, b10⟩; have B10 := hide (below_sub (unhide B9) b10); have B910 := hide b10; have HA10 := hide hN10.of; clear b10 hN10)
        | (go_at_call 11; refine (sameA_eq q10 q5 cp10 cp5 ls w10 hll (unhide HA10) ((unhide HAr).of.below (unhide B10))).mono ?_; rintro e w11 ⟨rfl, b11⟩; have B11 := hide (below_sub (unhide B10) b11); have B911 := hide (below_sub (unhide B910) b11); clear b11)
        | (go_at_call 17; refine (kind_any b ls s2 w11 hll ((unhide HSr).at.below (unhide B11))).mono ?_; rintro e w12 ⟨rfl, b12⟩; have B12 := hide (below_sub (unhide B11) b12); have B912 := hide (below_sub (unhide B911) b12); clear b12)
        | (go_at_call 18; refine (refKind_any q5 cp5 ls s2 w12 hll ((unhide HAr).of.below (unhide B12))).mono ?_; rintro e w13 ⟨rfl, b13⟩; have B13 := hide (below_sub (unhide B12) b13); have B913 := hide (below_sub (unhide B912) b13); clear b13)
        | (go_at_call 20; refine (kept_any g7 cp7 pp1 cap1 l1 w14 hl1 ((unhide HM9).below (unhide B914)) (by have := (unhide HM).cap.1; simpa using this) ((unhide HP1).below (below_sub (unhide HWr) (unhide B14)))).mono ?_; rintro e w15 ⟨rfl, b15⟩; have B15 := hide (below_sub (unhide B14) b15); clear b15)
        | (go_at_call 19; refine (sameP_eq none none 0 0 [] w13 (by simp) (PrsOf.nil _ _) (PrsOf.nil _ _)).mono ?_; rintro e w14 ⟨rfl, b14⟩; have B14 := hide (below_sub (unhide B13) b14); have B914 := hide (below_sub (unhide B913) b14); clear b14))
        go_ret
        exact ⟨rfl, below_sub (unhide HWr) (unhide B15)⟩
      · have hfit := Classical.byContradiction hfit
        have Hf2 : Hid (∀ x ∈ l1, fit2 ls x) := hide (fun x hx => (fit_iff (unhide Hal) (unhide Hnd)).1 (by have := hfit.1; rw [List.all_eq_true] at this; exact this x hx))
        have Hf1 := hide hfit
        clear hfit
        go_wp2_with (first
        | (go_at_call 12; refine hpr.mono ?_; rintro e w7 ⟨⟨g7, cp7, rfl, hN7⟩, b7⟩; have B7 := hide b7; have HM := hide hN7; clear b7 hN7)
        | (go_at_call 13; refine (event_any2 b ls (some ⟨g7, 0, none⟩) cp7 l1 w7 hll (by omega) ((unhide HSr).at.below (unhide B7)) (fun h => by cases h) (PrsAt.first (unhide HM).of) (unhide Hf1)).mono ?_; rintro e w8 ⟨⟨es, q8, cp8, rfl, hsp, hss, hN8⟩, b8⟩; have B8 := hide (below_sub (unhide B7) b8); have HM8 := hide ((unhide HM).of.below b8); have Hsp := hide hsp; have Hss := hide hss; have HN8 := hide hN8; clear b8 hsp hss hN8)
        | (go_at_call 14; refine (refEvent_good es q5 cp5 ls pp1 cap1 l1 w8 hll (by omega) (unhide Hs1) ((unhide HAr).of.below (unhide B8)) ((unhide HP1).below (below_sub (unhide HWr) (unhide B8))) (unhide Hf2) (unhide Hss) (unhide Hsp)).mono ?_; rintro e w9 ⟨⟨q9, cp9, rfl, hN9⟩, b9⟩; have B9 := hide (below_sub (unhide B8) b9); have HM9 := hide ((unhide HM8).below b9); have HN89 := hide ((unhide HN8).of.below b9); have HN9 := hide hN9.of; clear b9 hN9)
        | (go_at_call 15; refine (len_any b ls w9 ((unhide HSr).at.below (unhide B9))).mono ?_; rintro e w9 ⟨rfl, rfl⟩)
        | (go_at_call 16; refine (attrs_any b ls w9 hl24 ((unhide HSr).at.below (unhide B9))).mono ?_; rintro e w10 ⟨q10, cp10, rfl, hN10, b10⟩; have B10 := hide (below_sub (unhide B9) b10); have B910 := hide b10; have HA10 := hide hN10.of; clear b10 hN10)
        | (go_at_call 11; refine (sameA_eq q10 q5 cp10 cp5 ls w10 hll (unhide HA10) ((unhide HAr).of.below (unhide B10))).mono ?_; rintro e w11 ⟨rfl, b11⟩; have B11 := hide (below_sub (unhide B10) b11); have B911 := hide (below_sub (unhide B910) b11); clear b11)
        | (go_at_call 17; refine (kind_any b ls s2 w11 hll ((unhide HSr).at.below (unhide B11))).mono ?_; rintro e w12 ⟨rfl, b12⟩; have B12 := hide (below_sub (unhide B11) b12); have B912 := hide (below_sub (unhide B911) b12); clear b12)
        | (go_at_call 18; refine (refKind_any q5 cp5 ls s2 w12 hll ((unhide HAr).of.below (unhide B12))).mono ?_; rintro e w13 ⟨rfl, b13⟩; have B13 := hide (below_sub (unhide B12) b13); have B913 := hide (below_sub (unhide B912) b13); clear b13)
        | (go_at_call 20; refine (kept_any g7 cp7 pp1 cap1 l1 w14 hl1 ((unhide HM9).below (unhide B914)) (by have := (unhide HM).cap.1; simpa using this) ((unhide HP1).below (below_sub (unhide HWr) (unhide B14)))).mono ?_; rintro e w15 ⟨rfl, b15⟩; have B15 := hide (below_sub (unhide B14) b15); clear b15)
        | (go_at_call 19; refine (sameP_eq q8 q9 cp8 cp9 es w13 (by rw [(unhide Hsp).length_eq]; omega) ((unhide HN89).below (unhide B913)) ((unhide HN9).below (unhide B913))).mono ?_; rintro e w14 ⟨rfl, b14⟩; have B14 := hide (below_sub (unhide B13) b14); have B914 := hide (below_sub (unhide B913) b14); clear b14))
        go_ret
        exact ⟨rfl, below_sub (unhide HWr) (unhide B15)⟩
end Go.Proofs.Ytojeihchkdkkgab

/- Scan: what it answers. -/
import Derived.Test.YtfigjfmldpfjkaaGreatZag
namespace Go.Proofs.YtfigjfmldpfjkaaGreat
open Go.RowKit Go.Sort Go.Shelf

theorem sealS_ok {l : List UInt8} {a : Nat} {t : Bool} (h : (sealS l a t).2 = false) : t = false ∧ a + 4 ≤ l.length ∧ (l.drop a).take 4 = four (sumB (l.take a)) ∧ sealS l a t = (a + 4, false) := by
  unfold sealS at h ⊢
  split at h
  · rename_i hh; exact ⟨hh.1, hh.2.1, hh.2.2, by rw [if_pos hh]⟩
  · simp at h
theorem recS_len {l b : List UInt8} {a : Nat} (h : recS l = some (b, a)) : 4 ≤ a ∧ a ≤ l.length := by
  unfold recS at h
  split at h
  · rename_i hh
    injection h with h
    injection h with h1 h2
    have := (sealS_ok hh.2.2).2.1
    omega
  · cases h
theorem decS_len {l : List UInt8} {c : Ch} {n : Nat} (h : decS l = some (c, n)) : 0 < n ∧ n ≤ l.length := by
  unfold decS at h
  cases hr : recS l with
  | none => rw [hr] at h; cases h
  | some x =>
    obtain ⟨b, a⟩ := x
    rw [hr] at h
    simp only at h
    have := recS_len hr
    split at h
    · injection h with h
      injection h with h1 h2
      omega
    · cases h
/-- The changes whose records stand one behind the other, and how many bytes they have. -/
def scanL : Nat → List UInt8 → List Ch × Nat
  | 0, _ => ([], 0)
  | f + 1, l => match decS l with
    | none => ([], 0)
    | some (c, n) => (c :: (scanL f (l.drop n)).1, n + (scanL f (l.drop n)).2)
theorem scanL_none {f : Nat} {l : List UInt8} (h : decS l = none) : scanL f l = ([], 0) := by
  cases f with
  | zero => rfl
  | succ f => unfold scanL; rw [h]
theorem scanL_some {f : Nat} {l : List UInt8} {c : Ch} {n : Nat} (h : decS l = some (c, n)) : scanL (f + 1) l = (c :: (scanL f (l.drop n)).1, n + (scanL f (l.drop n)).2) := by
  rw [scanL, h]
theorem DecV_none {l : List UInt8} (h : decS l = none) : DecV l = .tuple #[.agg #[.int .i64 0, .int .i64 0, .string ⟨#[]⟩], .int .i64 0, .int .i64 30] := by unfold DecV; rw [h]
theorem DecV_some {l : List UInt8} {c : Ch} {n : Nat} (h : decS l = some (c, n)) : DecV l = .tuple #[.agg #[.int .i64 c.kind, .int .i64 c.id, .string c.text], .int .i64 (n : Int), .int .i64 0] := by unfold DecV; rw [h]
theorem decS_nil : decS [] = none := by
  cases h : decS [] with
  | none => rfl
  | some x => obtain ⟨c, n⟩ := x; have := decS_len h; simp at this; omega
/-- A change in a new block. -/
theorem srcC (w : World) (c : Nat) (x : Ch) : SrcK encC 3 (w.alloc (.cells #[.int .i64 x.kind, .int .i64 x.id, .string x.text] 63)) (some ⟨w.heap.size, 0, none⟩) c [x] :=
  LsOf.src (fun h => by cases h) (LsOf.one (by simp) fun j hj => by
    rw [cellA]
    have hm : j = 0 ∨ j = 1 ∨ j = 2 := by omega
    rcases hm with e | e | e <;> rw [e] <;> rfl)
/-- What Scan answers. -/
def ScanR (B : Nat) (l : List UInt8) (e : Ending) (w' : World) : Prop :=
  (headOk l = false ∧ e = .returned (.tuple #[.int .i64 0, .slice none 0 0, .int .i64 0, .int .i64 31])) ∨
  (headOk l = true ∧ ∃ q c a, a = (sealS l (headV l).2.1 (headV l).2.2).1 ∧ e = .returned (.tuple #[.int .i64 ((headV l).1 : Int), .slice q (scanL (l.length + 1) (l.drop a)).1.length c, .int .i64 ((a + (scanL (l.length + 1) (l.drop a)).2 : Nat) : Int), .int .i64 0]) ∧ OwnK encC 63 3 B w' q c (scanL (l.length + 1) (l.drop a)).1)
set_option maxRecDepth 100000 in
set_option maxHeartbeats 1000000 in
theorem scan_any (q : Option Addr) (c : Nat) (l : List UInt8) (w : World) (h : SlOf encB 1 w q c l) (hl : l.length ≤ 4000000000000) :
    Calls Tryz.prog 45 #[.slice q l.length c] w fun e w' => ScanR w.heap.size l e w' ∧ Below w.heap.size w w' := by
  have hrh := readHead_any q c l w h (by omega)
  have hk : headOk l = true → (sealS l (headV l).2.1 (headV l).2.2).1 ≤ l.length := fun hh => by
    have hs : (sealS l (headV l).2.1 (headV l).2.2).2 = false := by
      unfold headOk at hh
      cases h2 : (sealS l (headV l).2.1 (headV l).2.2).2
      · rfl
      · rw [h2] at hh; simp at hh
    obtain ⟨h1, h2, h3, h4⟩ := sealS_ok hs
    rw [h4]; exact h2
  obtain ⟨M, hM⟩ : ∃ M, headOk l = M := ⟨_, rfl⟩
  obtain ⟨a0, ha0⟩ : ∃ a0, (sealS l (headV l).2.1 (headV l).2.2).1 = a0 := ⟨_, rfl⟩
  obtain ⟨n0, hn0⟩ : ∃ n0, (headV l).1 = n0 := ⟨_, rfl⟩
  have H := hide h
  have hcl := h.2.1
  cases M
  · have HS : Hid (∀ w', ScanR w.heap.size l (.returned (.tuple #[.int .i64 0, .slice none 0 0, .int .i64 0, .int .i64 31])) w') := hide (fun w' => .inl ⟨hM, rfl⟩)
    rw [hM] at hrh
    generalize ScanR w.heap.size l = SR at HS ⊢
    clear hk hcl h hM ha0 hn0
    go_enter Tryz.func45, Tryz.ntmps45
    go_wp2_with (go_at_call 83; refine hrh.mono ?_; rintro e w1 ⟨rfl, b1⟩; have B1 := hide b1; clear b1)
    refine bodyPost_ret (v := .tuple #[.int .i64 0, .slice none 0 0, .int .i64 0, .int .i64 31]) (by simp [results, Tryz.f45, go_sem]) rfl ?_
    exact ⟨unhide HS _, unhide B1⟩
  · have hk0 := hk hM
    obtain ⟨T, hT⟩ : ∃ T, scanL (l.length + 1) (l.drop a0) = T := ⟨_, rfl⟩
    have HS : Hid (∀ (q' : Option Addr) (c' : Nat) (w' : World), OwnK encC 63 3 w.heap.size w' q' c' T.1 → ScanR w.heap.size l (.returned (.tuple #[.int .i64 (n0 : Int), .slice q' T.1.length c', .int .i64 ((a0 + T.2 : Nat) : Int), .int .i64 0])) w') := hide (fun q' c' w' ho => .inr ⟨hM, q', c', a0, ha0.symm, by rw [hT, hn0], by rw [hT]; exact ho⟩)
    rw [hM, ha0, hn0] at hrh
    rw [ha0] at hk0
    have hdec := fun (a : Nat) (ha : a ≤ l.length) (W : World) (HW : SlOf encB 1 W q c l) => decode_any (cutA q c a) (c - a) (l.drop a) W (by have := cut_sl HW a (l.length - a) (by omega); rw [List.take_of_length_le (by simp)] at this; exact this) (by simp; omega)
    generalize ScanR w.heap.size l = SR at HS ⊢
    clear hk h hM ha0 hn0
    go_enter Tryz.func45, Tryz.ntmps45
    go_wp2_with (go_at_call 83; refine hrh.mono ?_; rintro e w1 ⟨rfl, b1⟩; have B1 := hide b1; clear b1)
    go_loopw [7, 9, 10, 11, 12] (fun v7 v9 _ _ _ wr => ∃ (a f N : Nat) (q' : Option Addr) (c' : Nat) (cs : List Ch), a ≤ l.length ∧ v7 = .int .i64 (a : Int) ∧ v9 = .slice q' N c' ∧ Hid (N = cs.length) ∧ N ≤ a ∧ Hid (OwnK encC 63 3 w.heap.size wr q' c' cs) ∧ Hid (l.length - a < f) ∧ Hid (cs ++ (scanL f (l.drop a)).1 = T.1) ∧ Hid (a + (scanL f (l.drop a)).2 = a0 + T.2) ∧ Hid (Below w.heap.size w wr)) (fun v7 _ _ _ _ _ => l.length - (intOf v7).toNat)
    case atStart => exact ⟨a0, l.length + 1, 0, none, 0, [], hk0, rfl, rfl, hide rfl, by omega, hide (OwnK.nil _ _), hide (by omega), hide (by rw [hT]; rfl), hide (by rw [hT]), B1⟩
    case round =>
      obtain ⟨a, f, N, q', c', cs, ha, rfl, rfl, HN, hNa, HO, HF, HE, HA, HB⟩ := hrel
      have hsl := (unhide H).below (unhide HB)
      have hd := hdec a ha wr hsl
      rw [List.length_drop] at hd
      have hsB := (unhide HB).size
      have hlI : (l.length : Int) ≤ (c : Int) := by omega
      have haI : (a : Int) ≤ (l.length : Int) := by omega
      have haC : a ≤ c := by omega
      cases hdS : decS (l.drop a) with
      | none =>
        rw [DecV_none hdS] at hd
        have hE := unhide HE
        have hA := unhide HA
        rw [scanL_none hdS] at hE hA
        have HE2 := hide hE
        have HA2 := hide hA
        clear hdec hdS hE hA hsl hT
        by_cases hca : c = a
        · have hal : a = l.length := by omega
          have hcl2 : c = l.length := by omega
          clear hca
          subst hal hcl2
          rw [cutA_same, Nat.sub_self] at hd
          go_wp2_with (go_at_call 84; refine hd.mono ?_; rintro e w2 ⟨rfl, b2⟩; have B2 := hide ((unhide HB).trans (b2.mono hsB)); have O2 := hide ((unhide HO).below b2); clear b2)
          refine bodyPost_ret (v := .tuple #[.int .i64 (n0 : Int), .slice q' N c', .int .i64 (l.length : Int), .int .i64 0]) (by simp [results, Tryz.f45, go_sem]) rfl ?_
          have h1 : cs = T.1 := by have := unhide HE2; simpa using this
          have h2 : l.length = a0 + T.2 := by have := unhide HA2; simpa using this
          have h3 := unhide HN
          have h4 := unhide O2
          rw [h1] at h3 h4
          rw [h3, h2]
          exact ⟨unhide HS _ _ _ (h4.alloc _), (unhide B2).alloc (unhide B2).size _⟩
        · rw [cutA_ne q hca] at hd
          go_wp2_with (go_at_call 84; refine hd.mono ?_; rintro e w2 ⟨rfl, b2⟩; have B2 := hide ((unhide HB).trans (b2.mono hsB)); have O2 := hide ((unhide HO).below b2); clear b2)
          refine bodyPost_ret (v := .tuple #[.int .i64 (n0 : Int), .slice q' N c', .int .i64 (a : Int), .int .i64 0]) (by simp [results, Tryz.f45, go_sem]) rfl ?_
          have h1 : cs = T.1 := by have := unhide HE2; simpa using this
          have h2 : a = a0 + T.2 := by have := unhide HA2; simpa using this
          have h3 := unhide HN
          have h4 := unhide O2
          rw [h1] at h3 h4
          rw [h3, h2]
          exact ⟨unhide HS _ _ _ (h4.alloc _), (unhide B2).alloc (unhide B2).size _⟩
      | some x =>
        obtain ⟨x, n⟩ := x
        rw [DecV_some hdS] at hd
        obtain ⟨hn1, hn2⟩ := decS_len hdS
        rw [List.length_drop] at hn2
        have hca : ¬ c = a := by omega
        rw [cutA_ne q hca] at hd
        obtain ⟨f', hf'⟩ : ∃ f', f = f' + 1 := ⟨f - 1, by have := unhide HF; omega⟩
        subst hf'
        have hE := unhide HE
        have hA := unhide HA
        rw [scanL_some hdS, List.drop_drop] at hE hA
        have HE2 := hide hE
        have HA2 := hide hA
        have hwr : IntKind.i64.wrap ((a : Int) + (n : Int)) = ((a + n : Nat) : Int) := by
          rw [show (a : Int) + (n : Int) = ((a + n : Nat) : Int) by omega]; exact wrap_nat _ (by omega)
        clear hdec hdS hE hA hsl hT
        go_wp2_with (first
          | (go_at_call 84; refine hd.mono ?_; rintro e w2 ⟨rfl, b2⟩; obtain ⟨Y, hY⟩ : ∃ Y, w2.alloc (.cells #[.int .i64 x.kind, .int .i64 x.id, .string x.text] 63) = Y := ⟨_, rfl⟩; have bY : Below wr.heap.size wr Y := (by rw [← hY]; exact b2.alloc b2.size _); have B2 := hide bY; have s2 := bY.size; have bk : Y.heap[w2.heap.size]? = some (.cells #[.int .i64 x.kind, .int .i64 x.id, .string x.text] 63 (0, 0)) := (by rw [← hY]; exact heap_alloc_new _ _); obtain ⟨⟨d0, d1, d2⟩, _⟩ := cells3 bk; clear b2 bY bk)
          | (at_builtin; refine wpList_app rowC rfl _ _ rfl w.heap.size q' c' cs (some ⟨Y.heap.size, 0, none⟩) 1 [x] N 1 (N + 1) (unhide HN).symm rfl rfl rfl rfl (((unhide HO).below (unhide B2)).grow _) (srcC _ _ x) (by unfold maxLen; omega) (by omega) (by simp; omega) ?_; intro q3 c3 w3 o3 b3 _ _; have O3 := hide o3; have B3 := hide ((unhide HB).trans (((unhide B2).mono hsB).trans (((Below.refl w.heap.size Y).alloc (by omega) _).trans b3))); clear o3 b3))
        go_roundw
        case rel => exact ⟨a + n, f', N + 1, q3, c3, cs ++ [x], by omega, by go_num, rfl, hide (by rw [unhide HN]; simp), by omega, O3, hide (by have := unhide HF; omega), hide (by rw [List.append_assoc]; exact unhide HE2), hide (by rw [Nat.add_assoc]; exact unhide HA2), B3⟩
        case measure => simp [intOf]; omega
end Go.Proofs.YtfigjfmldpfjkaaGreat

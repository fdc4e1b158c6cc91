/- An append to a row of keys that tells where the row lies. -/
import Derived.Test.YtedakipjfpdajaaGreatDoorCompact
import Derived.Test.YtedakipjfpdajaaGreatDoorOfB
namespace Go.Proofs.YtedakipjfpdajaaGreatDoor
open Go.RowKit Go.Sort Go.Shelf

theorem grown_below {w w' : World} (h : Below w.heap.size w w') (r : Option Nat) : w.grownBy w' r := ⟨h.os, h.tape, h.output, h.size, fun k hk _ => h.block k hk⟩
/-- Where the row lies behind an append: where it lay, or all that lay has stayed and it is new. -/
def Stays (w w' : World) (q q' : Option Addr) : Prop := w.grownBy w' (q.map (·.block)) ∧ (q' = q ∨ (w.grownBy w' none ∧ (q' = none ∨ ∃ g', q' = some ⟨g', 0, none⟩ ∧ w.heap.size ≤ g')))
theorem own_block (q : Option Addr) (n c : Nat) : (Value.slice q n c).ownBlock = q.map (·.block) := by cases q <;> rfl
theorem run_appK (ty : TypeId) (w : World) (B : Nat) (q : Option Addr) (cap : Nat) (l : List Ky) (p : Option Addr) (c : Nat) (m : List Ky) (hown : OwnK encK 46 5 B w q cap l) (hs : SrcK encK 5 w p c m) (hm : l.length + m.length ≤ maxLen) (hb : (l.length + m.length) * 56 ≤ 140737488355328) (hB : B ≤ w.heap.size) :
    ∃ q' cap' w', (Builtin.append_ #[30, 30] ty #[.slice q l.length cap, .slice p m.length c]).run Tryz.prog w = .ok (.slice q' (l.length + m.length) cap') w' ∧ OwnK encK 46 5 B w' q' cap' (l ++ m) ∧ Below B w w' ∧ Stays w w' q q' := by
  obtain ⟨q', cap', w', hr, ho, hbl, _, hg⟩ := run_app rowP ty w B q cap l p c m hown hs hm hb hB
  rw [own_block] at hg
  refine ⟨q', cap', w', hr, ho, hbl, hg, ?_⟩
  obtain ⟨i0, hi, hz0, hz1, hz2⟩ := info_parts Tryz.info46
  cases p with
  | none =>
    obtain ⟨h0, rfl⟩ := hs.1 rfl
    obtain rfl : m = [] := List.length_eq_zero_iff.1 h0
    have hr2 := run_append_owned_none (P := Tryz.prog) (w := w) B 30 ty 46 i0 5 Tryz.underlying30 hi _ _ _ hown
    simp only [List.length_nil, Nat.add_zero] at hr
    have e := hr.symm.trans hr2
    injection e with e1 e2
    injection e1 with e1
    exact Or.inl e1
  | some ad =>
    rcases hown.2 with ⟨h1, h2⟩ | ⟨g, cap1, cur, hv, hbg, hblk, hnc, hcm, hcs, htk⟩
    · injection h1 with h1 h3 h4
      subst h1
      refine Or.inr ⟨hg, ?_⟩
      rcases ho.2 with ⟨h5, _⟩ | ⟨g', _, _, hv', _⟩
      · injection h5 with h5; exact Or.inl h5
      · injection hv' with h5
        refine Or.inr ⟨g', h5, ?_⟩
        -- the row is new: what was asked for lay nowhere
        obtain ⟨v2, w2, hr2, _, _, _, hat⟩ := run_append_own_at (P := Tryz.prog) w B 30 ty 46 i0 (.agg #[.string ⟨#[]⟩, .int .i64 0, .int .i64 0, .int .i64 0, .string ⟨#[]⟩]) 5 56 Tryz.underlying30 hi hz0 hz1 hz2 rfl (by decide) _ _ _ hown ad m.length c (flatK encK 5 m.toArray).toList (by rw [flat_len]) (hs.2 ad rfl) (rowP.one m) hm hb hB
        have e := hr.symm.trans hr2
        injection e with e1 e2
        rw [← e1, own_block, own_block, h5] at hat
        rcases hat with h | h
        · simp at h
        · simp at h; omega
    · injection hv with h1 h2 h3
      subst h1 h3
      by_cases hroom : l.length + m.length ≤ cap
      · have hr2 := run_append_room (P := Tryz.prog) w 30 ty 46 i0 Tryz.underlying30 hi g l.length cap cur hblk ad m.length c (flatK encK 5 m.toArray).toList (by rw [flat_len, hz1]) (hs.2 ad rfl) (rowP.one m) hroom (by rw [flat_len, hz1, hcs, ← Nat.add_mul]; exact Nat.mul_le_mul_right _ hroom)
        have e := hr.symm.trans hr2
        injection e with e1 e2
        injection e1 with e1
        exact Or.inl e1
      · have hr2 := run_append_grow (P := Tryz.prog) w 30 ty 46 i0 _ Tryz.underlying30 hi hz0 ⟨g, 0, none⟩ l.length cap (flatK encK 5 l.toArray).toList (by rw [flat_len, hz1]) (World.ownsRow.cells (v := .slice (some ⟨g, 0, none⟩) l.length cap) hown rfl) ad m.length c (flatK encK 5 m.toArray).toList (by rw [flat_len, hz1]) (hs.2 ad rfl) (by omega) (by unfold maxLen at hm; omega) (growslice_fits (by omega) (by rw [hz2]; exact hb))
        have e := hr.symm.trans hr2
        injection e with e1 e2
        injection e1 with e1
        refine Or.inr ⟨?_, Or.inr ⟨w.heap.size, e1, Nat.le_refl _⟩⟩
        rw [e2]
        exact grown_below (((Below.refl _ w).drew).alloc (Nat.le_refl _) _) _
theorem wpList_appK {ops : Array Oper} {rest : List Oper} {o : Oper} {a : Act} {w : World} {Q : Exit → Act → World → Prop} (hgd : o.guard = none) (s x : Operand)
    (ho : o.op = .call { callee := .builtin .append, args := #[s, x], argTypes := #[30, 30] }) (B : Nat) (q : Option Addr) (cap : Nat) (l : List Ky) (p : Option Addr) (c : Nat) (m : List Ky) (n n' N : Nat) (hn : l.length = n) (hn' : m.length = n') (hN : n + n' = N)
    (es : a.eval s = .slice q n cap) (ex : a.eval x = .slice p n' c) (hown : OwnK encK 46 5 B w q cap l) (hs : SrcK encK 5 w p c m) (hm : N ≤ maxLen) (hb : N * 56 ≤ 140737488355328) (hB : B ≤ w.heap.size)
    (h : ∀ q' cap' w', OwnK encK 46 5 B w' q' cap' (l ++ m) → Below B w w' → Stays w w' q q' → wpList Tryz.prog ops Q rest (a.put o.dst (.slice q' N cap')) w') : wpList Tryz.prog ops Q (o :: rest) a w := by
  subst hn hn' hN
  refine wpList_plain hgd fun K hK => ?_
  obtain ⟨q', cap', w', hr, h2, h3, h4⟩ := run_appK o.type w B q cap l p c m hown hs hm hb hB
  unfold Oper.wp execOp
  simp only [ho, resolve, invoke, builtin, Sem.run_bind, Sem.run_pure, Result.andThen_ok, List.map_toArray, List.map_cons, List.map_nil, es, ex, hr]
  exact hK _ _ (h q' cap' w' h2 h3 h4)
end Go.Proofs.YtedakipjfpdajaaGreatDoor
namespace Go.Proofs.YtedakipjfpdajaaGreatDoor
open Go.RowKit Go.Sort Go.Shelf

theorem PthAt.keep {w w' : World} {b p k : Nat} (h : PthAt w b p k) (hb : w'.heap[b]? = w.heap[b]?) (hs : w.heap.size ≤ w'.heap.size) : PthAt w' b p k := by
  have hc : ∀ o, w'.cell? ⟨b, o, none⟩ = w.cell? ⟨b, o, none⟩ := fun o => by unfold World.cell?; simp only [hb]
  have hf : ∀ o, w'.frozen? ⟨b, o, none⟩ = w.frozen? ⟨b, o, none⟩ := fun o => by unfold World.frozen?; simp only [hb]
  exact ⟨fun j hj => ⟨(hc _).trans (h.1 j hj).1, (hc _).trans (h.1 j hj).2⟩, fun o => (hf o).trans (h.2.1 o), Nat.lt_of_lt_of_le h.2.2 hs⟩
/-- A number's keys. -/
def numKeys (attr : ByteArray) (x : Int) (p : Nat) : List Ky := kInt attr x :: (pathL p 33).map (kSpan attr)
set_option maxRecDepth 100000 in
set_option maxHeartbeats 2000000 in
theorem appNum (B : Nat) (q : Option Addr) (c : Nat) (K : List Ky) (attr : ByteArray) (x : Int) (p : Nat) (hx : x + 2147483648 = p) (hp : p < 4294967296) (w : World) (ho : OwnK encK 46 5 B w q c K) (hB : B ≤ w.heap.size) (hl : (K.length + 34) * 56 ≤ 140737488355328) :
    Calls Tryz.prog 32 #[.slice q K.length c, .string attr, .int .i64 x] w fun e w' => (∃ q' c', e = .returned (.slice q' (K.length + 34) c') ∧ OwnK encK 46 5 B w' q' c' (K ++ numKeys attr x p)) ∧ Below B w w' := by
  have HO := hide ho
  have k9 : (K.length : Int) ≤ 2513169434917 := by omega
  clear ho
  go_enter Tryz.func32, Tryz.ntmps32
  go_wp2_with (first
    | (go_at_call 24; refine (ofI attr x _).mono ?_; rintro e w1 ⟨rfl, b1⟩; have B1 := hide b1; have s1 := b1.size; clear b1)
    | (at_builtin; refine wpList_appK rfl _ _ rfl B q c K (some ⟨w1.heap.size, 0, none⟩) 1 [kInt attr x] K.length 1 (K.length + 1) rfl rfl rfl rfl rfl (((unhide HO).below (unhide B1)).below ((Below.refl _ _).alloc (Nat.le_refl _) _)) (srcKyA _ _) (by unfold maxLen; omega) (by omega) (by simp; omega) ?_; intro q2 c2 w2 ho2 hb2 _; have O2 := hide ho2; have B2 := hide (((unhide B1).mono hB).trans (((Below.refl B w1).alloc (by omega) _).trans hb2)); have s2 := (unhide B2).size; clear ho2 hb2)
    | (go_at_call 71; refine (path_any x p hx hp _).mono ?_; rintro e w3 ⟨rfl, p3, b3⟩; have P3 := hide p3; have O3 := hide ((unhide O2).below b3); have B3 := hide ((unhide B2).trans (b3.mono (Nat.le_trans hB s2))); have Q3 : Hid (∀ a, q2 = some a → a.block ≠ w2.heap.size) := hide (fun a e => Nat.ne_of_lt (sl_lt (unhide O2) e)); clear p3 b3))
  go_loopw [0, 18] (fun kv iv wr => ∃ (k n : Nat) (q' : Option Addr) (c' : Nat), k ≤ 33 ∧ Hid (n = K.length + 1 + k) ∧ kv = .slice q' n c' ∧ iv = .int .i64 k ∧ Hid (OwnK encK 46 5 B wr q' c' (K ++ [kInt attr x] ++ (pathL p k).map (kSpan attr))) ∧ Hid (PthAt wr w2.heap.size p 33) ∧ Hid (∀ a, q' = some a → a.block ≠ w2.heap.size) ∧ Hid (Below B w wr)) (fun _ iv _ => 33 - (intOf iv).toNat)
  case atStart => exact ⟨0, K.length + 1, q2, c2, by omega, hide rfl, rfl, rfl, hide (by simpa [pathL] using unhide O3), P3, Q3, B3⟩
  case round =>
    obtain ⟨k, n, q', c', hk, HN, rfl, rfl, HOr, HP, HQ, HB⟩ := hrel
    have sB := (unhide HB).size
    by_cases hlt : k < 33
    · obtain ⟨g0, g1⟩ := (unhide HP).get hlt
      have HT := hide (show K ++ [kInt attr x] ++ (pathL p (k + 1)).map (kSpan attr) = K ++ [kInt attr x] ++ (pathL p k).map (kSpan attr) ++ [kSpan attr (k, p / 2 ^ k)] by rw [← pathL_step, List.map_append, ← List.append_assoc]; rfl)
      have hlk : (K ++ [kInt attr x] ++ (pathL p k).map (kSpan attr)).length = n := by rw [unhide HN]; simp [pathL_len]; omega
      have HLK := hide hlk
      obtain ⟨J, hJ⟩ : ∃ J, p / 2 ^ k = J := ⟨_, rfl⟩
      rw [hJ] at g1 HT
      have k0 : (0 : Int) ≤ (k : Int) := by omega
      have k1 : (k : Int) < 33 := by omega
      have lP := (unhide HP).2.2
      clear hlk hJ
      go_wp2_with (first
        | (go_at_call 27; refine (ofSp attr _ _ _).mono ?_; rintro e w4 ⟨rfl, b4⟩; have B4 := hide (below_sub ((Below.refl _ _).alloc (Nat.le_refl _) _) b4); have s4 := (unhide B4).size; clear b4)
        | (at_builtin; refine wpList_appK rfl _ _ rfl B q' c' (K ++ [kInt attr x] ++ (pathL p k).map (kSpan attr)) (some ⟨w4.heap.size, 0, none⟩) 1 [kSpan attr (k, J)] n 1 (n + 1) (unhide HLK) rfl rfl rfl rfl (((unhide HOr).below (unhide B4)).below ((Below.refl _ _).alloc (Nat.le_refl _) _)) (srcKyA _ _) (by have := unhide HN; unfold maxLen; omega) (by have := unhide HN; omega) (by simp; omega) ?_; intro q5 c5 w5 ho5 hb5 hst; have HO5 := hide ho5; have HB5 := hide ((unhide HB).trans (((unhide B4).mono (Nat.le_trans hB sB)).trans (((Below.refl B w4).alloc (by omega) _).trans hb5))); have HST := hide hst; clear ho5 hb5 hst))
      have hp4 := ((unhide HP).below (unhide B4)).below ((Below.refl w4.heap.size w4).alloc (Nat.le_refl _) (.cells #[.string attr, .int .i64 3, .int .i64 (k : Int), .int .i64 (J : Int), .string ⟨#[]⟩] 46))
      obtain ⟨hgr, hwh⟩ := unhide HST
      have hp5 : PthAt w5 w2.heap.size p 33 := hp4.keep (hgr.block _ hp4.2.2 (fun e => by
        cases hq : q' with
        | none => rw [hq] at e; cases e
        | some a => rw [hq] at e; simp at e; exact unhide HQ a hq e.symm)) hgr.size
      have hq5 : ∀ a, q5 = some a → a.block ≠ w2.heap.size := fun a e => by
        rcases hwh with h | ⟨_, h | ⟨g', h, hg'⟩⟩
        · exact unhide HQ a (by rw [← h]; exact e)
        · rw [h] at e; cases e
        · rw [h] at e; cases e
          have := hp4.2.2
          show g' ≠ _
          omega
      go_roundw
      case rel => exact ⟨k + 1, n + 1, q5, c5, by omega, hide (by have := unhide HN; omega), rfl, by go_num, hide (by rw [unhide HT]; exact unhide HO5), hide hp5, hide hq5, HB5⟩
      case measure => simp [intOf]; omega
    · obtain rfl : k = 33 := by omega
      go_wp2
      go_ret
      obtain rfl := unhide HN
      exact ⟨⟨q', c', rfl, by have := unhide HOr; rw [List.append_assoc] at this; exact this⟩, unhide HB⟩
end Go.Proofs.YtedakipjfpdajaaGreatDoor
namespace Go.Proofs.YtedakipjfpdajaaGreatDoor
open Go.RowKit Go.Sort Go.Shelf

/-- A word's keys. -/
def wordKeys (attr s : ByteArray) : List Ky := kWord attr s :: (List.range (s.size + 1)).map fun k => kPre attr (s.extract 0 k)
set_option maxRecDepth 100000 in
set_option maxHeartbeats 2000000 in
theorem appWord (B : Nat) (q : Option Addr) (c : Nat) (K : List Ky) (attr s : ByteArray) (hs : s.size ≤ 64) (w : World) (ho : OwnK encK 46 5 B w q c K) (hB : B ≤ w.heap.size) (hl : (K.length + 66) * 56 ≤ 140737488355328) :
    Calls Tryz.prog 33 #[.slice q K.length c, .string attr, .string s] w fun e w' => (∃ q' c', e = .returned (.slice q' (K.length + 1 + (s.size + 1)) c') ∧ OwnK encK 46 5 B w' q' c' (K ++ wordKeys attr s)) ∧ Below B w w' := by
  have HO := hide ho
  have k9 : (K.length : Int) ≤ 2513169434917 := by omega
  have s9 : (s.size : Int) ≤ 64 := by omega
  clear ho
  go_enter Tryz.func33, Tryz.ntmps33
  go_wp2_with (first
    | (go_at_call 25; refine (ofW attr s _).mono ?_; rintro e w1 ⟨rfl, b1⟩; have B1 := hide b1; have s1 := b1.size; clear b1)
    | (at_builtin; refine wpList_appK rfl _ _ rfl B q c K (some ⟨w1.heap.size, 0, none⟩) 1 [kWord attr s] K.length 1 (K.length + 1) rfl rfl rfl rfl rfl (((unhide HO).below (unhide B1)).below ((Below.refl _ _).alloc (Nat.le_refl _) _)) (srcKyA _ _) (by unfold maxLen; omega) (by omega) (by simp; omega) ?_; intro q2 c2 w2 ho2 hb2 _; have O2 := hide ho2; have B2 := hide (((unhide B1).mono hB).trans (((Below.refl B w1).alloc (by omega) _).trans hb2)); have s2 := (unhide B2).size; clear ho2 hb2))
  go_loopw [0, 17] (fun kv iv wr => ∃ (k n : Nat) (q' : Option Addr) (c' : Nat), k ≤ s.size + 1 ∧ Hid (n = K.length + 1 + k) ∧ kv = .slice q' n c' ∧ iv = .int .i64 k ∧ Hid (OwnK encK 46 5 B wr q' c' (K ++ [kWord attr s] ++ (List.range k).map fun k => kPre attr (s.extract 0 k))) ∧ Hid (Below B w wr)) (fun _ iv _ => s.size + 1 - (intOf iv).toNat)
  case atStart => exact ⟨0, K.length + 1, q2, c2, by omega, hide rfl, rfl, rfl, hide (by simpa using unhide O2), B2⟩
  case round =>
    obtain ⟨k, n, q', c', hk, HN, rfl, rfl, HOr, HB⟩ := hrel
    have sB := (unhide HB).size
    by_cases hlt : k < s.size + 1
    · have HT := hide (show K ++ [kWord attr s] ++ (List.range (k + 1)).map (fun k => kPre attr (s.extract 0 k)) = K ++ [kWord attr s] ++ (List.range k).map (fun k => kPre attr (s.extract 0 k)) ++ [kPre attr (s.extract 0 k)] by rw [List.range_succ, List.map_append, ← List.append_assoc]; rfl)
      have hlk : (K ++ [kWord attr s] ++ (List.range k).map fun k => kPre attr (s.extract 0 k)).length = n := by rw [unhide HN]; simp; omega
      have HLK := hide hlk
      have k0 : (0 : Int) ≤ (k : Int) := by omega
      have k1 : (k : Int) < (s.size : Int) + 1 := by omega
      have k2 : (k : Int) ≤ (s.size : Int) := by omega
      clear hlk
      go_wp2_with (first
        | (go_at_call 29; refine (ofP attr (s.extract 0 k) _).mono ?_; rintro e w4 ⟨rfl, b4⟩; have B4 := hide b4; have s4 := b4.size; clear b4)
        | (at_builtin; refine wpList_appK rfl _ _ rfl B q' c' (K ++ [kWord attr s] ++ (List.range k).map fun k => kPre attr (s.extract 0 k)) (some ⟨w4.heap.size, 0, none⟩) 1 [kPre attr (s.extract 0 k)] n 1 (n + 1) (unhide HLK) rfl rfl rfl rfl (((unhide HOr).below (unhide B4)).below ((Below.refl _ _).alloc (Nat.le_refl _) _)) (srcKyA _ _) (by have := unhide HN; unfold maxLen; omega) (by have := unhide HN; omega) (by simp; omega) ?_; intro q5 c5 w5 ho5 hb5 hst; have HO5 := hide ho5; have HB5 := hide ((unhide HB).trans (((unhide B4).mono (Nat.le_trans hB sB)).trans (((Below.refl B w4).alloc (by omega) _).trans hb5))); clear ho5 hb5 hst))
      go_roundw
      case rel => exact ⟨k + 1, n + 1, q5, c5, by omega, hide (by have := unhide HN; omega), rfl, by go_num, hide (by rw [unhide HT]; exact unhide HO5), HB5⟩
      case measure => simp [intOf]; omega
    · obtain rfl : k = s.size + 1 := by omega
      have k1 : ¬ ((s.size + 1 : Nat) : Int) < (s.size : Int) + 1 := by omega
      go_wp2
      go_ret
      obtain rfl := unhide HN
      exact ⟨⟨q', c', rfl, by have := unhide HOr; rw [List.append_assoc] at this; exact this⟩, unhide HB⟩
end Go.Proofs.YtedakipjfpdajaaGreatDoor

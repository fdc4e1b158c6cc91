/- The statement's own helpers: room, kept; the reference's Sum. -/
import Derived.Test.YtalicnifjgcldaaFixed
namespace Go.Proofs.Ytalicnifjgcldaa
open Go.RowKit Go.Sort Go.Shelf

theorem makeB (n : Nat) (h : n ≤ 140737488355328) : ∃ cur : Array Value, cur.size = n * 1 ∧ ∀ W : World, (Instr.makeSlice 24 (.int .i64 0) (.int .i64 (n : Int))).run Try.prog W = .ok (.slice (some ⟨W.heap.size, 0, none⟩) 0 n) (W.alloc (.cells cur 5)) := by
  obtain ⟨i0, hi, hz0, hz1, hz2⟩ := info_parts Try.info5
  refine ⟨madeCells (Value.cells (.int .u8 0)) (n * i0.size), by rw [size_madeCells, hz1], fun W => ?_⟩
  have := run_make (P := Try.prog) W 24 5 i0 _ Try.underlying24 hi hz0 .i64 .i64 0 (n : Int) (Int.le_refl _) (by omega) (by rw [hz2]; omega) (by omega)
  simpa only [Int.toNat_zero, Int.toNat_natCast] using this
theorem ownM {B : Nat} {w : World} {n : Nat} {cur : Array Value} (hB : B ≤ w.heap.size) (hn : n ≤ maxLen) (hs : cur.size = n * 1) : OwnK encB 5 1 B (w.alloc (.cells cur 5)) (some ⟨w.heap.size, 0, none⟩) n [] := by
  have : (flatK encB 1 ([] : List UInt8).toArray).toList = [] := by simp [flatK]
  unfold OwnK; rw [this]; exact World.ownsRow_made w cur n hB hn hs
theorem own_some {B : Nat} {w : World} {q : Option Addr} {cap : Nat} {l : List UInt8} (h : OwnK encB 5 1 B w q cap l) (hl : 0 < l.length) : ∃ g, q = some ⟨g, 0, none⟩ ∧ B ≤ g ∧ g < w.heap.size := by
  rcases h.2 with ⟨_, h0⟩ | ⟨g, cp, cur, hv, hB, hblk, _⟩
  · omega
  · injection hv with h1; exact ⟨g, h1, hB, (Array.getElem?_eq_some_iff.1 hblk).1⟩
/-- A beginning of a slice. -/
theorem sl_pre {w : World} {q : Option Addr} {c : Nat} {l m : List UInt8} (h : SlOf encB 1 w q c (l ++ m)) : SlOf encB 1 w q c l := by
  refine ⟨fun hq => by have := h.1 hq; simp at this; simp [this], by have := h.2.1; simp at this; omega, h.2.2.1, fun hl => ?_⟩
  obtain ⟨b, off, hq, hb, hA⟩ := h.2.2.2 (by simp; omega)
  refine ⟨b, off, hq, hb, fun j u hj => hA j u ?_⟩
  rw [flatB] at hj ⊢
  have hlt := (List.getElem?_eq_some_iff.1 hj).1
  rw [List.map_append, List.getElem?_append_left hlt]
  exact hj
set_option maxHeartbeats 1000000 in
set_option maxRecDepth 100000 in
theorem room_any (q : Option Addr) (c : Nat) (l : List UInt8) (w : World) (h : SlOf encB 1 w q c l) (hl : l.length + 1 ≤ 140737488355328) :
    Calls Try.prog 18 #[.slice q l.length c] w fun e w' => (∃ g cp, e = .returned (.slice (some ⟨g, 0, none⟩) l.length cp) ∧ OwnK encB 5 1 w.heap.size w' (some ⟨g, 0, none⟩) cp (l ++ [199]) ∧ l.length + 1 ≤ cp) ∧ Below w.heap.size w w' := by
  have HS := hide h
  have l0 : (0 : Int) ≤ (l.length : Int) := by omega
  obtain ⟨cur, hcs, hmk⟩ := makeB (l.length + 1) hl
  have hmk' : ∀ W : World, (Instr.makeSlice 24 (.int .i64 0) (.int .i64 ((l.length : Int) + 1))).run Try.prog W = .ok (.slice (some ⟨W.heap.size, 0, none⟩) 0 (l.length + 1)) (W.alloc (.cells cur 5)) := fun W => by have := hmk W; rwa [Int.natCast_add] at this
  have Hcs := hide hcs
  clear h hmk hcs
  go_enter Try.func18, Try.ntmps18
  go_wp2_with (first
    | (at_builtin; refine wpList_app rowB rfl _ _ rfl w.heap.size q8 cp8 l (some ⟨w8.heap.size, 0, none⟩) 1 [199] l.length 1 (l.length + 1) rfl rfl rfl rfl rfl ((unhide Hown8).grow _) (srcA _ _ [199]) (by unfold maxLen; omega) (by omega) (by have := (unhide B8).size; simp; omega) ?_; intro q9 cp9 w9 hown9 hb9 hnn9 _; obtain ⟨g9, hg9, _⟩ := own_some hown9 (by simp); subst hg9; have hc9 := hown9.ls.2.1; have c9 : (l.length : Int) ≤ (cp9 : Int) := (by simp at hc9; omega); have Hown9 := hide hown9; have B9 := hide (((unhide B8).alloc (unhide B8).size _).trans hb9); clear hown9 hb9 hnn9)
    | (at_builtin; refine wpList_app rowB rfl _ _ rfl w.heap.size (some ⟨w.heap.size, 0, none⟩) (l.length + 1) [] q c l 0 l.length l.length rfl rfl (by simp) rfl rfl (ownM (Nat.le_refl _) (by unfold maxLen; omega) (unhide Hcs)) ((unhide HS).below ((Below.refl _ _).alloc (Nat.le_refl _) _)).src (by unfold maxLen; omega) (by omega) (by simp) ?_; intro q8 cp8 w8 hown8 hb8 _ _; have Hown8 := hide hown8; have B8 := hide (((Below.refl w.heap.size w).alloc (Nat.le_refl _) (.cells cur 5)).trans hb8); clear hown8 hb8))
  go_ret
  exact ⟨⟨g9, cp9, rfl, unhide Hown9, by simp at hc9; exact hc9⟩, unhide B9⟩
set_option maxHeartbeats 1000000 in
set_option maxRecDepth 100000 in
theorem kept_any (g cp : Nat) (q : Option Addr) (c : Nat) (l : List UInt8) (w : World) (h : SlOf encB 1 w (some ⟨g, 0, none⟩) cp (l ++ [199])) (h' : SlOf encB 1 w q c l) (hl : l.length ≤ 1000000000000000) :
    Calls Try.prog 21 #[.slice (some ⟨g, 0, none⟩) l.length cp, .slice q l.length c] w fun e w' => e = .returned (.bool true) ∧ w' = w := by
  have hs := sameBytes_any (some ⟨g, 0, none⟩) q cp c l l w (sl_pre h) h'
  rw [decide_eq_true rfl] at hs
  obtain ⟨b, off, hq, _, hc⟩ := byteAt h (j := l.length) (x := 199) (by simp)
  injection hq with hq
  injection hq with h1 h2
  subst h1 h2
  rw [Nat.zero_add] at hc
  have hcap : (l.length : Int) + 1 ≤ (cp : Int) := by have := h.2.1; simp at this; omega
  have hcap2 : l.length + 1 ≤ cp := by omega
  have hw : IntKind.i64.wrap ((l.length : Int) + 1) = (l.length : Int) + 1 := by
    rw [show (l.length : Int) + 1 = ((l.length + 1 : Nat) : Int) by omega]; exact wrap_nat _ (by omega)
  have l0 : (0 : Int) ≤ (l.length : Int) := by omega
  clear h h'
  go_enter Try.func21, Try.ntmps21
  go_wp2_with (go_at_call 17; refine hs.mono ?_; rintro e w1 ⟨rfl, hw1⟩; obtain rfl := hw1.symm)
  go_ret
  exact ⟨rfl, rfl⟩
set_option maxHeartbeats 2000000 in
theorem refSum_any (q : Option Addr) (c : Nat) (l : List UInt8) (w : World) (h : SlOf encB 1 w q c l) (hl : l.length ≤ 1000000000000000) :
    Calls Try.prog 19 #[.slice q l.length c] w fun e w' => e = .returned (.int .u32 ((sumB l : Nat) : Int)) ∧ w' = w := by
  go_enter Try.func19, Try.ntmps19
  go_wp2
  go_loopw [3, 4] (fun v i wr => ∃ k : Nat, k ≤ l.length ∧ i = .int .i64 (k : Int) ∧ v = .int .u32 ((crc 4294967295 (l.take k) : Nat) : Int) ∧ wr = w) (fun _ i _ => l.length - (intOf i).toNat)
  case atStart => exact ⟨0, Nat.zero_le _, rfl, rfl, rfl⟩
  case round =>
    obtain ⟨k, hk, rfl, rfl, rfl⟩ := hrel
    have hlt0 := crc_lt (l.take k) (s := 4294967295) (by omega)
    by_cases hlt : k < l.length
    · obtain ⟨y, hy, _⟩ := get_at hlt
      obtain ⟨b, off, hq, hb, c0⟩ := byteAt h hy
      have hs2 := hide (show crc 4294967295 (l.take (k + 1)) = stirs 8 (crc 4294967295 (l.take k) ^^^ y.toNat) by rw [take_snoc_of hy, crc_snoc])
      generalize crc 4294967295 (l.take k) = A at hs2 hlt0 ⊢
      have e1 := wrap32 y.toNat (byte_lt y)
      have e2 := u32x A y.toNat hlt0 (byte_lt y)
      have hT := xor_lt hlt0 (byte_lt y)
      generalize A ^^^ y.toNat = T at hs2 e2 hT
      have ki0 : (0 : Int) ≤ (k : Int) := by omega
      have ki1 : (k : Int) < (l.length : Int) := by omega
      subst hq
      clear h hy
      go_wp2
      go_loopw [3, 5] (fun v i wr' => ∃ m : Nat, m ≤ 8 ∧ i = .int .i64 (m : Int) ∧ v = .int .u32 ((stirs m T : Nat) : Int) ∧ wr' = wr) (fun _ i _ => 8 - (intOf i).toNat)
      case atStart => exact ⟨0, Nat.zero_le _, rfl, rfl, rfl⟩
      case round =>
        obtain ⟨m, hm, rfl, rfl, rfl⟩ := hrel
        have hlt1 := stirs_lt m hT
        have hsn := hide (stirs_snoc m T)
        generalize hTT : stirs m T = t at hlt1 hsn ⊢
        have HT := hide hTT
        clear hTT
        obtain ⟨u, hu⟩ : ∃ u : Nat, t / 2 = u := ⟨_, rfl⟩
        have g1 : (t : Int) % 2 = ((t % 2 : Nat) : Int) := by omega
        have g2 : bits .xor .u32 (u : Int) 3988292384 = ((u ^^^ 3988292384 : Nat) : Int) := u32x u 3988292384 (by omega) (by omega)
        have g3 : (t : Int) / 2 = (u : Int) := by omega
        by_cases hm8 : m < 8
        · have hm8' : (m : Int) < 8 := by omega
          by_cases ho : t % 2 = 1
          · have hs1 := hide (show stir1 t = u ^^^ 3988292384 by unfold stir1; rw [if_pos ho, hu])
            have ho' : ((t % 2 : Nat) : Int) = 1 := by omega
            rw [ho'] at g1
            clear ho ho' hu
            go_wp2
            go_roundw
            case rel => exact ⟨m + 1, by omega, by go_num, by rw [unhide hsn, unhide hs1], trivial⟩
            case measure => simp [intOf]; omega
          · have hs1 := hide (show stir1 t = u by unfold stir1; rw [if_neg ho, hu])
            have ho' : ((t % 2 : Nat) : Int) = 0 := by omega
            rw [ho'] at g1
            clear ho ho' hu
            go_wp2
            go_roundw
            case rel => exact ⟨m + 1, by omega, by go_num, by rw [unhide hsn, unhide hs1], trivial⟩
            case measure => simp [intOf]; omega
        · obtain rfl : m = 8 := by omega
          go_wp2
          go_roundw
          case rel => exact ⟨k + 1, by omega, by go_num, by rw [unhide hs2, unhide HT], trivial⟩
          case measure => simp [intOf]; omega
    · obtain rfl : k = l.length := by omega
      rw [List.take_length] at hlt0 ⊢
      have e2 : bits .xor .u32 ((crc 4294967295 l : Nat) : Int) 4294967295 = ((crc 4294967295 l ^^^ 4294967295 : Nat) : Int) := u32x (crc 4294967295 l) 4294967295 hlt0 (by omega)
      have HS := hide (show sumB l = crc 4294967295 l ^^^ 4294967295 from rfl)
      have ki1 : ¬ (l.length : Int) < (l.length : Int) := by omega
      generalize crc 4294967295 l = A at e2 HS ⊢
      clear h
      go_wp2
      go_ret
      exact ⟨ret_int (by rw [unhide HS]), rfl⟩
end Go.Proofs.Ytalicnifjgcldaa

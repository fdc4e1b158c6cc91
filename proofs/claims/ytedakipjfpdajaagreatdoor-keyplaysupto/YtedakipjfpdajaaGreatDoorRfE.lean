/- The reference's Event: an event's keys. -/
import Derived.Test.YtedakipjfpdajaaGreatDoorZaj
import Derived.Test.YtedakipjfpdajaaGreatDoorZan
import Derived.Test.YtedakipjfpdajaaGreatDoorMt
import Derived.Deep.Cut
import Derived.Deep.CutRange
namespace Go.Proofs.YtedakipjfpdajaaGreatDoor
open Go.RowKit Go.Sort Go.Shelf

/-- A row that doesn't lie in a block. -/
def Away (q : Option Addr) (M : Nat) : Prop := ∀ a, q = some a → a.block ≠ M
theorem away_of {B M c : Nat} {w : World} {q : Option Addr} {l : List Ky} (h : OwnK encK 46 5 B w q c l) (hM : w.heap.size ≤ M) : Away q M := fun a e => by
  have := sl_lt h e
  omega
theorem Stays.keep {w w' : World} {q q' : Option Addr} {M : Nat} (h : Stays w w' q q') (hM : M < w.heap.size) (ha : Away q M) : w'.heap[M]? = w.heap[M]? ∧ Away q' M := by
  obtain ⟨hgr, hwh⟩ := h
  refine ⟨hgr.block _ hM (fun e => ?_), fun a e => ?_⟩
  · cases hq : q with
    | none => rw [hq] at e; cases e
    | some a => rw [hq] at e; simp at e; exact ha a hq e.symm
  · rcases hwh with h | ⟨_, h | ⟨g', h, hg'⟩⟩
    · exact ha a (by rw [← h]; exact e)
    · rw [h] at e; cases e
    · rw [h] at e; cases e
      show g' ≠ _
      omega
theorem cell_same {w w' : World} {M : Nat} (h : w'.heap[M]? = w.heap[M]?) (o : Nat) : w'.cell? ⟨M, o, none⟩ = w.cell? ⟨M, o, none⟩ := by
  unfold World.cell?
  simp [h]
theorem of3 {w : World} {M : Nat} {a0 a1 a2 : Value} {T : TypeId} (h : w.heap[M]? = some (.cells #[a0, a1, a2] T (0, 0))) : w.cell? ⟨M, 0, none⟩ = some a0 ∧ w.cell? ⟨M, 1, none⟩ = some a1 ∧ w.cell? ⟨M, 2, none⟩ = some a2 := by
  unfold World.cell?
  simp [h]
theorem step_appK {ops : Array Oper} {o : Oper} {a : Act} {w : World} {K : Act → World → Prop} {Q : Exit → Act → World → Prop} {E : Prop} (hgd : o.guard = none) (s x : Operand)
    (ho : o.op = .call { callee := .builtin .append, args := #[s, x], argTypes := #[30, 30] }) (B : Nat) (q : Option Addr) (cap : Nat) (l : List Ky) (p : Option Addr) (c : Nat) (m : List Ky) (n n' N : Nat) (hn : l.length = n) (hn' : m.length = n') (hN : n + n' = N)
    (es : a.eval s = .slice q n cap) (ex : a.eval x = .slice p n' c) (hown : OwnK encK 46 5 B w q cap l) (hs : SrcK encK 5 w p c m) (hm : N ≤ maxLen) (hb : N * 56 ≤ 140737488355328) (hB : B ≤ w.heap.size)
    (h : ∀ q' cap' w', OwnK encK 46 5 B w' q' cap' (l ++ m) → Below B w w' → Stays w w' q q' → K (a.put o.dst (.slice q' N cap')) w') :
    if Region.wanted o (yielded ops a.tmps) = true then Oper.wp Tryz.prog o a w K Q else E := by
  subst hn hn' hN
  have hw : Region.wanted o (yielded ops a.tmps) = true := by simp [Region.wanted, hgd]
  rw [if_pos hw]
  obtain ⟨q', cap', w', hr, h2, h3, h4⟩ := run_appK o.type w B q cap l p c m hown hs hm hb hB
  unfold Oper.wp execOp
  simp only [ho, resolve, invoke, builtin, Sem.run_bind, Sem.run_pure, Result.andThen_ok, List.map_toArray, List.map_cons, List.map_nil, es, ex, hr]
  exact h q' cap' w' h2 h3 h4
set_option maxRecDepth 100000 in
set_option maxHeartbeats 8000000 in
/-- trommelref12.Event. -/
theorem refEvent_any (p : Option Addr) (c : Nat) (l : List Pr) (w : World) (hl : l.length * 3696 ≤ 140737488355328) (hc : SlOf encR 4 w p c l) (hf : ∀ x ∈ l, x.name.size ≤ maxLen) :
    Calls Tryz.prog 14 #[.slice p l.length c] w fun e w' => (∃ q cap, e = .returned (.slice q (ris ((fstL l).flatMap evKeys)).length cap) ∧ SlOf encK 5 w' q cap (ris ((fstL l).flatMap evKeys))) ∧ Below w.heap.size w w' := by
  have hF := refFirst p c l w (by omega) hc
  have hfF : ∀ x ∈ fstL l, x.name.size ≤ maxLen := fun x hx => hf x (by
    have := (fstL_mem l x).1 hx
    rw [getP_find] at this
    exact List.mem_of_find?_eq_some this)
  obtain ⟨F, eF⟩ : ∃ F, fstL l = F := ⟨_, rfl⟩
  have lF : F.length * 3696 ≤ 140737488355328 := by rw [← eF]; have := fstL_len l; omega
  have f9 : (F.length : Int) ≤ 38078324771 := by omega
  rw [eF] at hF hfF ⊢
  obtain ⟨R, hR⟩ : ∃ R, F.flatMap evKeys = R := ⟨_, rfl⟩
  have HSort := hide (fun (W : World) (q : Option Addr) (c : Nat) (h : SlOf encK 5 W q c R) => refSort R (by rw [← hR]; have := ev_len F; omega) (by
    intro y hy
    rw [← hR] at hy
    obtain ⟨z, hz, hyz⟩ := List.mem_flatMap.1 hy
    have h1 := hfF z hz
    have h2 : y.word.size ≤ maxLen := by
      unfold evKeys at hyz
      split at hyz
      · split at hyz
        · rcases mem_num.1 hyz with rfl | ⟨_, _, rfl⟩ <;> exact mx0
        · rename_i hck hk1
          rcases chk_is z.kind z.num z.word with ⟨_, h5⟩ | ⟨h4, _⟩
          · have h6 : z.word.size ≤ 64 := by omega
            rcases mem_word.1 hyz with rfl | ⟨k, _, rfl⟩
            · exact mx64 h6
            · refine mx64 (Nat.le_trans ?_ h6)
              show (z.word.extract 0 k).size ≤ z.word.size
              rw [ByteArray.size_extract]
              omega
          · omega
      · simp at hyz
    exact ⟨by rw [ev_attr hyz]; exact h1, h2⟩) q c W h)
  rw [hR]
  have HR := hide hR
  clear hc hR hf hfF
  go_enter Tryz.func14, Tryz.ntmps14
  go_wp2_with (go_at_call 37; refine hF.mono ?_; rintro e w1 ⟨⟨q1, c1, rfl, o1⟩, b1⟩; have S1 := hide o1.ls; have B1 := hide b1; have s1 := b1.size; clear o1 b1)
  clear hF
  go_loopw [3, 5] (fun ov iv wr => ∃ (k m : Nat) (q : Option Addr) (c : Nat), k ≤ F.length ∧ Hid (m = ((F.take k).flatMap evKeys).length) ∧ ov = .slice q m c ∧ iv = .int .i64 k ∧ Hid (OwnK encK 46 5 w1.heap.size wr q c ((F.take k).flatMap evKeys)) ∧ Hid (Below w1.heap.size w1 wr)) (fun _ iv _ => F.length - (intOf iv).toNat)
  case atStart => exact ⟨0, 0, none, 0, Nat.zero_le _, hide (by simp), rfl, rfl, hide (by simpa using OwnK.nil _ _), hide (Below.refl _ _)⟩
  case round =>
    obtain ⟨k, m, q, c, hk, HM, rfl, rfl, HO, HB⟩ := hrel
    have sB := (unhide HB).size
    by_cases hlt : k < F.length
    · obtain ⟨x, hx, _⟩ := get_at hlt
      obtain ⟨bs, os, hqs, hbs, r0, r1, r2, r3⟩ := pairAt (unhide S1) hx
      subst hqs
      have p0 := ((unhide HB).cell (p := ⟨bs, os + k * 4, none⟩) hbs).trans r0
      have p1 := ((unhide HB).cell (p := ⟨bs, os + k * 4 + 1, none⟩) hbs).trans r1
      have p2 := ((unhide HB).cell (p := ⟨bs, os + k * 4 + 2, none⟩) hbs).trans r2
      have p3 := ((unhide HB).cell (p := ⟨bs, os + k * 4 + 3, none⟩) hbs).trans r3
      have e0 := World.new_ne wr _ p0
      have k0 : (0 : Int) ≤ (k : Int) := by omega
      have k1 : (k : Int) < (F.length : Int) := by omega
      have HT := hide (show (F.take (k + 1)).flatMap evKeys = (F.take k).flatMap evKeys ++ evKeys x by rw [take_snoc_of hx, List.flatMap_append]; simp)
      have HM6 := hide (show m ≤ k * 66 by have h1 := ev_len (F.take k); rw [← unhide HM, List.length_take] at h1; have : min k F.length = k := (by omega); rw [this] at h1; exact h1)
      have HK6 := hide (show (m + 66) * 56 ≤ 140737488355328 by have := unhide HM6; omega)
      obtain ⟨K, hK⟩ : ∃ K, (F.take k).flatMap evKeys = K := ⟨_, rfl⟩
      rw [hK] at HM HO HT
      clear hx r0 r1 r2 r3 hK
      go_wp2
      go_cut [6, 7] from 13 to 88 (fun s6 s7 V => s6 = .string x.name ∧ ∃ M : Nat, s7 = .pointer (some ⟨M, 0, none⟩) ∧ wr.heap.size ≤ M ∧ Hid (V.heap[M]? = some (.cells #[.int .i64 x.kind, .int .i64 x.num, .string x.word] 40 (0, 0))) ∧ Hid (Below wr.heap.size wr V))
      case first =>
        go_region_held3 (fun W' => W'.cell? ⟨bs, os + k * 4, none⟩ = some (.string x.name) ∧ W'.cell? ⟨bs, os + k * 4 + 1, none⟩ = some (.int .i64 x.kind) ∧ W'.cell? ⟨bs, os + k * 4 + 2, none⟩ = some (.int .i64 x.num) ∧ W'.cell? ⟨bs, os + k * 4 + 3, none⟩ = some (.string x.word)) (go_keep) (fail)
        all_goals
          go_wp2
          go_meet
          first
            | exact ⟨rfl, wr.heap.size, rfl, Nat.le_refl _, hide (World.alloc_heap_new _ _), hide ((Below.refl _ _).alloc (Nat.le_refl _) _)⟩
            | exact ⟨rfl, wr.heap.size, rfl, Nat.le_refl _, hide (World.alloc_heap_new _ _), hide ((Below.refl _ _).drew.alloc (Nat.le_refl _) _)⟩
            | exact ⟨rfl, wr.heap.size, rfl, Nat.le_refl _, hide (World.alloc_heap_new _ _), hide (((Below.refl _ _).drew.alloc (Nat.le_refl _) _).drew)⟩
            | exact ⟨rfl, wr.heap.size, rfl, Nat.le_refl _, hide (World.alloc_heap_new _ _), hide (((Below.refl _ _).alloc (Nat.le_refl _) _).drew)⟩
            | exact ⟨rfl, wr.heap.size, rfl, Nat.le_refl _, hide (World.alloc_heap_new _ _), hide ((Below.refl _ _).drew.drew.alloc (Nat.le_refl _) _)⟩
      case rest =>
        obtain ⟨rfl, M, rfl, lM, K8, BV⟩ := hcut
        obtain ⟨V, rfl⟩ : ∃ V, V = wc := ⟨_, rfl⟩
        obtain ⟨v0, v1, v2⟩ := of3 (unhide K8)
        have lV : M < V.heap.size := (Array.getElem?_eq_some_iff.1 (unhide K8)).1
        have sV := (unhide BV).size
        have OV := hide ((unhide HO).below (unhide BV))
        have AV := hide (away_of (unhide HO) lM)
        have BW := hide ((unhide HB).trans ((unhide BV).mono sB))
        have hck := refCheck_any x.kind x.num x.word V
        clear p0 p1 p2 p3 e0
        rcases chk_is x.kind x.num x.word with ⟨h1, h2⟩ | ⟨h1, h2⟩
        · by_cases hk1 : x.kind = 1
          · have hpn : x.num + 2147483648 = ((x.num + 2147483648).toNat : Int) := by omega
            have hpl : (x.num + 2147483648).toNat < 4294967296 := by omega
            have hev : evKeys x = numKeys x.name x.num (x.num + 2147483648).toNat := by unfold evKeys; rw [if_pos h1, if_pos hk1]
            have hevl : (evKeys x).length = 34 := by rw [hev]; simp [numKeys, pathL_len]
            obtain ⟨p9, hp⟩ : ∃ p, (x.num + 2147483648).toNat = p := ⟨_, rfl⟩
            rw [hp] at hpn hpl hev
            have HE := hide hev
            have HEL := hide hevl
            have hPa := fun (W : World) => rpath_any x.num p9 hpn hpl W
            have kb : (x.kind == 2) = false := by rw [hk1]; rfl
            rw [h1] at hck
            clear hev hevl h1 h2 hk1 hp hpn hpl
            go_wp2_with (first
              | (go_at_call 38; refine hck.mono ?_; rintro e w2 ⟨rfl, b2⟩; have B2 := hide b2; have s2 := b2.size; have K2 := hide ((b2.block M lV).trans (unhide K8)); (obtain ⟨u0, u1, u2⟩ := of3 (unhide K2)); have O2 := hide ((unhide OV).below b2); have BW2 := hide ((unhide BW).trans (b2.mono (by omega))); clear b2)
              | (at_builtin; refine wpList_appK rfl _ _ rfl w1.heap.size q c K (some ⟨w2.heap.size, 0, none⟩) 1 [kInt x.name x.num] m 1 (m + 1) (unhide HM).symm rfl rfl rfl rfl ((unhide O2).below ((Below.refl _ _).alloc (Nat.le_refl _) _)) (srcKyA _ _) (by have := unhide HK6; unfold maxLen; omega) (by have := unhide HK6; omega) (by simp; omega) ?_; intro q3 c3 w3 ho3 hb3 hs3; have O3 := hide ho3; have BW3 := hide ((unhide BW2).trans (((Below.refl w1.heap.size w2).alloc (by omega) _).trans hb3)); have s3 := hb3.size; have Y3 := hide (hs3.keep (M := M) (by simp; omega) (unhide AV)); have K3 := hide ((unhide Y3).1.trans ((((Below.refl w2.heap.size w2).alloc (Nat.le_refl _) _).block M (by omega)).trans (unhide K2))); clear ho3 hb3 hs3; (obtain ⟨i0, i1, i2⟩ := of3 (unhide K3)))
              | (go_at_call 39; refine (hPa _).mono ?_; rintro e w4 ⟨q4, c4, rfl, o4, b4⟩; have O4 := hide o4; have O3' := hide ((unhide O3).below b4); have BW4 := hide ((unhide BW3).trans (b4.mono (by have := (unhide BW3).size; omega))); have A4 := hide (fun (g : Nat) (hg : w3.heap.size ≤ g) => away_of (unhide O3) hg); clear o4 b4))
            obtain ⟨g, hqg, hBg, hgw⟩ := (unhide O4).someG (by simp [pathL_len])
            subst hqg
            have A9 := hide (unhide A4 g hBg)
            have C9 := hide (fun (j : Nat) (y : Nat × Nat) (hy : (pathL p9 33)[j]? = some y) => spAt (unhide O4).ls hy)
            clear u0 u1 u2 i0 i1 i2
            go_loopw [3, 10] (fun ov iv wr => ∃ (t n : Nat) (q' : Option Addr) (c' : Nat), t ≤ 33 ∧ Hid (n = m + 1 + t) ∧ ov = .slice q' n c' ∧ iv = .int .i64 t ∧ Hid (OwnK encK 46 5 w1.heap.size wr q' c' (K ++ [kInt x.name x.num] ++ (pathL p9 t).map (kSpan x.name))) ∧ Hid (wr.heap[g]? = w4.heap[g]?) ∧ Hid (Away q' g) ∧ Hid (Below w1.heap.size w1 wr)) (fun _ iv _ => 33 - (intOf iv).toNat)
            case atStart => exact ⟨0, m + 1, q3, c3, by omega, hide rfl, rfl, rfl, hide (by simpa [pathL] using unhide O3'), hide rfl, A9, BW4⟩
            case round =>
              obtain ⟨t, n, q', c', ht, HN, rfl, rfl, HOt, HKt, HAt, HBt⟩ := hrel
              have sBt := (unhide HBt).size
              by_cases htl : t < 33
              · have hy : (pathL p9 33)[t]? = some (t, p9 / 2 ^ t) := pathL_get p9 33 t htl
                obtain ⟨g', o', hq', _, y0, y1⟩ := unhide C9 t _ hy
                cases hq'
                rw [Nat.zero_add] at y0 y1
                have z0 := (cell_same (unhide HKt) _).trans y0
                have z1 := (cell_same (unhide HKt) _).trans y1
                have HT2 := hide (show (K ++ [kInt x.name x.num] ++ (pathL p9 (t + 1)).map (kSpan x.name)) = (K ++ [kInt x.name x.num] ++ (pathL p9 t).map (kSpan x.name)) ++ [kSpan x.name (t, p9 / 2 ^ t)] by rw [← pathL_step, List.map_append, ← List.append_assoc]; rfl)
                have hlk : (K ++ [kInt x.name x.num] ++ (pathL p9 t).map (kSpan x.name)).length = n := by rw [unhide HN, unhide HM]; simp [pathL_len]; omega
                have HLK := hide hlk
                obtain ⟨J, hJ⟩ : ∃ J, p9 / 2 ^ t = J := ⟨_, rfl⟩
                simp only [hJ] at z1 z0
                rw [hJ] at HT2
                have t0 : (0 : Int) ≤ (t : Int) := by omega
                have t1 : (t : Int) < 33 := by omega
                have lG : g < wr.heap.size := by
                  have h4 := unhide HKt
                  rw [Array.getElem?_eq_getElem hgw] at h4
                  exact (Array.getElem?_eq_some_iff.1 h4).1
                have HCY : ∀ W' : World, W'.heap[g]? = wr.heap[g]? → (W'.cell? ⟨g, t * 2, none⟩ = some (.int .i64 (t : Int)) ∧ W'.cell? ⟨g, t * 2 + 1, none⟩ = some (.int .i64 (J : Int))) := fun W' hW => ⟨(cell_same hW _).trans z0, (cell_same hW _).trans z1⟩
                have HAL : ∀ o, (wr.alloc o).heap[g]? = wr.heap[g]? := fun o => ((Below.refl wr.heap.size wr).alloc (Nat.le_refl _) o).block g lG
                clear hlk hJ y0 y1 hy
                go_wp2
                go_region_held3 (fun W' => W'.cell? ⟨g, t * 2, none⟩ = some (.int .i64 (t : Int)) ∧ W'.cell? ⟨g, t * 2 + 1, none⟩ = some (.int .i64 (J : Int))) (first | exact HCY _ (unhide Y5).1 | exact HCY _ rfl | exact HCY _ (HAL _) | go_keep) (first
                  | (refine step_appK (by rfl) _ _ (by rfl) w1.heap.size q' c' (K ++ [kInt x.name x.num] ++ (pathL p9 t).map (kSpan x.name)) (some ⟨wr.heap.size, 0, none⟩) 1 [kSpan x.name (t, J)] n 1 (n + 1) (unhide HLK) rfl rfl (by rfl) (by rfl) ((unhide HOt).below (by first | exact (Below.refl _ _).alloc (Nat.le_refl _) _ | exact (Below.refl _ _).drew.alloc (Nat.le_refl _) _ | exact (Below.refl _ _).drew.drew.alloc (Nat.le_refl _) _)) (srcKyA _ _) (by have := unhide HN; have := unhide HK6; unfold maxLen; omega) (by have := unhide HN; have := unhide HK6; omega) (by simp; omega) ?_; intro q5 c5 w5 ho5 hb5 hs5; have HO5 := hide ho5; have HB5 := hide (show Below w1.heap.size w1 w5 by first | exact ((unhide HBt).alloc (by omega) _).trans hb5 | exact ((unhide HBt).alloc (by omega) _).drew.trans hb5 | exact ((unhide HBt).alloc (by omega) _).drew.drew.trans hb5 | exact ((unhide HBt).drew.alloc (by omega) _).trans hb5 | exact ((unhide HBt).drew.drew.alloc (by omega) _).trans hb5); have Y5 := hide (show w5.heap[g]? = wr.heap[g]? ∧ Away q5 g from ⟨(hs5.keep (M := g) (by simp; omega) (unhide HAt)).1.trans (HAL _), (hs5.keep (M := g) (by simp; omega) (unhide HAt)).2⟩); clear ho5 hb5 hs5))
                all_goals
                  go_wp2
                  go_roundw
                  case rel => exact ⟨t + 1, n + 1, q5, c5, by omega, hide (by have := unhide HN; omega), rfl, by go_num, hide (by rw [unhide HT2]; exact unhide HO5), hide ((unhide Y5).1.trans (unhide HKt)), hide (unhide Y5).2, HB5⟩
                  case measure => simp [intOf]; omega
              · obtain rfl : t = 33 := by omega
                go_wp2
                go_roundw
                case rel => exact ⟨k + 1, n, q', c', by omega, hide (by rw [unhide HT, List.length_append, unhide HEL, ← unhide HM, unhide HN]), rfl, by go_num, hide (by rw [unhide HT, unhide HE]; have := unhide HOt; rw [List.append_assoc] at this; exact this), HBt⟩
                case measure => simp [intOf]; omega

          · have hsz : x.word.size ≤ 64 := by omega
            have hev : evKeys x = wordKeys x.name x.word := by unfold evKeys; rw [if_pos h1, if_neg hk1]
            have hevl : (evKeys x).length = 1 + (x.word.size + 1) := by rw [hev]; simp [wordKeys]; omega
            have HE := hide hev
            have HEL := hide hevl
            have hk2 : x.kind = 2 := by omega
            have kb : (x.kind == 2) = true := by simpa using hk2
            rw [h1] at hck
            have sz9 : (x.word.size : Int) ≤ 64 := by omega
            clear hev hevl h1 h2 hk1 hk2
            go_wp2_with (first
              | (go_at_call 38; refine hck.mono ?_; rintro e w2 ⟨rfl, b2⟩; have B2 := hide b2; have s2 := b2.size; have K2 := hide ((b2.block M lV).trans (unhide K8)); (obtain ⟨u0, u1, u2⟩ := of3 (unhide K2)); have O2 := hide ((unhide OV).below b2); have BW2 := hide ((unhide BW).trans (b2.mono (by omega))); clear b2)
              | (at_builtin; refine wpList_appK rfl _ _ rfl w1.heap.size q c K (some ⟨w2.heap.size, 0, none⟩) 1 [kWord x.name x.word] m 1 (m + 1) (unhide HM).symm rfl rfl rfl rfl ((unhide O2).below ((Below.refl _ _).alloc (Nat.le_refl _) _)) (srcKyA _ _) (by have := unhide HK6; unfold maxLen; omega) (by have := unhide HK6; omega) (by simp; omega) ?_; intro q3 c3 w3 ho3 hb3 hs3; have O3 := hide ho3; have BW3 := hide ((unhide BW2).trans (((Below.refl w1.heap.size w2).alloc (by omega) _).trans hb3)); have s3 := hb3.size; have Y3 := hide (hs3.keep (M := M) (by simp; omega) (unhide AV)); have K3 := hide ((unhide Y3).1.trans ((((Below.refl w2.heap.size w2).alloc (Nat.le_refl _) _).block M (by omega)).trans (unhide K2))); clear ho3 hb3 hs3))
            go_loopw [3, 8] (fun ov iv wr => ∃ (t n : Nat) (q' : Option Addr) (c' : Nat), t ≤ x.word.size + 1 ∧ Hid (n = m + 1 + t) ∧ ov = .slice q' n c' ∧ iv = .int .i64 t ∧ Hid (OwnK encK 46 5 w1.heap.size wr q' c' (K ++ [kWord x.name x.word] ++ (List.range t).map fun k => kPre x.name (x.word.extract 0 k))) ∧ Hid (wr.heap[M]? = some (.cells #[.int .i64 x.kind, .int .i64 x.num, .string x.word] 40 (0, 0))) ∧ Hid (Away q' M) ∧ Hid (Below w1.heap.size w1 wr)) (fun _ iv _ => x.word.size + 1 - (intOf iv).toNat)
            case atStart => exact ⟨0, m + 1, q3, c3, by omega, hide rfl, rfl, rfl, hide (by simpa using unhide O3), K3, hide (unhide Y3).2, BW3⟩
            case round =>
              obtain ⟨t, n, q', c', ht, HN, rfl, rfl, HOt, HKt, HAt, HBt⟩ := hrel
              have sBt := (unhide HBt).size
              clear u0 u1 u2
              obtain ⟨u0, u1, u2⟩ := of3 (unhide HKt)
              by_cases htl : t < x.word.size + 1
              · have HT2 := hide (show (K ++ [kWord x.name x.word] ++ (List.range (t + 1)).map fun k => kPre x.name (x.word.extract 0 k)) = (K ++ [kWord x.name x.word] ++ (List.range t).map fun k => kPre x.name (x.word.extract 0 k)) ++ [kPre x.name (x.word.extract 0 t)] by rw [List.range_succ, List.map_append, ← List.append_assoc]; rfl)
                have hlk : (K ++ [kWord x.name x.word] ++ (List.range t).map fun k => kPre x.name (x.word.extract 0 k)).length = n := by rw [unhide HN, unhide HM]; simp; omega
                have HLK := hide hlk
                have t0 : (0 : Int) ≤ (t : Int) := by omega
                have t2 : (t : Int) ≤ (x.word.size : Int) := by omega
                have lMt : M < wr.heap.size := (Array.getElem?_eq_some_iff.1 (unhide HKt)).1
                clear hlk
                go_wp2_with (at_builtin; refine wpList_appK rfl _ _ rfl w1.heap.size q' c' (K ++ [kWord x.name x.word] ++ (List.range t).map fun k => kPre x.name (x.word.extract 0 k)) (some ⟨wr.heap.size, 0, none⟩) 1 [kPre x.name (x.word.extract 0 t)] n 1 (n + 1) (unhide HLK) rfl rfl rfl rfl ((unhide HOt).below ((Below.refl _ _).alloc (Nat.le_refl _) _)) (srcKyA _ _) (by have := unhide HN; have := unhide HK6; unfold maxLen; omega) (by have := unhide HN; have := unhide HK6; omega) (by simp; omega) ?_; intro q5 c5 w5 ho5 hb5 hs5; have HO5 := hide ho5; have HB5 := hide ((unhide HBt).trans (((Below.refl w1.heap.size wr).alloc (by omega) _).trans hb5)); have Y5 := hide (hs5.keep (M := M) (by simp; omega) (unhide HAt)); have K5 := hide ((unhide Y5).1.trans ((((Below.refl wr.heap.size wr).alloc (Nat.le_refl _) _).block M lMt).trans (unhide HKt))); clear ho5 hb5 hs5)
                go_roundw
                case rel => exact ⟨t + 1, n + 1, q5, c5, by omega, hide (by have := unhide HN; omega), rfl, by go_num, hide (by rw [unhide HT2]; exact unhide HO5), K5, hide (unhide Y5).2, HB5⟩
                case measure => simp [intOf]; omega
              · obtain rfl : t = x.word.size + 1 := by omega
                have t2 : ¬ ((x.word.size + 1 : Nat) : Int) ≤ (x.word.size : Int) := by omega
                have t3 : ¬ ((x.word.size : Int) + 1 ≤ (x.word.size : Int)) := by omega
                go_wp2
                go_roundw
                case rel => exact ⟨k + 1, n, q', c', by omega, hide (by rw [unhide HT, List.length_append, unhide HEL, ← unhide HM, unhide HN]; omega), rfl, by go_num, hide (by rw [unhide HT, unhide HE]; have := unhide HOt; rw [List.append_assoc] at this; exact this), HBt⟩
                case measure => simp [intOf]; omega

        · rw [h1] at hck
          have hev : evKeys x = [] := by unfold evKeys; rw [if_neg (by omega)]
          have HE := hide hev
          clear hev h1 h2
          go_wp2_with (go_at_call 38; refine hck.mono ?_; rintro e w2 ⟨rfl, b2⟩; have B2 := hide b2; have s2 := b2.size; clear b2)
          go_roundw
          case rel => exact ⟨k + 1, m, q, c, by omega, hide (by rw [unhide HT, unhide HE, List.append_nil]; exact unhide HM), rfl, by go_num, hide (by rw [unhide HT, unhide HE, List.append_nil]; exact (unhide OV).below (unhide B2)), hide ((unhide BW).trans ((unhide B2).mono (by omega)))⟩
          case measure => simp [intOf]; omega
    · obtain rfl : k = F.length := by omega
      have k1 : ¬ (F.length : Int) < (F.length : Int) := by omega
      have ho := unhide HO
      have hm := unhide HM
      rw [List.take_length, unhide HR] at ho hm
      subst hm
      have hS := unhide HSort wr q c ho.ls
      clear ho
      go_wp2_with (go_at_call 36; refine hS.mono ?_; rintro e w9 ⟨⟨q9, c9, rfl, o9⟩, b9⟩; have O9 := hide o9.ls; have B9 := hide b9; clear o9 b9)
      go_ret
      exact ⟨⟨q9, c9, rfl, unhide O9⟩, below_sub (below_sub (unhide B1) (unhide HB)) (unhide B9)⟩
end Go.Proofs.YtedakipjfpdajaaGreatDoor

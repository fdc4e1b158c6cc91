/- A list's Drop; Merge. -/
import Derived.Test.YtelgpmjafaopmaaAdd
namespace Go.Proofs.Ytelgpmjafaopmaa
open Go.RowKit Go.Sort Go.Shelf

set_option maxHeartbeats 2000000 in
set_option maxRecDepth 100000 in
theorem dropL (B L : Nat) (q : Option Addr) (cap : Nat) (l : List Pt) (p : Option Addr) (c : Nat) (ids : List Int) (w : World) (h : Lst w B L q cap l) (hs : SlOf encI 1 w p c ids) (hB : B ≤ w.heap.size) (hb : l.length * 16 ≤ 140737488355328) (hbi : ids.length * 8 ≤ 140737488355328) :
    Calls Try.prog 22 #[.pointer (some ⟨L, 0, none⟩), .slice p ids.length c] w fun e w' => e = .returned (.int .i64 ((l.length - (wo l ids).length : Nat) : Int)) ∧ Turned B L w q (wo l ids) w' := by
  have mixed : Try.prog.follows .mixedOrders = true := by kernel_rfl
  have c0 := h.cell
  have hv := valuesI p ids.length c w.drew
  have hal : Below w.heap.size w (w.drew.alloc (.cells #[.slice p ids.length c] 37)) := ((Below.refl _ _).drew).alloc (Nat.le_refl _) _
  have hso := sortedI w.heap.size p c ids hbi (w.drew.alloc (.cells #[.slice p ids.length c] 37)) (by simp) (Boxed.new w.drew 37 _).cell (hs.below hal)
  have hwo := fun (W : World) (hbW : Below w.heap.size w W) (q1 : Option Addr) (cap1 : Nat) (ids' : List Int) (hp : ids'.Perm ids) (hw : WkI ids') (ho1 : SlOf encI 1 W q1 cap1 ids') => (show Calls Try.prog 39 #[.slice q l.length cap, .slice q1 ids.length cap1] W _ from hp.length_eq ▸ withoutP q cap l q1 cap1 ids' W (h.2.ls.below hbW) ho1 hw hb (by have := hp.length_eq; omega))
  have hls := wo_len l ids
  obtain ⟨n, hn⟩ : ∃ n, l.length - (wo l ids).length = n := ⟨_, rfl⟩
  have hnw : IntKind.i64.wrap ((l.length : Int) - ((wo l ids).length : Int)) = (n : Int) := by
    rw [show (l.length : Int) - ((wo l ids).length : Int) = (n : Int) by omega]; exact wrap_nat n (by omega)
  rw [hn]
  have HL := hide h
  have HAL := hide hal
  have n1 := World.new_ne w ⟨L, 0, none⟩ c0
  have n2 := Ne.symm n1
  have c1 : (w.alloc (.cells #[.slice p ids.length c] 37)).cell? ⟨L, 0, none⟩ = some (.slice q l.length cap) := (((Below.refl w.heap.size w).alloc (Nat.le_refl _) _).cell (p := ⟨L, 0, none⟩) h.lt).trans c0
  have c3 : (w.drew.alloc (.cells #[.slice p ids.length c] 37)).cell? ⟨L, 0, none⟩ = some (.slice q l.length cap) := c1
  have hc2 : ∀ (W1 : World), W1.heap[L]? = some (.cells #[.slice q l.length cap] 66 (0, 0)) → W1.cell? ⟨L, 0, none⟩ = some (.slice q l.length cap) ∧ W1.frozen? ⟨L, 0, none⟩ = false := fun W1 h1 => by unfold World.cell? World.frozen?; simp [h1]
  have hwp := fun (ids' : List Int) (hp : ids'.Perm ids) => wo_perm l hp
  clear h hs hls hn hal
  generalize wo l ids = R at *
  go_enter Try.func22, Try.ntmps22
  go_wp2
  go_region_with (first
    | (go_at_call 41; refine hv.mono ?_; rintro e w1 ⟨rfl, rfl⟩)
    | (go_at_call 40; refine hso.mono ?_; rintro e w2 ⟨⟨q1, cap1, ids', rfl, hp, hw, ho1⟩, hb2⟩; have hb3 := below_sub (unhide HAL) hb2; have c2 := (hb3.cell (p := ⟨L, 0, none⟩) (unhide HL).lt).trans c0; have HB3 := hide hb3; have HP := hide hp; have HW := hide hw; have HO1 := hide ho1; clear hb2 hb3 hp hw ho1)
    | (go_at_call 39; refine (hwo _ (unhide HB3) q1 cap1 ids' (unhide HP) (unhide HW) (unhide HO1)).mono ?_; rintro e w4 ⟨⟨q4, cap4, he4, ho4⟩, hb4⟩; rw [hwp ids' (unhide HP)] at he4 ho4; subst he4; have HB4 := hide (below_sub (unhide HB3) hb4); have HS4 := hide (stays_new (q := q) (q' := q4) (unhide HB4) (ho4.fresh (unhide HB3).size)); have HO4 := hide (ho4.mono (Nat.le_trans hB (unhide HB3).size)); have hput := (unhide HL).put (unhide HS4) (unhide HO4); obtain ⟨a0, f0⟩ := hc2 _ hput.1; have HQ := hide hput.2; clear hput ho4 hb4))
  all_goals
    clear hv hso hwo c1 c2 c3 hc2 hwp
    go_wp2
    go_ret
    exact ⟨rfl, q4, cap4, w4, unhide HS4, (unhide HB4).mono hB, unhide HO4, rfl⟩
end Go.Proofs.Ytelgpmjafaopmaa

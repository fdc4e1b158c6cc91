/- One call on both disks: kind 2. -/
import Derived.Test.YtonhagoeajhacaaD5
import Derived.Deep.RegionLaw
namespace Go.Proofs.Ytonhagoeajhacaa
open Go.RowKit Go.Sort Go.Shelf

set_option maxHeartbeats 8000000 in
set_option maxRecDepth 100000 in
theorem do_2 {A : Nat} {B P : Nat → Prop} {w : World} {d g : Nat} {s : Dk} {r : Rk} {Z : Nat} (hj : J B P w d g s r) (hr : Rel s r Z) (hZ : Z ≤ 400000000) (hn : s.n ≤ 400) (ha : s.acts ≤ 400) (hl : r.fs.length ≤ 400) (hA : ∀ i, i < A → B i) (hAg : A ≤ g) (kd : Int) (nm tt : ByteArray) (pb : Option Addr) (cb : Nat) (bs : List UInt8) (n m : Int) (pi : Option Addr) (ci : Nat) (is : List Int) (sb : SlIn encB 1 (· < A) w pb cb bs) (si : SlIn encI 1 (· < A) w pi ci is) (hbl : bs.length ≤ 100000000) (hil : is.length ≤ 100000000) (hnn : n ≤ 9223372036854775807) (hk : kd = 2) :
    Calls Try.prog 6 #[.pointer (some ⟨d, 0, none⟩), .pointer (some ⟨g, 0, none⟩), .agg #[.int .i64 kd, .string nm, .string tt, .slice pb bs.length cb, .int .i64 n, .int .i64 m, .slice pi is.length ci]] w fun e w' => DoR A w s r (Z + bs.length) e w' := by
  have _u := And.intro ha (And.intro hil hnn)
  clear _u
  have HK := hide hk
  clear hk
  obtain ⟨Y, hY⟩ : ∃ Y, w.alloc (.cells #[.int .i64 kd, .string nm, .string tt, .slice pb bs.length cb, .int .i64 n, .int .i64 m, .slice pi is.length ci] 33) = Y := ⟨_, rfl⟩
  have bY : Below w.heap.size w Y := by rw [← hY]; exact (Below.refl _ _).alloc (Nat.le_refl _) _
  have kY : Y.heap[w.heap.size]? = some (.cells #[.int .i64 kd, .string nm, .string tt, .slice pb bs.length cb, .int .i64 n, .int .i64 m, .slice pi is.length ci] 33 (0, 0)) := by rw [← hY]; exact heap_alloc_new _ _
  have hlY : w.heap.size < Y.heap.size := (Array.getElem?_eq_some_iff.1 kY).1
  have hcells : ∀ W : World, W.heap[w.heap.size]? = Y.heap[w.heap.size]? → (W.cell? ⟨w.heap.size, 0, none⟩ = some (.int .i64 kd) ∧ W.cell? ⟨w.heap.size, 1, none⟩ = some (.string nm) ∧ W.cell? ⟨w.heap.size, 2, none⟩ = some (.string tt)) ∧ (W.cell? ⟨w.heap.size, 3, none⟩ = some (.slice pb bs.length cb) ∧ W.cell? ⟨w.heap.size, 4, none⟩ = some (.int .i64 n) ∧ W.cell? ⟨w.heap.size, 5, none⟩ = some (.int .i64 m)) ∧ W.cell? ⟨w.heap.size, 6, none⟩ = some (.slice pi is.length ci) := fun W hW => by
    have h1 := hW.trans kY
    refine ⟨⟨?_, ?_, ?_⟩, ⟨?_, ?_, ?_⟩, ?_⟩ <;> (unfold World.cell?; rw [h1]; rfl)
  obtain ⟨N1, hN1⟩ : ∃ N1, bs.length + 1 = N1 := ⟨_, rfl⟩
  obtain ⟨cur, hcs, hmk⟩ := makeB N1 (by omega)
  have i1 : (bs.length : Int) + 1 = (N1 : Int) := by omega
  have i2 : IntKind.i64.wrap (N1 : Int) = (N1 : Int) := wrap_nat _ (by omega)
  have i0 : (0 : Int) ≤ (bs.length : Int) := by omega
  have hN1m : N1 ≤ maxLen := by unfold maxLen; omega
  have keepS : ∀ W, Below Y.heap.size Y W → W.cell? ⟨w.heap.size, 3, none⟩ = some (.slice pb bs.length cb) := fun W bW => (hcells W (bW.block _ hlY)).2.1.1
  have sbY : SlOf encB 1 Y pb cb bs := (sb.kept bY.size fun i _ hl => bY.block i hl).1
  have bA : Below Y.heap.size Y (Y.alloc (.cells cur 5)) := (Below.refl _ _).alloc (Nat.le_refl _) _
  have bD : Below Y.heap.size Y (Y.alloc (.cells #[.int .u8 199] 5)) := (Below.refl _ _).alloc (Nat.le_refl _) _
  have bB : Below Y.heap.size Y ((Y.alloc (.cells #[.int .u8 199] 5)).alloc (.cells cur 5)) := bD.alloc bD.size _
  have bC : Below Y.heap.size Y ((Y.alloc (.cells cur 5)).alloc (.cells #[.int .u8 199] 5)) := bA.alloc bA.size _
  have oA : OwnK encB 5 1 Y.heap.size (Y.alloc (.cells cur 5)) (some ⟨Y.heap.size, 0, none⟩) N1 [] := ownB (Nat.le_refl _) hN1m hcs
  have oB : OwnK encB 5 1 Y.heap.size ((Y.alloc (.cells #[.int .u8 199] 5)).alloc (.cells cur 5)) (some ⟨Y.heap.size + 1, 0, none⟩) N1 [] := by
    have := ownB (w := Y.alloc (.cells #[.int .u8 199] 5)) bD.size hN1m hcs
    rw [show (Y.alloc (.cells #[.int .u8 199] 5)).heap.size = Y.heap.size + 1 by simp] at this
    exact this
  have oC : OwnK encB 5 1 Y.heap.size ((Y.alloc (.cells cur 5)).alloc (.cells #[.int .u8 199] 5)) (some ⟨Y.heap.size, 0, none⟩) N1 [] := oA.below ((Below.refl _ _).alloc (Nat.le_refl _) _)
  have kB : ((Y.alloc (.cells #[.int .u8 199] 5)).alloc (.cells cur 5)).heap[Y.heap.size]? = some (.cells #[.int .u8 199] 5 (0, 0)) := (((Below.refl _ _).alloc (Nat.le_refl _) _).block Y.heap.size (by simp)).trans (heap_alloc_new _ _)
  have kC : ((Y.alloc (.cells cur 5)).alloc (.cells #[.int .u8 199] 5)).heap[Y.heap.size + 1]? = some (.cells #[.int .u8 199] 5 (0, 0)) := by
    have := heap_alloc_new (Y.alloc (.cells cur 5)) (.cells #[.int .u8 199] 5)
    rw [show (Y.alloc (.cells cur 5)).heap.size = Y.heap.size + 1 by simp] at this
    exact this
  have OA := hide oA
  have OB := hide oB
  have OC := hide oC
  have SA := hide (sbY.below bA).src
  have SB := hide (sbY.below bB).src
  have SC := hide (sbY.below bC).src
  have BA := hide bA
  have BB := hide bB
  have BC := hide bC
  have KB := hide kB
  have KC := hide kC
  have KEEP := hide keepS
  have HC := hide hcells
  have BY := hide bY
  have HJ := hide hj
  have HR := hide hr
  have SBI := hide sb
  have SII := hide si
  have HAB := hide hA
  have HN1 := hide hN1
  have HKY := hide kY
  clear hj hr sb si hA hcs hN1 sbY bA bD bB bC oA oB oC kB kC keepS hcells bY kY
  go_enter Try.func6, Try.ntmps6
  go_upto_region 1 with fail
  go_cut [9] from 15 (fun s9 V => ∃ (b : Nat) (c : Nat), s9 = .slice (some ⟨b, 0, none⟩) N1 c ∧ Hid (OwnK encB 5 1 Y.heap.size V (some ⟨b, 0, none⟩) c (bs ++ [199])) ∧ Hid (Below Y.heap.size Y V))
  case first =>
    have c3 := unhide KEEP Y (Below.refl _ _)
    go_region_held3 (fun W => W.cell? ⟨w.heap.size, 3, none⟩ = some (.slice pb bs.length cb)) (first | exact unhide KEEP _ (unhide B24) | exact unhide KEEP _ (unhide B24).drew | exact unhide KEEP _ (unhide B22) | exact unhide KEEP _ (unhide B22).drew | exact unhide KEEP _ ((unhide B22).alloc (unhide B22).size _) | exact unhide KEEP _ ((unhide B22).alloc (unhide B22).size _).drew | exact unhide KEEP _ (unhide B22).drew | exact unhide KEEP _ (Below.refl _ _).drew | exact unhide KEEP _ (unhide BB) | exact unhide KEEP _ (unhide BC) | exact unhide KEEP _ (unhide BA) | exact unhide KEEP _ (unhide BB).drew | exact unhide KEEP _ (unhide BC).drew | exact unhide KEEP _ (unhide BA).drew | exact unhide KEEP _ ((Below.refl _ _).alloc (Nat.le_refl _) _) | exact unhide KEEP _ ((Below.refl _ _).alloc (Nat.le_refl _) _).drew | go_keep) (first
      | (refine step_app rowB (by rfl) (.tmp 22) (.tmp 23) (by rfl) Y.heap.size q22 c22 bs (some ⟨Y.heap.size, 0, none⟩) 1 [199] bs.length 1 N1 rfl rfl (unhide HN1) (by rfl) (by rfl) (own_heap (by rfl) (unhide O22)) (src_heap (by rfl) (unhide S22)) (by omega) (by omega) (unhide B22).size ?_; intro q24 c24 w24 o24 b24 _ _; obtain ⟨g24, hg24⟩ := OwnB o24; subst hg24; have O24 := hide o24; have B24 : Hid (Below Y.heap.size Y w24) := hide (Below.trans (by first | exact unhide B22 | exact (unhide B22).drew | exact (unhide B22).drew.drew) b24); clear o24 b24)
      | (refine step_app rowB (by rfl) (.tmp 22) (.tmp 23) (by rfl) Y.heap.size q22 c22 bs (some ⟨Y.heap.size + 1, 0, none⟩) 1 [199] bs.length 1 N1 rfl rfl (unhide HN1) (by rfl) (by rfl) (own_heap (by rfl) (unhide O22)) (src_heap (by rfl) (unhide S22)) (by omega) (by omega) (unhide B22).size ?_; intro q24 c24 w24 o24 b24 _ _; obtain ⟨g24, hg24⟩ := OwnB o24; subst hg24; have O24 := hide o24; have B24 : Hid (Below Y.heap.size Y w24) := hide (Below.trans (by first | exact unhide B22 | exact (unhide B22).drew | exact (unhide B22).drew.drew) b24); clear o24 b24)
      | (refine step_app rowB (by rfl) (.tmp 22) (.tmp 23) (by rfl) Y.heap.size q22 c22 bs (some ⟨w22.heap.size, 0, none⟩) 1 [199] bs.length 1 N1 rfl rfl (unhide HN1) (by rfl) (by rfl) (own_heap (w := w22.alloc (.cells #[.int .u8 199] 5)) (by rfl) ((unhide O22).below ((Below.refl _ _).alloc (Nat.le_refl _) _))) (src_heap (w := w22.alloc (.cells #[.int .u8 199] 5)) (by rfl) (srcB1 (heap_alloc_new _ _))) (by omega) (by omega) (by have := (unhide B22).size; simp; omega) ?_; intro q24 c24 w24 o24 b24 _ _; obtain ⟨g24, hg24⟩ := OwnB o24; subst hg24; have O24 := hide o24; have B24 : Hid (Below Y.heap.size Y w24) := hide (Below.trans (by first | exact (unhide B22).alloc (unhide B22).size _ | exact ((unhide B22).alloc (unhide B22).size _).drew | exact ((unhide B22).drew).alloc (unhide B22).size _) b24); clear o24 b24)
      | (refine step_app rowB (by rfl) (.tmp 19) (.tmp 21) (by rfl) Y.heap.size (some ⟨Y.heap.size + 1, 0, none⟩) N1 [] pb cb bs 0 bs.length bs.length rfl rfl (Nat.zero_add _) (by rfl) (by rfl) (own_heap (by rfl) (unhide OB)) (src_heap (by rfl) (unhide SB)) (by omega) (by omega) (unhide BB).size ?_; intro q22 c22 w22 o22 b22 _ g22; have O22 := hide o22; have B22 : Hid (Below Y.heap.size Y w22) := hide (Below.trans (by first | exact unhide BB | exact (unhide BB).drew) b22); have S22 : Hid (SrcK encB 1 w22 (some ⟨Y.heap.size, 0, none⟩) 1 [199]) := hide (srcB1 ((g22.block Y.heap.size (by simp <;> omega) (by simp [Value.ownBlock] <;> omega)).trans (unhide KB))); clear o22 b22 g22)
      | (refine step_app rowB (by rfl) (.tmp 19) (.tmp 21) (by rfl) Y.heap.size (some ⟨Y.heap.size, 0, none⟩) N1 [] pb cb bs 0 bs.length bs.length rfl rfl (Nat.zero_add _) (by rfl) (by rfl) (own_heap (by rfl) (unhide OC)) (src_heap (by rfl) (unhide SC)) (by omega) (by omega) (unhide BC).size ?_; intro q22 c22 w22 o22 b22 _ g22; have O22 := hide o22; have B22 : Hid (Below Y.heap.size Y w22) := hide (Below.trans (by first | exact unhide BC | exact (unhide BC).drew) b22); have S22 : Hid (SrcK encB 1 w22 (some ⟨Y.heap.size + 1, 0, none⟩) 1 [199]) := hide (srcB1 ((g22.block (Y.heap.size + 1) (by simp <;> omega) (by simp [Value.ownBlock] <;> omega)).trans (unhide KC))); clear o22 b22 g22)
      | (refine step_app rowB (by rfl) (.tmp 19) (.tmp 21) (by rfl) Y.heap.size (some ⟨Y.heap.size, 0, none⟩) N1 [] pb cb bs 0 bs.length bs.length rfl rfl (Nat.zero_add _) (by rfl) (by rfl) (own_heap (by rfl) (unhide OA)) (src_heap (by rfl) (unhide SA)) (by omega) (by omega) (unhide BA).size ?_; intro q22 c22 w22 o22 b22 _ _; have O22 := hide o22; have B22 : Hid (Below Y.heap.size Y w22) := hide (Below.trans (by first | exact unhide BA | exact (unhide BA).drew) b22); clear o22 b22))
    all_goals
      go_wp2
      go_meet
      exact ⟨g24, c24, rfl, O24, B24⟩
  case rest =>
    obtain ⟨b0, c0, rfl, HO, HB⟩ := hcut
    obtain ⟨V, rfl⟩ : ∃ V, V = wc := ⟨_, rfl⟩
    have bV : Below w.heap.size w V := below_sub (unhide BY) (unhide HB)
    have hgl : g < w.heap.size := (unhide HJ).sub g (unhide HJ).bg
    have hVl : Y.heap.size ≤ V.heap.size := (unhide HB).size
    have hb0 : Y.heap.size ≤ b0 ∧ b0 < V.heap.size := by
      obtain ⟨h1, cu, hcu⟩ := own_type (unhide HO) rfl
      exact ⟨h1, (Array.getElem?_eq_some_iff.1 hcu).1⟩
    obtain ⟨B1, hB1⟩ : ∃ B1, more B w V = B1 := ⟨_, rfl⟩
    have hj1 : J B1 P V d g s r := by rw [← hB1]; exact (unhide HJ).grow bV
    have pk0 : Pk B1 P V d g B1 P V s r := Pk.start hj1
    have hBn : ∀ i, w.heap.size ≤ i → i < V.heap.size → B1 i ∧ i ≠ g := fun i h1 h2 => ⟨by rw [← hB1]; exact Or.inr ⟨h1, h2⟩, by omega⟩
    have hA1 : ∀ i, i < A → B1 i := fun i hi => by rw [← hB1]; exact Or.inl (unhide HAB i hi)
    have hAw : A ≤ w.heap.size := by omega
    have kV : V.heap[w.heap.size]? = Y.heap[w.heap.size]? := (unhide HB).block _ hlY
    have hbx : ∀ (B' P' : Nat → Prop) (W : World) (s' : Dk) (r' : Rk), Pk B1 P V d g B' P' W s' r' → W.heap[w.heap.size]? = Y.heap[w.heap.size]? := fun B' P' W s' r' h => (h.cellsB (hBn _ (Nat.le_refl _) (by omega)).1 (by omega) (by omega)).trans kV
    have hS := fun (B' P' : Nat → Prop) (W : World) (s' : Dk) (r' : Rk) (h : Pk B1 P V d g B' P' W s' r') => unhide HC W (hbx B' P' W s' r' h)
    have sbV : SlIn encB 1 (· < A) V pb cb bs := (unhide SBI).kept bV.size fun i _ hl => bV.block i hl
    have siV : SlIn encI 1 (· < A) V pi ci is := (unhide SII).kept bV.size fun i _ hl => bV.block i hl
    have hfin : ∀ (B' P' : Nat → Prop) (W : World) (s' : Dk) (r' : Rk) (Z' : Nat), Pk B1 P V d g B' P' W s' r' → Rel s' r' Z' → Z' ≤ Z + bs.length → Cnt s s' → r'.fs.length ≤ r.fs.length + 1 → FinR A w Y d g s r (Z + bs.length) W := fun B' P' W s' r' Z' h h1 h2 h3 h4 => ⟨B', P', s', r', h.j, h1.mono h2, h3, h4, fun i hi => h.bb i (hA1 i hi), hbx _ _ _ _ _ h, (bV.mono hAw).trans (h.fr.blw hA1 hAg (by omega))⟩
    have hdat : ∀ (B' P' : Nat → Prop) (W : World) (s' : Dk) (r' : Rk), Pk B1 P V d g B' P' W s' r' → OwnK encB 5 1 Y.heap.size W (some ⟨b0, 0, none⟩) c0 (bs ++ [199]) := fun B' P' W s' r' h => h.own (unhide HO) fun p hp => by cases hp; exact hBn b0 (by omega) hb0.2
    have PA := hide pk0
    have HS := hide hS
    have HFIN := hide hfin
    have HDAT := hide hdat
    have SBV := hide sbV
    have SIV := hide siV
    have HA1 := hide hA1
    have HBN := hide hBn
    have HBX := hide hbx
    have BVV := hide bV
    obtain ⟨⟨z0, z1, z2⟩, ⟨z3, z4, z5⟩, z6⟩ := hS _ _ _ _ _ pk0
    clear hj1 pk0 hBn hA1 hbx hS sbV siV hfin hdat bV kV hB1 HO HB OA OB OC SA SB SC BA BB BC KB KC KEEP HJ SBI SII hY hmk i1 i2
    go_upto_block 0 with fail
    go_cut [10] from 11 (fun s10 W => s10 = .bool true ∧ Hid (FinR A w Y d g s r (Z + bs.length) W))
    case first =>
      have e1 : (kd == 1) = false := beq_eq_false_iff_ne.2 (by have := unhide HK; omega)
      have e2 : (kd == 2) = true := beq_iff_eq.2 (unhide HK)
      go_wp2
      go_region_held3 (fun W => (W.cell? ⟨w.heap.size, 0, none⟩ = some (.int .i64 kd) ∧ W.cell? ⟨w.heap.size, 1, none⟩ = some (.string nm) ∧ W.cell? ⟨w.heap.size, 2, none⟩ = some (.string tt)) ∧ (W.cell? ⟨w.heap.size, 3, none⟩ = some (.slice pb bs.length cb) ∧ W.cell? ⟨w.heap.size, 4, none⟩ = some (.int .i64 n) ∧ W.cell? ⟨w.heap.size, 5, none⟩ = some (.int .i64 m)) ∧ W.cell? ⟨w.heap.size, 6, none⟩ = some (.slice pi is.length ci)) (first | exact unhide HS _ _ _ _ _ (unhide PB) | exact unhide HS _ _ _ _ _ (unhide PC) | exact unhide HS _ _ _ _ _ (unhide PA) | exact unhide HS _ _ _ _ _ (unhide PB).drew | exact unhide HS _ _ _ _ _ (unhide PC).drew | exact unhide HS _ _ _ _ _ (unhide PA).drew) (first
        | (go_at_call 8; refine (pk8 (by first | exact unhide PB | exact (unhide PB).drew | exact unhide PA | exact (unhide PA).drew) (by omega) nm).mono ?_; rintro e x1 ⟨rfl, p1⟩; have PC := hide p1; clear p1)
        | (go_at_call 19; refine (pk19 (by first | exact unhide PC | exact (unhide PC).drew | exact unhide PA | exact (unhide PA).drew) (unhide HR) (by omega) (by omega) nm).mono ?_; rintro e x2 ⟨rfl, B2, P2, r2, p2, rel2, len2⟩; have PB := hide p2; have R2 := hide rel2; have L2 := hide len2; clear p2 rel2 len2))
      all_goals
        go_wp2
        go_meet
        first
          | exact ⟨rfl, hide (unhide HFIN _ _ _ _ _ _ (unhide PB) (unhide R2) (Nat.le_add_right _ _) (cnt_syn _ _) (unhide L2))⟩
          | exact ⟨rfl, hide (unhide HFIN _ _ _ _ _ _ (unhide PC) (unhide R2) (Nat.le_add_right _ _) (cnt_syn _ _) (unhide L2))⟩
    case rest =>
      obtain ⟨rfl, HF⟩ := hcut
      obtain ⟨U, rfl⟩ : ∃ U, U = wc := ⟨_, rfl⟩
      obtain ⟨B', P', s', r', j', rel', cnt', len', hA', hbox, bA'⟩ := unhide HF
      obtain ⟨⟨y0, y1, y2⟩, _⟩ := unhide HC U hbox
      have hs26 := same_any (j'.below ((Below.refl _ _).alloc (Nat.le_refl _) (.cells #[.string nm, .string tt] 9))) rel' (by omega) (by have := cnt'.n; omega) (by omega) (some ⟨U.heap.size, 0, none⟩) 2 [nm, tt] (slA U [nm, tt] (by simp)) (by simp)
      have J' := hide j'
      have R' := hide rel'
      have C' := hide cnt'
      have L' := hide len'
      have A' := hide hA'
      have BA' := hide bA'
      clear j' rel' cnt' len' hA' hbox bA' HF z0 z1 z2 z3 z4 z5 z6
      go_wp2_with (go_at_call 26; refine hs26.mono ?_; rintro e w9 ⟨rfl, b9⟩; have B9 := hide (below_sub ((Below.refl _ _).alloc (Nat.le_refl _) _) b9); clear b9)
      refine bodyPost_ret (v := .tuple #[.pointer (some ⟨d, 0, none⟩), .pointer (some ⟨g, 0, none⟩), .bool true]) (by simp [results, Try.f6, go_sem]) rfl ?_
      exact ⟨B', P', d, g, s', r', rfl, (unhide J').below (unhide B9), unhide R', unhide C', unhide L', unhide A', hAg, (unhide BA').trans ((unhide B9).mono (Nat.le_trans (by omega) (unhide BA').size))⟩
end Go.Proofs.Ytonhagoeajhacaa

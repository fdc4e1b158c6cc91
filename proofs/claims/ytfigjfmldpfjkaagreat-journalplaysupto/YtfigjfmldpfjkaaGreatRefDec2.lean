/- The reference's Decode: bodies. -/
import Derived.Test.YtfigjfmldpfjkaaGreatZal
namespace Go.Proofs.YtfigjfmldpfjkaaGreat
open Go.RowKit Go.Sort Go.Shelf

theorem set3_other {w : World} {g k : Nat} (hk : k ≠ g) (a b c : Value) : (set3 w g a b c).heap[k]? = w.heap[k]? := by
  unfold set3
  have hne : ∀ (W : World) (o : Nat) (v : Value), (W.setCell ⟨g, o, none⟩ v).heap[k]? = W.heap[k]? := fun W o v => Below.heap_setCell _ _ _ _ (fun e => hk e)
  rw [hne, hne, hne]
set_option maxHeartbeats 1000000 in
set_option maxRecDepth 100000 in
theorem rdec_no3 (q : Option Addr) (cp : Nat) (l : List UInt8) (w : World) (h : SlOf encB 1 w q cp l) (hl : l.length ≤ 1000000000000) (n p : Nat) (hx : varS l 8 0 0 1 false = (n, p, false)) (hn : n ≤ 8192) (hb1 : p + n ≤ l.length) (hb2 : 2 ≤ n) (body : List UInt8) (hbo : (l.drop p).take n = body) (hv : (varS body 8 0 0 1 false).2.2 = true ∨ 1099511627776 < (varS body 8 0 0 1 false).1) :
    Calls Tryz.prog 90 #[.slice q l.length cp] w fun e w' => e = .returned (.tuple #[.agg #[.int .i64 0, .int .i64 0, .string ⟨#[]⟩], .int .i64 0, .int .i64 30]) ∧ Below w.heap.size w w' := by
  obtain ⟨z, hz⟩ : ∃ z, w.alloc (.cells #[.int .i64 0, .int .i64 0, .string ⟨#[]⟩] 63) = z := ⟨_, rfl⟩
  have bz : Below w.heap.size w z := by rw [← hz]; exact (Below.refl _ _).alloc (Nat.le_refl _) _
  have blkz : z.heap[w.heap.size]? = some (.cells #[.int .i64 0, .int .i64 0, .string ⟨#[]⟩] 63 (0, 0)) := by rw [← hz]; exact heap_alloc_new _ _
  have hzs : w.heap.size < z.heap.size := by rw [← hz]; simp
  have hSz := h.below bz
  have hrd : Calls Tryz.prog 87 #[.slice q l.length cp, .int .i64 1, .int .i64 8192] z _ := rd_yes q cp l 1 8192 n p z hSz (by omega) (by omega) hx hn
  have hcap := h.2.1
  have hsl := slice_lh q cp l.length p (p + n) (by omega) (by omega)
  rw [show p + n - p = n by omega] at hsl
  have hbl : body.length = n := by rw [← hbo]; simp; omega
  have hSb : SlOf encB 1 z (cutA q cp p) (cp - p) body := by rw [← hbo]; exact cut_sl hSz p n hb1
  obtain ⟨Z, hZ⟩ : ∃ Z, cutA q cp p = Z := ⟨_, rfl⟩
  obtain ⟨cz, hcz⟩ : ∃ cz, cp - p = cz := ⟨_, rfl⟩
  rw [hZ, hcz] at hsl hSb
  obtain ⟨PN, hPN⟩ : ∃ PN, p + n = PN := ⟨_, rfl⟩
  rw [hPN] at hsl
  have gPN : (p : Int) + (n : Int) = (PN : Int) := by omega
  have gPNb : (PN : Int) ≤ 1000000000000 := by omega
  obtain ⟨d, hd⟩ : ∃ d, l.length - p = d := ⟨_, rfl⟩
  have gd : (l.length : Int) - (p : Int) = (d : Int) := by omega
  have gdb : (d : Int) ≤ 1000000000000 := by omega
  have g1 : ¬ (d : Int) < (n : Int) := by omega
  have g2 : ¬ (n : Int) < 2 := by omega
  have hrd2 : Calls Tryz.prog 87 #[.slice Z body.length cz, .int .i64 1, .int .i64 1099511627776] z _ := rd_no Z cz body 1 1099511627776 z hSb (by omega) (by omega) hv
  rw [hbl] at hrd2
  have X := And.intro (set3_blk blkz (.int .i64 0) (.int .i64 0) (.string ⟨#[]⟩)) (set3_below bz (Nat.le_refl _) (.int .i64 0) (.int .i64 0) (.string ⟨#[]⟩))
  obtain ⟨⟨x0, x1, x2⟩, f0, f1, f2⟩ := cells3 blkz
  have HX := hide X
  clear h hx bz blkz hzs hSz hbo hbl hSb hZ hcz hPN hd X hv hb1 hb2 hcap
  go_enter Tryz.func90, Tryz.ntmps90
  go_wp2_with (first
    | (go_at_call 87; (with_reducible refine hrd.mono ?_); rintro e w1 ⟨rfl, hw1⟩; obtain rfl := hw1.symm)
    | (go_at_call 87; (with_reducible refine hrd2.mono ?_); rintro e w1 ⟨⟨n', p', rfl, hn', hp'⟩, hw1⟩; obtain rfl := hw1.symm))
  refine bodyPost_ret (results_ctt (fn := Tryz.f90) (p := 2) (u := 3) (v := 4) (ty := 63) rfl _ _ w.heap.size 63 _ (0, 0) _ (by rfl) (unhide HX).1 Tryz.underlying63 rfl Tryz.info32s) rfl ?_
  exact ⟨rfl, (unhide HX).2⟩

set_option maxHeartbeats 1000000 in
set_option maxRecDepth 100000 in
theorem rdec_no4 (q : Option Addr) (cp : Nat) (l : List UInt8) (w : World) (h : SlOf encB 1 w q cp l) (hl : l.length ≤ 1000000000000) (n p : Nat) (hx : varS l 8 0 0 1 false = (n, p, false)) (hn : n ≤ 8192) (hb1 : p + n ≤ l.length) (hb2 : 2 ≤ n) (body : List UInt8) (hbo : (l.drop p).take n = body) (id fr : Nat) (hv : varS body 8 0 0 1 false = (id, fr, false)) (hid : id ≤ 1099511627776) (hfrn : fr ≤ n) (y : UInt8) (hy : body[0]? = some y) (T : ByteArray) (hT : (⟨(body.drop fr).toArray⟩ : ByteArray) = T) (hm : ¬ MayB ⟨(y.toNat : Int), (id : Int), T⟩) :
    Calls Tryz.prog 90 #[.slice q l.length cp] w fun e w' => e = .returned (.tuple #[.agg #[.int .i64 0, .int .i64 0, .string ⟨#[]⟩], .int .i64 0, .int .i64 30]) ∧ Below w.heap.size w w' := by
  obtain ⟨z, hz⟩ : ∃ z, w.alloc (.cells #[.int .i64 0, .int .i64 0, .string ⟨#[]⟩] 63) = z := ⟨_, rfl⟩
  have bz : Below w.heap.size w z := by rw [← hz]; exact (Below.refl _ _).alloc (Nat.le_refl _) _
  have blkz : z.heap[w.heap.size]? = some (.cells #[.int .i64 0, .int .i64 0, .string ⟨#[]⟩] 63 (0, 0)) := by rw [← hz]; exact heap_alloc_new _ _
  have hzs : w.heap.size < z.heap.size := by rw [← hz]; simp
  have hSz := h.below bz
  have hrd : Calls Tryz.prog 87 #[.slice q l.length cp, .int .i64 1, .int .i64 8192] z _ := rd_yes q cp l 1 8192 n p z hSz (by omega) (by omega) hx hn
  have hcap := h.2.1
  have hsl := slice_lh q cp l.length p (p + n) (by omega) (by omega)
  rw [show p + n - p = n by omega] at hsl
  have hbl : body.length = n := by rw [← hbo]; simp; omega
  have hSb : SlOf encB 1 z (cutA q cp p) (cp - p) body := by rw [← hbo]; exact cut_sl hSz p n hb1
  obtain ⟨Z, hZ⟩ : ∃ Z, cutA q cp p = Z := ⟨_, rfl⟩
  obtain ⟨cz, hcz⟩ : ∃ cz, cp - p = cz := ⟨_, rfl⟩
  rw [hZ, hcz] at hsl hSb
  obtain ⟨PN, hPN⟩ : ∃ PN, p + n = PN := ⟨_, rfl⟩
  rw [hPN] at hsl
  have gPN : (p : Int) + (n : Int) = (PN : Int) := by omega
  have gPNb : (PN : Int) ≤ 1000000000000 := by omega
  obtain ⟨d, hd⟩ : ∃ d, l.length - p = d := ⟨_, rfl⟩
  have gd : (l.length : Int) - (p : Int) = (d : Int) := by omega
  have gdb : (d : Int) ≤ 1000000000000 := by omega
  have g1 : ¬ (d : Int) < (n : Int) := by omega
  have g2 : ¬ (n : Int) < 2 := by omega
  have hrd2 : Calls Tryz.prog 87 #[.slice Z body.length cz, .int .i64 1, .int .i64 1099511627776] z _ := rd_yes Z cz body 1 1099511627776 id fr z hSb (by omega) (by omega) hv hid
  rw [hbl] at hrd2
  obtain ⟨b, off, hq, hb, c0⟩ := byteAt hSb hy
  have hfr : fr ≤ n := by omega
  have hcl := hSb.2.1
  rw [hbl] at hcl
  have hsl2 := slice_l Z cz n fr hfr hcl
  have hSt : SlOf encB 1 z (cutA Z cz fr) (cz - fr) (body.drop fr) := by
    have := cut_sl hSb fr (body.length - fr) (by omega)
    rw [List.take_of_length_le (by simp)] at this
    exact this
  have hcv := fun (W : World) (hW : Below z.heap.size z W) => conv_sl (hSt.below hW)
  rw [List.length_drop, hbl] at hcv
  obtain ⟨Z2, hZ2⟩ : ∃ Z2, cutA Z cz fr = Z2 := ⟨_, rfl⟩
  obtain ⟨cz2, hcz2⟩ : ∃ cz2, cz - fr = cz2 := ⟨_, rfl⟩
  obtain ⟨tl, htl⟩ : ∃ tl, n - fr = tl := ⟨_, rfl⟩
  rw [hZ2, hcz2, htl] at hsl2 hcv
  rw [hT] at hcv
  subst hq
  rw [Nat.add_zero] at c0
  have e1 := wrap_nat y.toNat (by have := y.toNat_lt; omega)
  have n0 : (0 : Nat) < n := by omega
  obtain ⟨bY, hbY⟩ : ∃ Y, z.alloc (.cells #[.int .i64 (y.toNat : Int), .int .i64 (id : Int), .string T] 63) = Y := ⟨_, rfl⟩
  obtain ⟨Y, hY⟩ : ∃ Y, bY.drew = Y := ⟨_, rfl⟩
  have bY1 : Below z.heap.size z Y := by rw [← hY, ← hbY]; exact ((Below.refl _ _).alloc (Nat.le_refl _) _).drew
  have bkY : Y.heap[z.heap.size]? = some (.cells #[.int .i64 (y.toNat : Int), .int .i64 (id : Int), .string T] 63 (0, 0)) := by rw [← hY, ← hbY]; exact heap_alloc_new _ _
  have hYs : z.heap.size < Y.heap.size := by rw [← hY, ← hbY]; simp
  have hBK := fun (W : World) (hW : Below Y.heap.size Y W) => (hW.block z.heap.size hYs).trans bkY
  have hFIN := fun (W : World) (hW : Below Y.heap.size Y W) (a b c : Value) => And.intro (set3_blk (((bY1.trans (hW.mono bY1.size)).block _ hzs).trans blkz) a b c) (set3_below (B := w.heap.size) (bz.trans ((bY1.trans (hW.mono bY1.size)).mono bz.size)) (Nat.le_refl _) a b c)
  have hCZ := fun (W : World) (hW : Below Y.heap.size Y W) => cells3 (((bY1.trans (hW.mono bY1.size)).block _ hzs).trans blkz)
  have HKS : Hid (∀ W : World, Below z.heap.size z W → W.cell? ⟨b, off, none⟩ = some (.int .u8 (y.toNat : Int)) ∧ (convert 40 9 (.slice Z2 tl cz2)).run Tryz.prog W = .ok (.string T) W) := hide (fun W hW => ⟨(hW.cell (p := ⟨b, off, none⟩) hb).trans c0, hcv W hW⟩)
  have HBY := hide bY1
  have HNE : Hid (z.heap.size ≠ w.heap.size) := hide (by omega)
  have HWZ := hide hzs
  have HBK := hide hBK
  have HFIN := hide hFIN
  have HCZ := hide hCZ
  have HSl := hide (hSz.below bY1)
  have hmy := refMay_any ⟨(y.toNat : Int), (id : Int), T⟩ Y
  simp only at hmy
  obtain ⟨⟨d0, d1, d2⟩, _⟩ := cells3 bkY
  rw [decide_eq_false hm] at hmy
  clear h hx bz blkz hzs hSz hbo hbl hSb hZ hcz hPN hd hv hb1 hb2 hcap hSt hZ2 hcz2 htl hcl bY1 bkY hYs hBK hFIN hCZ hy hfr hid hfrn hcv
  go_enter Tryz.func90, Tryz.ntmps90
  go_wp2_with (first
    | (go_at_call 87; (with_reducible refine hrd.mono ?_); rintro e w1 ⟨rfl, hw1⟩; obtain rfl := hw1.symm)
    | (go_at_call 87; (with_reducible refine hrd2.mono ?_); rintro e w1 ⟨rfl, hw1⟩; obtain rfl := hw1.symm))
  go_region_held3 (fun W => W.cell? ⟨b, off, none⟩ = some (.int .u8 (y.toNat : Int)) ∧ (convert 40 9 (.slice Z2 tl cz2)).run Tryz.prog W = .ok (.string T) W) (first | exact unhide HKS _ (unhide HBY) | exact unhide HKS _ (Below.refl _ _).drew | exact unhide HKS _ (Below.refl _ _) | exact unhide HKS _ ((Below.refl _ _).alloc (Nat.le_refl _) _).drew | exact unhide HKS _ ((Below.refl _ _).alloc (Nat.le_refl _) _)) (fail)
  go_wp2_with (go_at_call 97; refine hmy.mono ?_; rintro e w2 ⟨rfl, b2⟩; obtain ⟨⟨x0, x1, x2⟩, f0, f1, f2⟩ := unhide HCZ _ b2; obtain ⟨⟨e0, e1', e2⟩, _⟩ := cells3 (unhide HBK _ b2); have B2 := hide b2; clear b2)
  have HX := hide (unhide HFIN _ (unhide B2) (.int .i64 0) (.int .i64 0) (.string ⟨#[]⟩))
  refine bodyPost_ret (results_ctt (fn := Tryz.f90) (p := 2) (u := 3) (v := 4) (ty := 63) rfl _ _ w.heap.size 63 _ (0, 0) _ (by rfl) (unhide HX).1 Tryz.underlying63 rfl Tryz.info32s) rfl ?_
  exact ⟨rfl, (unhide HX).2⟩

set_option maxHeartbeats 1000000 in
set_option maxRecDepth 100000 in
theorem rdec_no5 (q : Option Addr) (cp : Nat) (l : List UInt8) (w : World) (h : SlOf encB 1 w q cp l) (hl : l.length ≤ 1000000000000) (n p : Nat) (hx : varS l 8 0 0 1 false = (n, p, false)) (hn : n ≤ 8192) (hb1 : p + n ≤ l.length) (hb2 : 2 ≤ n) (body : List UInt8) (hbo : (l.drop p).take n = body) (id fr : Nat) (hv : varS body 8 0 0 1 false = (id, fr, false)) (hid : id ≤ 1099511627776) (hfrn : fr ≤ n) (y : UInt8) (hy : body[0]? = some y) (T : ByteArray) (hT : (⟨(body.drop fr).toArray⟩ : ByteArray) = T) (hm : MayB ⟨(y.toNat : Int), (id : Int), T⟩) (hbg : ¬ l.take (oneB ⟨(y.toNat : Int), (id : Int), T⟩).length = oneB ⟨(y.toNat : Int), (id : Int), T⟩) :
    Calls Tryz.prog 90 #[.slice q l.length cp] w fun e w' => e = .returned (.tuple #[.agg #[.int .i64 0, .int .i64 0, .string ⟨#[]⟩], .int .i64 0, .int .i64 30]) ∧ Below w.heap.size w w' := by
  obtain ⟨z, hz⟩ : ∃ z, w.alloc (.cells #[.int .i64 0, .int .i64 0, .string ⟨#[]⟩] 63) = z := ⟨_, rfl⟩
  have bz : Below w.heap.size w z := by rw [← hz]; exact (Below.refl _ _).alloc (Nat.le_refl _) _
  have blkz : z.heap[w.heap.size]? = some (.cells #[.int .i64 0, .int .i64 0, .string ⟨#[]⟩] 63 (0, 0)) := by rw [← hz]; exact heap_alloc_new _ _
  have hzs : w.heap.size < z.heap.size := by rw [← hz]; simp
  have hSz := h.below bz
  have hrd : Calls Tryz.prog 87 #[.slice q l.length cp, .int .i64 1, .int .i64 8192] z _ := rd_yes q cp l 1 8192 n p z hSz (by omega) (by omega) hx hn
  have hcap := h.2.1
  have hsl := slice_lh q cp l.length p (p + n) (by omega) (by omega)
  rw [show p + n - p = n by omega] at hsl
  have hbl : body.length = n := by rw [← hbo]; simp; omega
  have hSb : SlOf encB 1 z (cutA q cp p) (cp - p) body := by rw [← hbo]; exact cut_sl hSz p n hb1
  obtain ⟨Z, hZ⟩ : ∃ Z, cutA q cp p = Z := ⟨_, rfl⟩
  obtain ⟨cz, hcz⟩ : ∃ cz, cp - p = cz := ⟨_, rfl⟩
  rw [hZ, hcz] at hsl hSb
  obtain ⟨PN, hPN⟩ : ∃ PN, p + n = PN := ⟨_, rfl⟩
  rw [hPN] at hsl
  have gPN : (p : Int) + (n : Int) = (PN : Int) := by omega
  have gPNb : (PN : Int) ≤ 1000000000000 := by omega
  obtain ⟨d, hd⟩ : ∃ d, l.length - p = d := ⟨_, rfl⟩
  have gd : (l.length : Int) - (p : Int) = (d : Int) := by omega
  have gdb : (d : Int) ≤ 1000000000000 := by omega
  have g1 : ¬ (d : Int) < (n : Int) := by omega
  have g2 : ¬ (n : Int) < 2 := by omega
  have hrd2 : Calls Tryz.prog 87 #[.slice Z body.length cz, .int .i64 1, .int .i64 1099511627776] z _ := rd_yes Z cz body 1 1099511627776 id fr z hSb (by omega) (by omega) hv hid
  rw [hbl] at hrd2
  obtain ⟨b, off, hq, hb, c0⟩ := byteAt hSb hy
  have hfr : fr ≤ n := by omega
  have hcl := hSb.2.1
  rw [hbl] at hcl
  have hsl2 := slice_l Z cz n fr hfr hcl
  have hSt : SlOf encB 1 z (cutA Z cz fr) (cz - fr) (body.drop fr) := by
    have := cut_sl hSb fr (body.length - fr) (by omega)
    rw [List.take_of_length_le (by simp)] at this
    exact this
  have hcv := fun (W : World) (hW : Below z.heap.size z W) => conv_sl (hSt.below hW)
  rw [List.length_drop, hbl] at hcv
  obtain ⟨Z2, hZ2⟩ : ∃ Z2, cutA Z cz fr = Z2 := ⟨_, rfl⟩
  obtain ⟨cz2, hcz2⟩ : ∃ cz2, cz - fr = cz2 := ⟨_, rfl⟩
  obtain ⟨tl, htl⟩ : ∃ tl, n - fr = tl := ⟨_, rfl⟩
  rw [hZ2, hcz2, htl] at hsl2 hcv
  rw [hT] at hcv
  subst hq
  rw [Nat.add_zero] at c0
  have e1 := wrap_nat y.toNat (by have := y.toNat_lt; omega)
  have n0 : (0 : Nat) < n := by omega
  obtain ⟨bY, hbY⟩ : ∃ Y, z.alloc (.cells #[.int .i64 (y.toNat : Int), .int .i64 (id : Int), .string T] 63) = Y := ⟨_, rfl⟩
  obtain ⟨Y, hY⟩ : ∃ Y, bY.drew = Y := ⟨_, rfl⟩
  have bY1 : Below z.heap.size z Y := by rw [← hY, ← hbY]; exact ((Below.refl _ _).alloc (Nat.le_refl _) _).drew
  have bkY : Y.heap[z.heap.size]? = some (.cells #[.int .i64 (y.toNat : Int), .int .i64 (id : Int), .string T] 63 (0, 0)) := by rw [← hY, ← hbY]; exact heap_alloc_new _ _
  have hYs : z.heap.size < Y.heap.size := by rw [← hY, ← hbY]; simp
  have hBK := fun (W : World) (hW : Below Y.heap.size Y W) => (hW.block z.heap.size hYs).trans bkY
  have hFIN := fun (W : World) (hW : Below Y.heap.size Y W) (a b c : Value) => And.intro (set3_blk (((bY1.trans (hW.mono bY1.size)).block _ hzs).trans blkz) a b c) (set3_below (B := w.heap.size) (bz.trans ((bY1.trans (hW.mono bY1.size)).mono bz.size)) (Nat.le_refl _) a b c)
  have hCZ := fun (W : World) (hW : Below Y.heap.size Y W) => cells3 (((bY1.trans (hW.mono bY1.size)).block _ hzs).trans blkz)
  have HKS : Hid (∀ W : World, Below z.heap.size z W → W.cell? ⟨b, off, none⟩ = some (.int .u8 (y.toNat : Int)) ∧ (convert 40 9 (.slice Z2 tl cz2)).run Tryz.prog W = .ok (.string T) W) := hide (fun W hW => ⟨(hW.cell (p := ⟨b, off, none⟩) hb).trans c0, hcv W hW⟩)
  have HBY := hide bY1
  have HNE : Hid (z.heap.size ≠ w.heap.size) := hide (by omega)
  have HWZ := hide hzs
  have HBK := hide hBK
  have HFIN := hide hFIN
  have HCZ := hide hCZ
  have HSl := hide (hSz.below bY1)
  have hmy := refMay_any ⟨(y.toNat : Int), (id : Int), T⟩ Y
  simp only at hmy
  obtain ⟨⟨d0, d1, d2⟩, _⟩ := cells3 bkY
  rw [decide_eq_true hm] at hmy
  have hone := fun (W : World) => refOne ⟨(y.toNat : Int), (id : Int), T⟩ hm W
  simp only at hone
  obtain ⟨O, hO⟩ : ∃ O, oneB ⟨(y.toNat : Int), (id : Int), T⟩ = O := ⟨_, rfl⟩
  simp only [hO] at hone
  rw [hO] at hbg
  have hbe := fun (q' : Option Addr) (c' : Nat) (W : World) (h1 : SlOf encB 1 W q cp l) (h2 : SlOf encB 1 W q' c' O) => begins_any q q' cp c' l O W h1 h2 (by omega)
  rw [decide_eq_false hbg] at hbe
  clear h hx bz blkz hzs hSz hbo hbl hSb hZ hcz hPN hd hv hb1 hb2 hcap hSt hZ2 hcz2 htl hcl bY1 bkY hYs hBK hFIN hCZ hy hfr hid hfrn hcv
  go_enter Tryz.func90, Tryz.ntmps90
  go_wp2_with (first
    | (go_at_call 87; (with_reducible refine hrd.mono ?_); rintro e w1 ⟨rfl, hw1⟩; obtain rfl := hw1.symm)
    | (go_at_call 87; (with_reducible refine hrd2.mono ?_); rintro e w1 ⟨rfl, hw1⟩; obtain rfl := hw1.symm))
  go_region_held3 (fun W => W.cell? ⟨b, off, none⟩ = some (.int .u8 (y.toNat : Int)) ∧ (convert 40 9 (.slice Z2 tl cz2)).run Tryz.prog W = .ok (.string T) W) (first | exact unhide HKS _ (unhide HBY) | exact unhide HKS _ (Below.refl _ _).drew | exact unhide HKS _ (Below.refl _ _) | exact unhide HKS _ ((Below.refl _ _).alloc (Nat.le_refl _) _).drew | exact unhide HKS _ ((Below.refl _ _).alloc (Nat.le_refl _) _)) (fail)
  go_wp2_with (first
    | (go_at_call 97; refine hmy.mono ?_; rintro e w2 ⟨rfl, b2⟩; obtain ⟨⟨x0, x1, x2⟩, f0, f1, f2⟩ := unhide HCZ _ b2; obtain ⟨⟨e0, e1', e2⟩, _⟩ := cells3 (unhide HBK _ b2); have B2 := hide b2; clear b2)
    | (go_at_call 98; refine (hone _).mono ?_; rintro e w3 ⟨⟨q3, c3, rfl, o3⟩, b3⟩; have O3 := hide o3.ls; have B3 := hide ((unhide B2).trans (b3.mono (unhide B2).size)); clear b3 o3)
    | (go_at_call 89; refine (hbe _ _ _ ((unhide HSl).below (unhide B3)) (unhide O3)).mono ?_; rintro e w4 ⟨rfl, b4⟩; obtain ⟨⟨y0, y1, y2⟩, h0, h1, h2⟩ := unhide HCZ _ ((unhide B3).trans (b4.mono (unhide B3).size)); obtain ⟨⟨k0, k1, k2⟩, _⟩ := cells3 (unhide HBK _ ((unhide B3).trans (b4.mono (unhide B3).size))); have B4 := hide ((unhide B3).trans (b4.mono (unhide B3).size)); clear b4))
  have HX := hide (unhide HFIN _ (unhide B4) (.int .i64 0) (.int .i64 0) (.string ⟨#[]⟩))
  refine bodyPost_ret (results_ctt (fn := Tryz.f90) (p := 2) (u := 3) (v := 4) (ty := 63) rfl _ _ w.heap.size 63 _ (0, 0) _ (by rfl) (unhide HX).1 Tryz.underlying63 rfl Tryz.info32s) rfl ?_
  exact ⟨rfl, (unhide HX).2⟩

set_option maxHeartbeats 1000000 in
set_option maxRecDepth 100000 in
theorem rdec_ok (q : Option Addr) (cp : Nat) (l : List UInt8) (w : World) (h : SlOf encB 1 w q cp l) (hl : l.length ≤ 1000000000000) (n p : Nat) (hx : varS l 8 0 0 1 false = (n, p, false)) (hn : n ≤ 8192) (hb1 : p + n ≤ l.length) (hb2 : 2 ≤ n) (body : List UInt8) (hbo : (l.drop p).take n = body) (id fr : Nat) (hv : varS body 8 0 0 1 false = (id, fr, false)) (hid : id ≤ 1099511627776) (hfrn : fr ≤ n) (y : UInt8) (hy : body[0]? = some y) (T : ByteArray) (hT : (⟨(body.drop fr).toArray⟩ : ByteArray) = T) (hm : MayB ⟨(y.toNat : Int), (id : Int), T⟩) (hbg : l.take (oneB ⟨(y.toNat : Int), (id : Int), T⟩).length = oneB ⟨(y.toNat : Int), (id : Int), T⟩) :
    Calls Tryz.prog 90 #[.slice q l.length cp] w fun e w' => e = .returned (.tuple #[.agg #[.int .i64 (y.toNat : Int), .int .i64 (id : Int), .string T], .int .i64 ((oneB ⟨(y.toNat : Int), (id : Int), T⟩).length : Int), .int .i64 0]) ∧ Below w.heap.size w w' := by
  obtain ⟨z, hz⟩ : ∃ z, w.alloc (.cells #[.int .i64 0, .int .i64 0, .string ⟨#[]⟩] 63) = z := ⟨_, rfl⟩
  have bz : Below w.heap.size w z := by rw [← hz]; exact (Below.refl _ _).alloc (Nat.le_refl _) _
  have blkz : z.heap[w.heap.size]? = some (.cells #[.int .i64 0, .int .i64 0, .string ⟨#[]⟩] 63 (0, 0)) := by rw [← hz]; exact heap_alloc_new _ _
  have hzs : w.heap.size < z.heap.size := by rw [← hz]; simp
  have hSz := h.below bz
  have hrd : Calls Tryz.prog 87 #[.slice q l.length cp, .int .i64 1, .int .i64 8192] z _ := rd_yes q cp l 1 8192 n p z hSz (by omega) (by omega) hx hn
  have hcap := h.2.1
  have hsl := slice_lh q cp l.length p (p + n) (by omega) (by omega)
  rw [show p + n - p = n by omega] at hsl
  have hbl : body.length = n := by rw [← hbo]; simp; omega
  have hSb : SlOf encB 1 z (cutA q cp p) (cp - p) body := by rw [← hbo]; exact cut_sl hSz p n hb1
  obtain ⟨Z, hZ⟩ : ∃ Z, cutA q cp p = Z := ⟨_, rfl⟩
  obtain ⟨cz, hcz⟩ : ∃ cz, cp - p = cz := ⟨_, rfl⟩
  rw [hZ, hcz] at hsl hSb
  obtain ⟨PN, hPN⟩ : ∃ PN, p + n = PN := ⟨_, rfl⟩
  rw [hPN] at hsl
  have gPN : (p : Int) + (n : Int) = (PN : Int) := by omega
  have gPNb : (PN : Int) ≤ 1000000000000 := by omega
  obtain ⟨d, hd⟩ : ∃ d, l.length - p = d := ⟨_, rfl⟩
  have gd : (l.length : Int) - (p : Int) = (d : Int) := by omega
  have gdb : (d : Int) ≤ 1000000000000 := by omega
  have g1 : ¬ (d : Int) < (n : Int) := by omega
  have g2 : ¬ (n : Int) < 2 := by omega
  have hrd2 : Calls Tryz.prog 87 #[.slice Z body.length cz, .int .i64 1, .int .i64 1099511627776] z _ := rd_yes Z cz body 1 1099511627776 id fr z hSb (by omega) (by omega) hv hid
  rw [hbl] at hrd2
  obtain ⟨b, off, hq, hb, c0⟩ := byteAt hSb hy
  have hfr : fr ≤ n := by omega
  have hcl := hSb.2.1
  rw [hbl] at hcl
  have hsl2 := slice_l Z cz n fr hfr hcl
  have hSt : SlOf encB 1 z (cutA Z cz fr) (cz - fr) (body.drop fr) := by
    have := cut_sl hSb fr (body.length - fr) (by omega)
    rw [List.take_of_length_le (by simp)] at this
    exact this
  have hcv := fun (W : World) (hW : Below z.heap.size z W) => conv_sl (hSt.below hW)
  rw [List.length_drop, hbl] at hcv
  obtain ⟨Z2, hZ2⟩ : ∃ Z2, cutA Z cz fr = Z2 := ⟨_, rfl⟩
  obtain ⟨cz2, hcz2⟩ : ∃ cz2, cz - fr = cz2 := ⟨_, rfl⟩
  obtain ⟨tl, htl⟩ : ∃ tl, n - fr = tl := ⟨_, rfl⟩
  rw [hZ2, hcz2, htl] at hsl2 hcv
  rw [hT] at hcv
  subst hq
  rw [Nat.add_zero] at c0
  have e1 := wrap_nat y.toNat (by have := y.toNat_lt; omega)
  have n0 : (0 : Nat) < n := by omega
  obtain ⟨bY, hbY⟩ : ∃ Y, z.alloc (.cells #[.int .i64 (y.toNat : Int), .int .i64 (id : Int), .string T] 63) = Y := ⟨_, rfl⟩
  obtain ⟨Y, hY⟩ : ∃ Y, bY.drew = Y := ⟨_, rfl⟩
  have bY1 : Below z.heap.size z Y := by rw [← hY, ← hbY]; exact ((Below.refl _ _).alloc (Nat.le_refl _) _).drew
  have bkY : Y.heap[z.heap.size]? = some (.cells #[.int .i64 (y.toNat : Int), .int .i64 (id : Int), .string T] 63 (0, 0)) := by rw [← hY, ← hbY]; exact heap_alloc_new _ _
  have hYs : z.heap.size < Y.heap.size := by rw [← hY, ← hbY]; simp
  have hBK := fun (W : World) (hW : Below Y.heap.size Y W) => (hW.block z.heap.size hYs).trans bkY
  have hFIN := fun (W : World) (hW : Below Y.heap.size Y W) (a b c : Value) => And.intro (set3_blk (((bY1.trans (hW.mono bY1.size)).block _ hzs).trans blkz) a b c) (set3_below (B := w.heap.size) (bz.trans ((bY1.trans (hW.mono bY1.size)).mono bz.size)) (Nat.le_refl _) a b c)
  have hCZ := fun (W : World) (hW : Below Y.heap.size Y W) => cells3 (((bY1.trans (hW.mono bY1.size)).block _ hzs).trans blkz)
  have HKS : Hid (∀ W : World, Below z.heap.size z W → W.cell? ⟨b, off, none⟩ = some (.int .u8 (y.toNat : Int)) ∧ (convert 40 9 (.slice Z2 tl cz2)).run Tryz.prog W = .ok (.string T) W) := hide (fun W hW => ⟨(hW.cell (p := ⟨b, off, none⟩) hb).trans c0, hcv W hW⟩)
  have HBY := hide bY1
  have HNE : Hid (z.heap.size ≠ w.heap.size) := hide (by omega)
  have HWZ := hide hzs
  have HBK := hide hBK
  have HFIN := hide hFIN
  have HCZ := hide hCZ
  have HSl := hide (hSz.below bY1)
  have hmy := refMay_any ⟨(y.toNat : Int), (id : Int), T⟩ Y
  simp only at hmy
  obtain ⟨⟨d0, d1, d2⟩, _⟩ := cells3 bkY
  rw [decide_eq_true hm] at hmy
  have hone := fun (W : World) => refOne ⟨(y.toNat : Int), (id : Int), T⟩ hm W
  simp only at hone
  obtain ⟨O, hO⟩ : ∃ O, oneB ⟨(y.toNat : Int), (id : Int), T⟩ = O := ⟨_, rfl⟩
  simp only [hO] at hone
  rw [hO] at hbg
  have hbe := fun (q' : Option Addr) (c' : Nat) (W : World) (h1 : SlOf encB 1 W q cp l) (h2 : SlOf encB 1 W q' c' O) => begins_any q q' cp c' l O W h1 h2 (by omega)
  rw [decide_eq_true hbg] at hbe
  rw [hO]
  clear h hx bz blkz hzs hSz hbo hbl hSb hZ hcz hPN hd hv hb1 hb2 hcap hSt hZ2 hcz2 htl hcl bY1 bkY hYs hBK hFIN hCZ hy hfr hid hfrn hcv
  go_enter Tryz.func90, Tryz.ntmps90
  go_wp2_with (first
    | (go_at_call 87; (with_reducible refine hrd.mono ?_); rintro e w1 ⟨rfl, hw1⟩; obtain rfl := hw1.symm)
    | (go_at_call 87; (with_reducible refine hrd2.mono ?_); rintro e w1 ⟨rfl, hw1⟩; obtain rfl := hw1.symm))
  go_region_held3 (fun W => W.cell? ⟨b, off, none⟩ = some (.int .u8 (y.toNat : Int)) ∧ (convert 40 9 (.slice Z2 tl cz2)).run Tryz.prog W = .ok (.string T) W) (first | exact unhide HKS _ (unhide HBY) | exact unhide HKS _ (Below.refl _ _).drew | exact unhide HKS _ (Below.refl _ _) | exact unhide HKS _ ((Below.refl _ _).alloc (Nat.le_refl _) _).drew | exact unhide HKS _ ((Below.refl _ _).alloc (Nat.le_refl _) _)) (fail)
  go_wp2_with (first
    | (go_at_call 97; refine hmy.mono ?_; rintro e w2 ⟨rfl, b2⟩; obtain ⟨⟨x0, x1, x2⟩, f0, f1, f2⟩ := unhide HCZ _ b2; obtain ⟨⟨e0, e1', e2⟩, _⟩ := cells3 (unhide HBK _ b2); have B2 := hide b2; clear b2)
    | (go_at_call 98; refine (hone _).mono ?_; rintro e w3 ⟨⟨q3, c3, rfl, o3⟩, b3⟩; have O3 := hide o3.ls; have B3 := hide ((unhide B2).trans (b3.mono (unhide B2).size)); clear b3 o3)
    | (go_at_call 89; refine (hbe _ _ _ ((unhide HSl).below (unhide B3)) (unhide O3)).mono ?_; rintro e w4 ⟨rfl, b4⟩; obtain ⟨⟨y0, y1, y2⟩, h0, h1, h2⟩ := unhide HCZ _ ((unhide B3).trans (b4.mono (unhide B3).size)); obtain ⟨⟨k0, k1, k2⟩, _⟩ := cells3 (unhide HBK _ ((unhide B3).trans (b4.mono (unhide B3).size))); have B4 := hide ((unhide B3).trans (b4.mono (unhide B3).size)); clear b4))
  have hb4 := unhide B4
  have hne : z.heap.size ≠ w.heap.size := unhide HNE
  have hS : ∀ W : World, W.heap[z.heap.size]? = some (.cells #[.int .i64 (y.toNat : Int), .int .i64 (id : Int), .string T] 63 (0, 0)) → W.cell? ⟨z.heap.size, 0, none⟩ = some (.int .i64 (y.toNat : Int)) ∧ W.cell? ⟨z.heap.size, 1, none⟩ = some (.int .i64 (id : Int)) ∧ W.cell? ⟨z.heap.size, 2, none⟩ = some (.string T) := fun W hW => (cells3 hW).1
  have hst : ∀ (W : World), Below Y.heap.size Y W → (set3 W w.heap.size (.int .i64 (y.toNat : Int)) (.int .i64 (id : Int)) (.string T)).heap[z.heap.size]? = some (.cells #[.int .i64 (y.toNat : Int), .int .i64 (id : Int), .string T] 63 (0, 0)) := fun W hW => (set3_other hne _ _ _).trans (unhide HBK _ hW)
  have K0 := hide (hS w4 (unhide HBK _ hb4))
  have K1 : Hid (w4.drew.cell? ⟨z.heap.size, 0, none⟩ = some (.int .i64 (y.toNat : Int)) ∧ w4.drew.cell? ⟨z.heap.size, 1, none⟩ = some (.int .i64 (id : Int)) ∧ w4.drew.cell? ⟨z.heap.size, 2, none⟩ = some (.string T)) := hide (hS w4.drew (unhide HBK _ hb4.drew))
  have honeA := hone w4.drew
  have HST := hide hst
  have HSS := hide hS
  clear hb4 hne hS hst hmy hone hbe hrd hrd2 hsl hsl2 d0 d1 d2
  go_region_held3 (fun W => W.cell? ⟨z.heap.size, 0, none⟩ = some (.int .i64 (y.toNat : Int)) ∧ W.cell? ⟨z.heap.size, 1, none⟩ = some (.int .i64 (id : Int)) ∧ W.cell? ⟨z.heap.size, 2, none⟩ = some (.string T))
    (first | with_reducible exact unhide K1 | with_reducible exact unhide K0 | with_reducible exact unhide K5 | with_reducible exact unhide K6)
    ((first
      | (go_at_call 98; (with_reducible refine honeA.mono ?_); rintro e w5 ⟨⟨q5, c5, rfl, o5⟩, b50⟩; have b5 := (unhide B4).trans ((below_undrew b50).mono (unhide B4).size); obtain ⟨⟨m0, m1, m2⟩, mf0, mf1, mf2⟩ := unhide HCZ _ b5; have K5 := hide (unhide HSS w5 (unhide HBK _ b5)); have k6 := unhide HSS (set3 w5 w.heap.size (.int .i64 (y.toNat : Int)) (.int .i64 (id : Int)) (.string T)) (unhide HST w5 b5); unfold set3 at k6; have K6 := hide k6; have HX := hide (unhide HFIN _ b5 (.int .i64 (y.toNat : Int)) (.int .i64 (id : Int)) (.string T)); clear b50 b5 o5 k6)))
  all_goals
    go_wp2
    refine bodyPost_ret (results_ctt (fn := Tryz.f90) (p := 2) (u := 3) (v := 4) (ty := 63) rfl _ _ w.heap.size 63 _ (0, 0) _ (by rfl) (unhide HX).1 Tryz.underlying63 rfl Tryz.info32s) rfl ?_
    exact ⟨rfl, (unhide HX).2⟩

end Go.Proofs.YtfigjfmldpfjkaaGreat

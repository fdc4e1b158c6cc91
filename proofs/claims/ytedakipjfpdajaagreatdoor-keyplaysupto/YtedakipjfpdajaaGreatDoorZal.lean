/- slices.symMergeCmpFunc where the first run is one pair. -/
import Derived.Test.YtedakipjfpdajaaGreatDoorZak
namespace Go.Proofs.YtedakipjfpdajaaGreatDoor
open Go.RowKit Go.Sort Go.Shelf Go.Lib

/-- What stands at a has gone t places on. -/
def mvU (D : Array Pr) (a : Nat) : Nat → Array Pr
  | 0 => D
  | t + 1 => Go.Sort.swp (mvU D a t) (a + t) (a + t + 1)
theorem size_mvU (D : Array Pr) (a : Nat) : ∀ n, (mvU D a n).size = D.size
  | 0 => rfl
  | n + 1 => by rw [mvU, size_swp, size_mvU D a n]

set_option maxHeartbeats 1000000 in
set_option maxRecDepth 1000000 in
theorem symOneG {P : Program} (mixed : P.follows .mixedOrders = true) (F : P.funcs[153]? = some Tryz.f153) (k : Nat) (aE : ∀ w, (isAgg 42).run P w = .ok true w) (zE : ∀ w, (Go.sizeOf 42).run P w = .ok k w)
    (t26 : P.underlying 26 = some (TypeDesc.slice 42)) (t3 : P.underlying 3 = some (TypeDesc.int IntKind.i64)) (t89 : P.underlying 89 = some (TypeDesc.int IntKind.u64))
    (enc : Pr → List Value) (hk : ∀ x, (enc x).length = k) (h1 : ∀ x, ∀ v ∈ enc x, v.oneCell' = true)
    (blk off cap a m b : Nat) (d : Array Pr) (w : World) (eg : ∀ args w, (callFunc 66 args).run P w = .ok (.enter 66 args) w) (hcmp : CmpLays P 66 #[] enc k cmpN blk off d.size w) (hH : HoldsK enc k w blk off d) (hblk : blk < w.heap.size) (hm : a + 1 = m) (hab : m ≤ b) (hb : b ≤ d.size) (hsz : d.size < 4611686018427387904) :
    Calls P 153 #[.slice (some ⟨blk, off, none⟩) d.size cap, .int .i64 a, .int .i64 m, .int .i64 b, .func (.func 66) #[] #[]] w fun e w' =>
      e = .returned (.tuple #[]) ∧ ∃ i, m ≤ i ∧ i ≤ b ∧ (m < i → cmpN d[i - 1]! d[a]! < 0) ∧ (i < b → 0 ≤ cmpN d[i]! d[a]!) ∧ ∃ n os, w' = sortWorldK enc k w blk off n (mvU d a (i - m)) os := by
  have u26 := run_underlying t26
  have u3 := run_underlying t3
  have u89 := run_underlying t89
  have HC : Aside _ := hcmp
  have HST : Hid (w = sortWorldK enc k w blk off 0 d #[]) := by show w = _; unfold sortWorldK; rw [grow_empty]; exact (putRowK_self enc k w blk off d hH).symm
  have HH : Hid (HoldsK enc k w blk off d) := hH
  have HK : Hid (∀ x, (enc x).length = k) := hk
  have H1 : Hid (∀ x, ∀ v ∈ enc x, v.oneCell' = true) := h1
  have wm : IntKind.i64.wrap ((m : Int) - (a : Int)) = 1 := by rw [IntKind.wrap_i64]; omega
  have wm' : (m : Int) - (a : Int) = 1 := by omega
  clear hcmp hH hk h1
  go_enter F, Tryz.ntmps153
  go_wp2
  go_loopg [10, 11] (b - m) (fun g1 vi vj wr => ∃ (lo hi n : Nat) (os : Array Obj), vi = .int .i64 lo ∧ vj = .int .i64 hi ∧ m ≤ lo ∧ lo ≤ hi ∧ hi ≤ b ∧ hi - lo ≤ g1 ∧ Hid ((m < lo → cmpN d[lo - 1]! d[a]! < 0) ∧ (hi < b → ¬ cmpN d[hi]! d[a]! < 0)) ∧ wr = sortWorldK enc k w blk off n d os)
  case atStart => exact ⟨m, b, 0, #[], rfl, rfl, Nat.le_refl _, hab, Nat.le_refl _, Nat.le_refl _, ⟨fun h => by omega, fun h => by omega⟩, HST.out⟩
  case round =>
    obtain ⟨lo, hi, n, os, rfl, rfl, hlo, hlh, hhi, hg1, HBD, rfl⟩ := hrel
    by_cases hlt : lo < hi
    · have hltz : (lo : Int) < (hi : Int) := by omega
      obtain ⟨h, hh, hm1, hm2⟩ : ∃ h : Nat, ((lo : Int) + (hi : Int)) / 2 = (h : Int) ∧ lo ≤ h ∧ h < hi := ⟨(lo + hi) / 2, by omega, by omega, by omega⟩
      obtain ⟨xj, hxj⟩ : ∃ x, d[h]! = x := ⟨_, rfl⟩
      obtain ⟨xp, hxp⟩ : ∃ x, d[a]! = x := ⟨_, rfl⟩
      have jz : (h : Int) < (d.size : Int) := by omega
      have jz1 : (a : Int) < (d.size : Int) := by omega
      have hcls : ∀ n' os', grow ((sortWorldK enc k w blk off n d os).drewN n') os' = sortWorldK enc k w blk off (n + n') d (os ++ os') := fun n' os' => sortWorldK_grown_c enc k w blk off n n' d os os'
      have hHc : ∀ n' os', HoldsK enc k (grow ((sortWorldK enc k w blk off n d os).drewN n') os') blk off d := fun n' os' => by rw [hcls]; exact holdsK_sortWorldK_c enc k w blk off d d _ _ HH.out hblk rfl
      have lj : ∀ n' os', Sem.run P (loadCellsFrom ⟨blk, off + h * k, none⟩ 0 k #[]) (grow ((sortWorldK enc k w blk off n d os).drewN n') os') = .ok (enc xj).toArray (grow ((sortWorldK enc k w blk off n d os).drewN n') os') := fun n' os' => by
        rw [← hxj]; exact run_loadCellsFrom_list P _ _ _ k (HK.out _) (HoldsK.cells (hHc n' os') HK.out (by omega))
      have lp : ∀ n' os', Sem.run P (loadCellsFrom ⟨blk, off + a * k, none⟩ 0 k #[]) (grow ((sortWorldK enc k w blk off n d os).drewN n') os') = .ok (enc xp).toArray (grow ((sortWorldK enc k w blk off n d os).drewN n') os') := fun n' os' => by
        rw [← hxp]; exact run_loadCellsFrom_list P _ _ _ k (HK.out _) (HoldsK.cells (hHc n' os') HK.out (by omega))
      have hcg : ∀ n' os', Calls P 66 (#[.agg (enc xj).toArray, .agg (enc xp).toArray] ++ #[]) (grow ((sortWorldK enc k w blk off n d os).drewN n') os') fun e w' => e = .returned (.int .i64 (cmpN xj xp)) ∧ ∃ q os'', w' = grow ((grow ((sortWorldK enc k w blk off n d os).drewN n') os').drewN q) os'' := fun n' os' => by
        rw [hcls]; exact HC.out _ _ d rfl xj xp
      have CLS : Hid _ := hcls
      have XX : Hid (d[h]! = xj ∧ d[a]! = xp) := ⟨hxj, hxp⟩
      clear hcls hHc hxj hxp
      generalize hwq : sortWorldK enc k w blk off n d os = wq at lj lp hcg CLS ⊢
      by_cases hlv : cmpN xj xp < 0
      · go_wp2_with fail
        go_quiet_grown (first | (go_at_fn 66; refine Calls.grown_of (hcg _ _)))
        go_wp2
        go_roundg (hi - (h + 1))
        case measure => omega
        case rel => exact ⟨h + 1, hi, _, _, by go_num, rfl, by omega, by omega, by omega, Nat.le_refl _, ⟨fun _ => (by rw [Nat.add_sub_cancel, XX.out.1, XX.out.2]; exact hlv), HBD.out.2⟩, CLS.out nq osq⟩
      · go_wp2_with fail
        go_quiet_grown (first | (go_at_fn 66; refine Calls.grown_of (hcg _ _)))
        go_wp2
        go_roundg (h - lo)
        case measure => omega
        case rel => exact ⟨lo, h, _, _, rfl, rfl, by omega, by omega, by omega, Nat.le_refl _, ⟨HBD.out.1, fun _ => (by rw [XX.out.1, XX.out.2]; exact hlv)⟩, CLS.out nq osq⟩
    · obtain rfl : lo = hi := by omega
      have hltz : ¬ (lo : Int) < (lo : Int) := by omega
      obtain ⟨w0, hw0⟩ : ∃ w0, w0 = sortWorldK enc k w blk off n d os := ⟨_, rfl⟩
      have HW0 : Hid _ := hw0
      rw [← hw0]
      clear hw0
      obtain ⟨l1, hl1⟩ : ∃ l1, l1 + 1 = lo := ⟨lo - 1, by omega⟩
      have wl : IntKind.i64.wrap ((lo : Int) - 1) = (l1 : Int) := by rw [IntKind.wrap_i64]; omega
      have wl' : (lo : Int) - 1 = (l1 : Int) := by omega
      have HL1 : Hid (l1 + 1 = lo) := hl1
      clear hl1
      go_wp2
      go_loopg [13] (lo - m) (fun g2 vk wr2 => ∃ (t n2 : Nat), vk = .int .i64 ((a + t : Nat) : Int) ∧ t ≤ lo - m ∧ lo - m - t ≤ g2 ∧ Hid (wr2 = sortWorldK enc k w blk off n2 (mvU d a t) os))
      case atStart => exact ⟨0, n, by first | rfl | go_num, by omega, by omega, HW0⟩
      case round =>
        obtain ⟨t, n2, rfl, htl, hg2, HW⟩ := hrel
        have hL1 := HL1.out
        by_cases hlt2 : t < lo - m
        · obtain ⟨kk, hkk⟩ : ∃ kk, kk = a + t := ⟨_, rfl⟩
          have HKK : Hid (kk = a + t) := hkk
          rw [← hkk]
          have hltz2 : (kk : Int) < (l1 : Int) := by omega
          have bnd : ∀ x, x < d.size → x * k + k ≤ d.size * k := fun x hx => by
            have := Nat.mul_le_mul_right k (show x + 1 ≤ d.size from hx); rwa [Nat.add_mul, Nat.one_mul] at this
          have hsj : (mvU d a t).size = d.size := size_mvU d a t
          have hHd : HoldsK enc k wr.drew blk off (mvU d a t) := by
            have : HoldsK enc k wr blk off (mvU d a t) := by rw [HW.out]; exact holdsK_sortWorldK_c enc k w blk off d _ _ _ HH.out hblk hsj
            exact this
          obtain ⟨xj, hxj⟩ : ∃ x, (mvU d a t)[kk + 1]! = x := ⟨_, rfl⟩
          obtain ⟨xp, hxp⟩ : ∃ x, (mvU d a t)[kk]! = x := ⟨_, rfl⟩
          have lj2 : Sem.run P (loadCellsFrom ⟨blk, off + (kk + 1) * k, none⟩ 0 k #[]) wr.drew = .ok (enc xj).toArray wr.drew := by rw [← hxj]; exact run_loadCellsFrom_list P _ _ _ k (HK.out _) (HoldsK.cells hHd HK.out (by omega))
          have lp2 : Sem.run P (loadCellsFrom ⟨blk, off + kk * k, none⟩ 0 k #[]) wr.drew = .ok (enc xp).toArray wr.drew := by rw [← hxp]; exact run_loadCellsFrom_list P _ _ _ k (HK.out _) (HoldsK.cells hHd HK.out (by omega))
          have s1 : Sem.run P (storeCells ⟨blk, off + kk * k, none⟩ (enc xj) 0) wr.drew = .ok () (wr.drew.setCells blk (off + kk * k) (enc xj)) := stores_of_holds P hHd (kk * k) _ (by rw [HK.out, size_flatK, hsj]; exact bnd kk (by omega)) (H1.out _)
          have s2 : Sem.run P (storeCells ⟨blk, off + (kk + 1) * k, none⟩ (enc xp) 0) (wr.drew.setCells blk (off + kk * k) (enc xj)) = .ok () ((wr.drew.setCells blk (off + kk * k) (enc xj)).setCells blk (off + (kk + 1) * k) (enc xp)) :=
            stores_of_holds P (holds_setCells_c hHd (kk * k) _ (by rw [HK.out, size_flatK, hsj]; exact bnd kk (by omega))) ((kk + 1) * k) _ (by rw [HK.out, size_setMany, size_flatK, hsj]; exact bnd (kk + 1) (by omega)) (H1.out _)
          have hsJ : (enc xj).length = k := HK.out _
          have hsP : (enc xp).length = k := HK.out _
          have XX : Hid ((mvU d a t)[kk + 1]! = xj ∧ (mvU d a t)[kk]! = xp ∧ (mvU d a t).size = d.size) := ⟨hxj, hxp, hsj⟩
          have ia : (kk : Int) < (d.size : Int) := by omega
          have ib : (kk : Int) + 1 < (d.size : Int) := by omega
          have pb : (0 : Int) ≤ (kk : Int) + 1 := by omega
          have eb : ((kk : Int) + 1).toNat = kk + 1 := by omega
          clear hHd bnd hxj hxp hsj hkk hL1
          obtain ⟨cJ, hcJ⟩ : ∃ c, c = enc xj := ⟨_, rfl⟩
          obtain ⟨cP, hcP⟩ : ∃ c, c = enc xp := ⟨_, rfl⟩
          rw [← hcJ] at s1 lj2 hsJ
          rw [← hcP] at lp2 hsP
          rw [← hcJ, ← hcP] at s2
          have CC : Hid (cJ = enc xj ∧ cP = enc xp) := ⟨hcJ, hcP⟩
          clear hcJ hcP
          go_wp2_with fail
          go_big_region_o
          all_goals go_wp2
          go_roundg (lo - m - (t + 1))
          case measure => omega
          case rel =>
            have hkk := HKK.out
            have hL1 := HL1.out
            refine ⟨t + 1, n2 + 1, by first | rfl | (congr 1; omega), by omega, by omega, (show Hid _ from ?_)⟩
            show _ = _
            rw [CC.out.1, CC.out.2, HW.out, ← XX.out.1, ← XX.out.2.1, mvU, ← hkk]
            exact sortWorldK_swp_c enc k w blk off HK.out n2 _ os hblk kk (kk + 1) (by rw [XX.out.2.2]; omega) (by rw [XX.out.2.2]; omega)
        · have hltz2 : ¬ ((a + t : Nat) : Int) < (l1 : Int) := by omega
          have hltz3 : ¬ (a : Int) + (t : Int) < (l1 : Int) := by omega
          obtain rfl : t = lo - m := by omega
          go_wp2
          (try simp only [Exit.inBlock, Exit.then]); refine bodyPost_ret (results_none rfl _ _ _) rfl ?_
          exact ⟨rfl, lo, hlo, hhi, HBD.out.1, HBD.out.2, n2, os, HW.out⟩
end Go.Proofs.YtedakipjfpdajaaGreatDoor
namespace Go.Proofs.YtedakipjfpdajaaGreatDoor
open Go.RowKit Go.Sort Go.Shelf Go.Lib

/-- What stands at m has gone t places back. -/
def mvD (D : Array Pr) (m : Nat) : Nat → Array Pr
  | 0 => D
  | t + 1 => Go.Sort.swp (mvD D m t) (m - t) (m - t - 1)
theorem size_mvD (D : Array Pr) (m : Nat) : ∀ n, (mvD D m n).size = D.size
  | 0 => rfl
  | n + 1 => by rw [mvD, size_swp, size_mvD D m n]

set_option maxHeartbeats 1000000 in
set_option maxRecDepth 1000000 in
theorem symLastG {P : Program} (mixed : P.follows .mixedOrders = true) (F : P.funcs[153]? = some Tryz.f153) (k : Nat) (aE : ∀ w, (isAgg 42).run P w = .ok true w) (zE : ∀ w, (Go.sizeOf 42).run P w = .ok k w)
    (t26 : P.underlying 26 = some (TypeDesc.slice 42)) (t3 : P.underlying 3 = some (TypeDesc.int IntKind.i64)) (t89 : P.underlying 89 = some (TypeDesc.int IntKind.u64))
    (enc : Pr → List Value) (hk : ∀ x, (enc x).length = k) (h1 : ∀ x, ∀ v ∈ enc x, v.oneCell' = true)
    (blk off cap a m b : Nat) (d : Array Pr) (w : World) (eg : ∀ args w, (callFunc 66 args).run P w = .ok (.enter 66 args) w) (hcmp : CmpLays P 66 #[] enc k cmpN blk off d.size w) (hH : HoldsK enc k w blk off d) (hblk : blk < w.heap.size) (hm : m + 1 = b) (hab : a + 1 < m) (hb : b ≤ d.size) (hsz : d.size < 4611686018427387904) :
    Calls P 153 #[.slice (some ⟨blk, off, none⟩) d.size cap, .int .i64 a, .int .i64 m, .int .i64 b, .func (.func 66) #[] #[]] w fun e w' =>
      e = .returned (.tuple #[]) ∧ ∃ i, a ≤ i ∧ i ≤ m ∧ (a < i → 0 ≤ cmpN d[m]! d[i - 1]!) ∧ (i < m → cmpN d[m]! d[i]! < 0) ∧ ∃ n os, w' = sortWorldK enc k w blk off n (mvD d m (m - i)) os := by
  have u26 := run_underlying t26
  have u3 := run_underlying t3
  have u89 := run_underlying t89
  have HC : Aside _ := hcmp
  have HST : Hid (w = sortWorldK enc k w blk off 0 d #[]) := by show w = _; unfold sortWorldK; rw [grow_empty]; exact (putRowK_self enc k w blk off d hH).symm
  have HH : Hid (HoldsK enc k w blk off d) := hH
  have HK : Hid (∀ x, (enc x).length = k) := hk
  have H1 : Hid (∀ x, ∀ v ∈ enc x, v.oneCell' = true) := h1
  have wm : IntKind.i64.wrap ((m : Int) - (a : Int)) = (m : Int) - (a : Int) := by rw [IntKind.wrap_i64]; omega
  have wm' : ¬ (m : Int) - (a : Int) = 1 := by omega
  have wm2 : ((m : Int) - (a : Int) == 1) = false := by rw [beq_eq_false_iff_ne]; omega
  have wb : IntKind.i64.wrap ((b : Int) - (m : Int)) = 1 := by rw [IntKind.wrap_i64]; omega
  have wb' : (b : Int) - (m : Int) = 1 := by omega
  clear hcmp hH hk h1
  go_enter F, Tryz.ntmps153
  go_wp2
  go_loopg [14, 15] (m - a) (fun g1 vi vj wr => ∃ (lo hi n : Nat) (os : Array Obj), vi = .int .i64 lo ∧ vj = .int .i64 hi ∧ a ≤ lo ∧ lo ≤ hi ∧ hi ≤ m ∧ hi - lo ≤ g1 ∧ Hid ((a < lo → ¬ cmpN d[m]! d[lo - 1]! < 0) ∧ (hi < m → cmpN d[m]! d[hi]! < 0)) ∧ wr = sortWorldK enc k w blk off n d os)
  case atStart => exact ⟨a, m, 0, #[], rfl, rfl, Nat.le_refl _, by omega, Nat.le_refl _, Nat.le_refl _, ⟨fun h => by omega, fun h => by omega⟩, HST.out⟩
  case round =>
    obtain ⟨lo, hi, n, os, rfl, rfl, hlo, hlh, hhi, hg1, HBD, rfl⟩ := hrel
    by_cases hlt : lo < hi
    · have hltz : (lo : Int) < (hi : Int) := by omega
      obtain ⟨h, hh, hm1, hm2⟩ : ∃ h : Nat, ((lo : Int) + (hi : Int)) / 2 = (h : Int) ∧ lo ≤ h ∧ h < hi := ⟨(lo + hi) / 2, by omega, by omega, by omega⟩
      obtain ⟨xj, hxj⟩ : ∃ x, d[m]! = x := ⟨_, rfl⟩
      obtain ⟨xp, hxp⟩ : ∃ x, d[h]! = x := ⟨_, rfl⟩
      have jz : (h : Int) < (d.size : Int) := by omega
      have jz1 : (m : Int) < (d.size : Int) := by omega
      have hcls : ∀ n' os', grow ((sortWorldK enc k w blk off n d os).drewN n') os' = sortWorldK enc k w blk off (n + n') d (os ++ os') := fun n' os' => sortWorldK_grown_c enc k w blk off n n' d os os'
      have hHc : ∀ n' os', HoldsK enc k (grow ((sortWorldK enc k w blk off n d os).drewN n') os') blk off d := fun n' os' => by rw [hcls]; exact holdsK_sortWorldK_c enc k w blk off d d _ _ HH.out hblk rfl
      have lj : ∀ n' os', Sem.run P (loadCellsFrom ⟨blk, off + m * k, none⟩ 0 k #[]) (grow ((sortWorldK enc k w blk off n d os).drewN n') os') = .ok (enc xj).toArray (grow ((sortWorldK enc k w blk off n d os).drewN n') os') := fun n' os' => by
        rw [← hxj]; exact run_loadCellsFrom_list P _ _ _ k (HK.out _) (HoldsK.cells (hHc n' os') HK.out (by omega))
      have lp : ∀ n' os', Sem.run P (loadCellsFrom ⟨blk, off + h * k, none⟩ 0 k #[]) (grow ((sortWorldK enc k w blk off n d os).drewN n') os') = .ok (enc xp).toArray (grow ((sortWorldK enc k w blk off n d os).drewN n') os') := fun n' os' => by
        rw [← hxp]; exact run_loadCellsFrom_list P _ _ _ k (HK.out _) (HoldsK.cells (hHc n' os') HK.out (by omega))
      have hcg : ∀ n' os', Calls P 66 (#[.agg (enc xj).toArray, .agg (enc xp).toArray] ++ #[]) (grow ((sortWorldK enc k w blk off n d os).drewN n') os') fun e w' => e = .returned (.int .i64 (cmpN xj xp)) ∧ ∃ q os'', w' = grow ((grow ((sortWorldK enc k w blk off n d os).drewN n') os').drewN q) os'' := fun n' os' => by
        rw [hcls]; exact HC.out _ _ d rfl xj xp
      have CLS : Hid _ := hcls
      have XX : Hid (d[m]! = xj ∧ d[h]! = xp) := ⟨hxj, hxp⟩
      clear hcls hHc hxj hxp
      generalize hwq : sortWorldK enc k w blk off n d os = wq at lj lp hcg CLS ⊢
      by_cases hlv : cmpN xj xp < 0
      · go_wp2_with fail
        go_quiet_grown (first | (go_at_fn 66; refine Calls.grown_of (hcg _ _)))
        go_wp2
        go_roundg (h - lo)
        case measure => omega
        case rel => exact ⟨lo, h, _, _, rfl, rfl, by omega, by omega, by omega, Nat.le_refl _, ⟨HBD.out.1, fun _ => (by rw [XX.out.1, XX.out.2]; exact hlv)⟩, CLS.out nq osq⟩
      · have hlb : decide (cmpN xj xp < 0) = false := decide_eq_false hlv
        have hlc : ¬ cmpN xj xp < 0 := hlv
        go_wp2_with fail
        go_quiet_grown (first | (go_at_fn 66; refine Calls.grown_of (hcg _ _)))
        go_wp2
        go_roundg (hi - (h + 1))
        case measure => omega
        case rel => exact ⟨h + 1, hi, _, _, by go_num, rfl, by omega, by omega, by omega, Nat.le_refl _, ⟨fun _ => (by rw [Nat.add_sub_cancel, XX.out.1, XX.out.2]; exact hlv), HBD.out.2⟩, CLS.out nq osq⟩
    · obtain rfl : lo = hi := by omega
      have hltz : ¬ (lo : Int) < (lo : Int) := by omega
      obtain ⟨w0, hw0⟩ : ∃ w0, w0 = sortWorldK enc k w blk off n d os := ⟨_, rfl⟩
      have HW0 : Hid _ := hw0
      rw [← hw0]
      clear hw0
      go_wp2
      go_loopg [17] (m - lo) (fun g2 vk wr2 => ∃ (t kk n2 : Nat), vk = .int .i64 (kk : Int) ∧ Hid (kk + t = m) ∧ t ≤ m - lo ∧ m - lo - t ≤ g2 ∧ Hid (wr2 = sortWorldK enc k w blk off n2 (mvD d m t) os))
      case atStart => exact ⟨0, m, n, by first | rfl | go_num, rfl, by omega, by omega, HW0⟩
      case round =>
        obtain ⟨t, k1, n2, rfl, HK1, htl, hg2, HW⟩ := hrel
        by_cases hlt2 : t < m - lo
        · have hk1 := HK1.out
          obtain ⟨kk, rfl⟩ : ∃ kk, k1 = kk + 1 := ⟨k1 - 1, by omega⟩
          have hltz2 : (lo : Int) < (kk : Int) + 1 := by omega
          have hwp : IntKind.i64.wrap (kk : Int) = (kk : Int) := by rw [IntKind.wrap_i64]; omega
          have bnd : ∀ x, x < d.size → x * k + k ≤ d.size * k := fun x hx => by
            have := Nat.mul_le_mul_right k (show x + 1 ≤ d.size from hx); rwa [Nat.add_mul, Nat.one_mul] at this
          have hsj : (mvD d m t).size = d.size := size_mvD d m t
          have hHd : HoldsK enc k wr.drew blk off (mvD d m t) := by
            have : HoldsK enc k wr blk off (mvD d m t) := by rw [HW.out]; exact holdsK_sortWorldK_c enc k w blk off d _ _ _ HH.out hblk hsj
            exact this
          obtain ⟨xj, hxj⟩ : ∃ x, (mvD d m t)[kk]! = x := ⟨_, rfl⟩
          obtain ⟨xp, hxp⟩ : ∃ x, (mvD d m t)[kk + 1]! = x := ⟨_, rfl⟩
          have lj2 : Sem.run P (loadCellsFrom ⟨blk, off + kk * k, none⟩ 0 k #[]) wr.drew = .ok (enc xj).toArray wr.drew := by rw [← hxj]; exact run_loadCellsFrom_list P _ _ _ k (HK.out _) (HoldsK.cells hHd HK.out (by omega))
          have lp2 : Sem.run P (loadCellsFrom ⟨blk, off + (kk + 1) * k, none⟩ 0 k #[]) wr.drew = .ok (enc xp).toArray wr.drew := by rw [← hxp]; exact run_loadCellsFrom_list P _ _ _ k (HK.out _) (HoldsK.cells hHd HK.out (by omega))
          have s1 : Sem.run P (storeCells ⟨blk, off + (kk + 1) * k, none⟩ (enc xj) 0) wr.drew = .ok () (wr.drew.setCells blk (off + (kk + 1) * k) (enc xj)) := stores_of_holds P hHd ((kk + 1) * k) _ (by rw [HK.out, size_flatK, hsj]; exact bnd (kk + 1) (by omega)) (H1.out _)
          have s2 : Sem.run P (storeCells ⟨blk, off + kk * k, none⟩ (enc xp) 0) (wr.drew.setCells blk (off + (kk + 1) * k) (enc xj)) = .ok () ((wr.drew.setCells blk (off + (kk + 1) * k) (enc xj)).setCells blk (off + kk * k) (enc xp)) :=
            stores_of_holds P (holds_setCells_c hHd ((kk + 1) * k) _ (by rw [HK.out, size_flatK, hsj]; exact bnd (kk + 1) (by omega))) (kk * k) _ (by rw [HK.out, size_setMany, size_flatK, hsj]; exact bnd kk (by omega)) (H1.out _)
          have hsJ : (enc xj).length = k := HK.out _
          have hsP : (enc xp).length = k := HK.out _
          have XX : Hid ((mvD d m t)[kk]! = xj ∧ (mvD d m t)[kk + 1]! = xp ∧ (mvD d m t).size = d.size) := ⟨hxj, hxp, hsj⟩
          have ia : (kk : Int) < (d.size : Int) := by omega
          have ib : (kk : Int) + 1 < (d.size : Int) := by omega
          have pb : (0 : Int) ≤ (kk : Int) + 1 := by omega
          have eb : ((kk : Int) + 1).toNat = kk + 1 := by omega
          clear hHd bnd hxj hxp hsj hk1
          obtain ⟨cJ, hcJ⟩ : ∃ c, c = enc xj := ⟨_, rfl⟩
          obtain ⟨cP, hcP⟩ : ∃ c, c = enc xp := ⟨_, rfl⟩
          rw [← hcJ] at s1 lj2 hsJ
          rw [← hcP] at lp2 hsP
          rw [← hcJ, ← hcP] at s2
          have CC : Hid (cJ = enc xj ∧ cP = enc xp) := ⟨hcJ, hcP⟩
          clear hcJ hcP
          go_wp2_with fail
          go_big_region_o
          all_goals go_wp2
          go_roundg (m - lo - (t + 1))
          case measure => omega
          case rel =>
            have hk1 := HK1.out
            refine ⟨t + 1, kk, n2 + 1, by first | rfl | go_num | (congr 1; omega), (show Hid _ from ?_), by omega, by omega, (show Hid _ from ?_)⟩
            · show _ = _
              omega
            · show _ = _
              rw [CC.out.1, CC.out.2, HW.out, ← XX.out.1, ← XX.out.2.1, mvD, show m - t = kk + 1 by omega, Nat.add_sub_cancel]
              exact sortWorldK_swp_c enc k w blk off HK.out n2 _ os hblk (kk + 1) kk (by rw [XX.out.2.2]; omega) (by rw [XX.out.2.2]; omega)
        · have hk1 := HK1.out
          obtain rfl : t = m - lo := by omega
          have hltz2 : ¬ (lo : Int) < (k1 : Int) := by omega
          clear hk1
          go_wp2
          (try simp only [Exit.inBlock, Exit.then]); refine bodyPost_ret (results_none rfl _ _ _) rfl ?_
          exact ⟨rfl, lo, hlo, hhi, HBD.out.1, HBD.out.2, n2, os, HW.out⟩
end Go.Proofs.YtedakipjfpdajaaGreatDoor
namespace Go.Proofs.YtedakipjfpdajaaGreatDoor
open Go.RowKit Go.Sort Go.Shelf

theorem bang_of {l : List Pr} {i : Nat} {z : Pr} (h : l[i]? = some z) : l.toArray[i]! = z := by
  obtain ⟨hi, rfl⟩ := List.getElem?_eq_some_iff.1 h
  rw [getElem!_pos _ i (by simpa using hi)]
  simp
theorem mid_get (P M S : List Pr) {q : Nat} (hq : q < M.length) : (P ++ M ++ S)[P.length + q]? = M[q]? := by
  rw [List.append_assoc, List.getElem?_append_right (by omega), List.getElem?_append_left (by omega), Nat.add_sub_cancel_left]
theorem mvU_list (P : List Pr) (x : Pr) (C S : List Pr) : ∀ t, t ≤ C.length → (mvU (P ++ [x] ++ C ++ S).toArray P.length t).toList = P ++ C.take t ++ [x] ++ C.drop t ++ S
  | 0, _ => by simp [mvU]
  | t + 1, ht => by
    have ih := mvU_list P x C S t (by omega)
    obtain ⟨y, hy, hd⟩ := get_at (l := C) (k := t) (by omega)
    rw [mvU]
    generalize mvU (P ++ [x] ++ C ++ S).toArray P.length t = D at ih ⊢
    have hl : (P ++ C.take t).length = P.length + t := by rw [List.length_append, List.length_take]; omega
    have ih2 : D.toList = (P ++ C.take t) ++ [x, y] ++ (C.drop (t + 1) ++ S) := by rw [ih, hd]; simp
    have hD : D = ((P ++ C.take t) ++ [x, y] ++ (C.drop (t + 1) ++ S)).toArray := by rw [← ih2]
    have gx : D[P.length + t]! = x := by
      rw [hD, ← hl]
      exact bang_of (by simp)
    have gy : D[P.length + t + 1]! = y := by
      rw [hD, ← hl]
      exact bang_of (by have := mid_get (P ++ C.take t) [x, y] (C.drop (t + 1) ++ S) (q := 1) (by simp); simpa using this)
    unfold Go.Sort.swp
    rw [gx, gy, hD, take_snoc_of hy]
    simp only [Array.toList_setIfInBounds]
    have hq : P ++ (C.take t ++ [y]) ++ [x] ++ C.drop (t + 1) ++ S = (P ++ C.take t) ++ [y, x] ++ (C.drop (t + 1) ++ S) := by simp
    rw [← hl, hq]
    generalize P ++ C.take t = Q
    simp
theorem mvD_list (P A : List Pr) (y : Pr) (S : List Pr) : ∀ t, t ≤ A.length → (mvD (P ++ A ++ [y] ++ S).toArray (P.length + A.length) t).toList = P ++ A.take (A.length - t) ++ [y] ++ A.drop (A.length - t) ++ S
  | 0, _ => by simp [mvD]
  | t + 1, ht => by
    have ih := mvD_list P A y S t (by omega)
    obtain ⟨s, hs⟩ : ∃ s, A.length - (t + 1) = s := ⟨_, rfl⟩
    have hs1 : A.length - t = s + 1 := by omega
    obtain ⟨x, hx, hd⟩ := get_at (l := A) (k := s) (by omega)
    rw [mvD]
    rw [hs1, take_snoc_of hx] at ih
    rw [hs, hd]
    generalize mvD (P ++ A ++ [y] ++ S).toArray (P.length + A.length) t = D at ih ⊢
    have hl : (P ++ A.take s).length = P.length + s := by rw [List.length_append, List.length_take]; omega
    have ih2 : D.toList = (P ++ A.take s) ++ [x, y] ++ (A.drop (s + 1) ++ S) := by rw [ih]; simp
    have hD : D = ((P ++ A.take s) ++ [x, y] ++ (A.drop (s + 1) ++ S)).toArray := by rw [← ih2]
    have e1 : P.length + A.length - t = P.length + s + 1 := by omega
    have gx : D[P.length + s]! = x := by
      rw [hD, ← hl]
      exact bang_of (by simp)
    have gy : D[P.length + s + 1]! = y := by
      rw [hD, ← hl]
      exact bang_of (by have := mid_get (P ++ A.take s) [x, y] (A.drop (s + 1) ++ S) (q := 1) (by simp); simpa using this)
    unfold Go.Sort.swp
    rw [e1, Nat.add_sub_cancel, gx, gy, hD]
    simp only [Array.toList_setIfInBounds]
    rw [← hl]
    generalize P ++ A.take s = Q
    simp
theorem symOne (B g cap a m b N : Nat) (P : List Pr) (x : Pr) (C S : List Pr) (w : World) (h : OwnK encR 42 4 B w (some ⟨g, 0, none⟩) cap (P ++ [x] ++ C ++ S)) (hN : (P ++ [x] ++ C ++ S).length = N) (ha : P.length = a) (hm : a + 1 = m) (hb : m + C.length = b) (hC : Sd C) (hl : N < 4611686018427387904) :
    Calls Tryz.prog 153 #[.slice (some ⟨g, 0, none⟩) N cap, .int .i64 a, .int .i64 m, .int .i64 b, .func (.func 66) #[] #[]] w fun e w' => e = .returned (.tuple #[]) ∧ ∃ D, Sd D ∧ Stb ([x] ++ C) D ∧ OwnK encR 42 4 B w' (some ⟨g, 0, none⟩) cap (P ++ D ++ S) ∧ Below B w w' := by
  obtain ⟨hH, hg⟩ := own_holdsR h
  have hN' := hN
  simp only [List.length_append, List.length_cons, List.length_nil] at hN'
  have hsz : (P ++ [x] ++ C ++ S).toArray.size = N := by simpa using hN
  have hcon := symOneG (P := Tryz.prog) (by kernel_rfl) Tryz.func153 4 Tryz.isAgg42 Tryz.sizeOf42 Tryz.underlying26 Tryz.underlying3 Tryz.underlying89 encR encR_len encR_one g 0 cap a m b (P ++ [x] ++ C ++ S).toArray w enters66 (cmpLaysR g 0 _ w) hH hg hm (by omega) (by rw [hsz]; omega) (by rw [hsz]; exact hl)
  rw [hsz] at hcon
  refine hcon.mono fun e w' ⟨he, i, hi1, hi2, b1, b2, n, os, hw⟩ => ⟨he, ?_⟩
  have gA : (P ++ [x] ++ C ++ S).toArray[a]! = x := bang_of (by
    rw [← ha]
    simp)
  have gC : ∀ q z, C[q]? = some z → (P ++ [x] ++ C ++ S).toArray[m + q]! = z := fun q z hq => bang_of (by
    have := mid_get (P ++ [x]) C S (q := q) (List.getElem?_eq_some_iff.1 hq).1
    rw [hq, List.length_append, List.length_singleton, ha, hm] at this
    exact this)
  obtain ⟨t, rfl⟩ : ∃ t, i = m + t := ⟨i - m, by omega⟩
  rw [Nat.add_sub_cancel_left] at hw
  have hml := mvU_list P x C S t (by omega)
  rw [ha] at hml
  obtain ⟨o1, o2⟩ := own_world (d' := (mvU (P ++ [x] ++ C ++ S).toArray a t).toList) n os h (by simp [size_mvU])
  rw [Array.toArray_toList, ← hw, hml] at o1
  rw [Array.toArray_toList, ← hw] at o2
  have hCs : C = C.take t ++ C.drop t := (List.take_append_drop t C).symm
  have hC2 := hC
  rw [hCs] at hC2
  obtain ⟨s1, s2, s3⟩ := sd_app.1 hC2
  have sx : Sd [x] := List.pairwise_singleton _ _
  have l1 : ∀ u ∈ [x], ∀ y ∈ C.take t, cmpN y u < 0 := all_lt sx s1 fun u y hu hy => by
    have ht : 0 < t := Nat.pos_of_ne_zero fun e => by subst e; simp at hy
    rw [List.length_take, Nat.min_eq_left (by omega), List.getElem?_take, if_pos (by omega)] at hy
    have := b1 (by omega)
    rw [gA, show m + t - 1 = m + (t - 1) by omega, gC _ _ hy] at this
    simp at hu
    rw [← hu]; exact this
  have l2 : ∀ u ∈ [x], ∀ y ∈ C.drop t, cmpN u y ≤ 0 := all_le sx s2 fun u y hu hy => by
    rw [List.getElem?_drop, Nat.add_zero] at hy
    have := b2 (by have := (List.getElem?_eq_some_iff.1 hy).1; omega)
    rw [gA, gC _ _ hy, cmpN_neg] at this
    simp at hu
    rw [← hu]; omega
  obtain ⟨r1, r2⟩ := halves (A1 := []) (A2 := [x]) (B1 := C.take t) (B2 := C.drop t) (C1 := C.take t) (C2 := [x] ++ C.drop t) sx hC2 (fun _ h => by cases h) l1 s1 (sd_app.2 ⟨sx, s2, l2⟩) (Stb.refl _) (Stb.refl _)
  refine ⟨_, r1, ?_, ?_, o2⟩
  · rw [List.take_append_drop] at r2
    simpa using r2
  · simpa using o1
theorem symLast (B g cap a m b N : Nat) (P A : List Pr) (y : Pr) (S : List Pr) (w : World) (h : OwnK encR 42 4 B w (some ⟨g, 0, none⟩) cap (P ++ A ++ [y] ++ S)) (hN : (P ++ A ++ [y] ++ S).length = N) (ha : P.length = a) (hm : a + A.length = m) (hb : m + 1 = b) (hA : Sd A) (h2 : 1 < A.length) (hl : N < 4611686018427387904) :
    Calls Tryz.prog 153 #[.slice (some ⟨g, 0, none⟩) N cap, .int .i64 a, .int .i64 m, .int .i64 b, .func (.func 66) #[] #[]] w fun e w' => e = .returned (.tuple #[]) ∧ ∃ D, Sd D ∧ Stb (A ++ [y]) D ∧ OwnK encR 42 4 B w' (some ⟨g, 0, none⟩) cap (P ++ D ++ S) ∧ Below B w w' := by
  obtain ⟨hH, hg⟩ := own_holdsR h
  have hN' := hN
  simp only [List.length_append, List.length_cons, List.length_nil] at hN'
  have hsz : (P ++ A ++ [y] ++ S).toArray.size = N := by simpa using hN
  have hcon := symLastG (P := Tryz.prog) (by kernel_rfl) Tryz.func153 4 Tryz.isAgg42 Tryz.sizeOf42 Tryz.underlying26 Tryz.underlying3 Tryz.underlying89 encR encR_len encR_one g 0 cap a m b (P ++ A ++ [y] ++ S).toArray w enters66 (cmpLaysR g 0 _ w) hH hg hb (by omega) (by rw [hsz]; omega) (by rw [hsz]; exact hl)
  rw [hsz] at hcon
  refine hcon.mono fun e w' ⟨he, i, hi1, hi2, b1, b2, n, os, hw⟩ => ⟨he, ?_⟩
  have gY : (P ++ A ++ [y] ++ S).toArray[m]! = y := bang_of (by
    have := mid_get (P ++ A) [y] S (q := 0) (by simp)
    rw [List.length_append, ha, hm] at this
    simpa using this)
  have gA : ∀ q z, A[q]? = some z → (P ++ A ++ [y] ++ S).toArray[a + q]! = z := fun q z hq => bang_of (by
    have := mid_get P A ([y] ++ S) (q := q) (List.getElem?_eq_some_iff.1 hq).1
    rw [hq, ha] at this
    simpa using this)
  obtain ⟨t, rfl⟩ : ∃ t, i = a + t := ⟨i - a, by omega⟩
  have hml := mvD_list P A y S (m - (a + t)) (by omega)
  rw [ha, hm, show A.length - (m - (a + t)) = t by omega] at hml
  obtain ⟨o1, o2⟩ := own_world (d' := (mvD (P ++ A ++ [y] ++ S).toArray m (m - (a + t))).toList) n os h (by simp [size_mvD])
  rw [Array.toArray_toList, ← hw, hml] at o1
  rw [Array.toArray_toList, ← hw] at o2
  have hAs : A = A.take t ++ A.drop t := (List.take_append_drop t A).symm
  have hA2 := hA
  rw [hAs] at hA2
  obtain ⟨s1, s2, s3⟩ := sd_app.1 hA2
  have sy : Sd [y] := List.pairwise_singleton _ _
  have l1 : ∀ u ∈ A.drop t, ∀ v ∈ [y], cmpN v u < 0 := all_lt s2 sy fun u v hu hv => by
    rw [List.getElem?_drop, Nat.add_zero] at hu
    have := b2 (by have := (List.getElem?_eq_some_iff.1 hu).1; omega)
    rw [gY, gA _ _ hu] at this
    simp at hv
    rw [← hv]; exact this
  have l2 : ∀ u ∈ A.take t, ∀ v ∈ [y], cmpN u v ≤ 0 := all_le s1 sy fun u v hu hv => by
    have ht : 0 < t := Nat.pos_of_ne_zero fun e => by subst e; simp at hu
    rw [List.length_take, Nat.min_eq_left (by omega), List.getElem?_take, if_pos (by omega)] at hu
    have := b1 (by omega)
    rw [gY, show a + t - 1 = a + (t - 1) by omega, gA _ _ hu, cmpN_neg] at this
    simp at hv
    rw [← hv]; omega
  obtain ⟨r1, r2⟩ := halves (A1 := A.take t) (A2 := A.drop t) (B1 := [y]) (B2 := []) (C1 := A.take t ++ [y]) (C2 := A.drop t) hA2 (by simpa using sy) (fun _ _ _ h => by cases h) l1 (sd_app.2 ⟨s1, sy, l2⟩) s2 (Stb.refl _) (by simpa using Stb.refl _)
  refine ⟨_, r1, ?_, ?_, o2⟩
  · rw [List.take_append_drop] at r2
    simpa using r2
  · simpa using o1
end Go.Proofs.YtedakipjfpdajaaGreatDoor
namespace Go.Proofs.YtedakipjfpdajaaGreatDoor
open Go.RowKit Go.Sort Go.Shelf

theorem cut_of {P A C S : List Pr} {a m b mid s e lo0 r0 : Nat} (ha : P.length = a) (hm : a + A.length = m) (hb : m + C.length = b) (hmid : mid = (a + b) / 2)
    (hbr : (mid < m ∧ lo0 + b = mid + m ∧ r0 = mid) ∨ (m ≤ mid ∧ lo0 = a ∧ r0 = m)) (h1 : lo0 ≤ s) (h2 : s ≤ r0) (he : e + s = mid + m) (hA : Sd A) (hC : Sd C)
    (b1 : lo0 < s → ∀ x y, (P ++ A ++ C ++ S)[e]? = some x → (P ++ A ++ C ++ S)[s - 1]? = some y → 0 ≤ cmpN x y)
    (b2 : s < r0 → ∀ x y, (P ++ A ++ C ++ S)[e - 1]? = some x → (P ++ A ++ C ++ S)[s]? = some y → cmpN x y < 0) :
    (a ≤ s ∧ s ≤ m ∧ m ≤ e ∧ e ≤ b) ∧ (∀ x ∈ A.take (s - a), ∀ y ∈ C.drop (e - m), cmpN x y ≤ 0) ∧ (∀ x ∈ A.drop (s - a), ∀ y ∈ C.take (e - m), cmpN y x < 0) := by
  have hin : a ≤ s ∧ s ≤ m ∧ m ≤ e ∧ e ≤ b := by omega
  have gA : ∀ q z, A[q]? = some z → (P ++ A ++ C ++ S)[a + q]? = some z := fun q z hq => by
    have := mid_get P A (C ++ S) (q := q) (List.getElem?_eq_some_iff.1 hq).1
    rw [hq, ha, ← List.append_assoc] at this
    exact this
  have gC : ∀ q z, C[q]? = some z → (P ++ A ++ C ++ S)[m + q]? = some z := fun q z hq => by
    have := mid_get (P ++ A) C S (q := q) (List.getElem?_eq_some_iff.1 hq).1
    rw [hq, List.length_append, ha, hm] at this
    exact this
  have sA := sd_app.1 (by rw [List.take_append_drop (s - a) A]; exact hA : Sd (A.take (s - a) ++ A.drop (s - a)))
  have sC := sd_app.1 (by rw [List.take_append_drop (e - m) C]; exact hC : Sd (C.take (e - m) ++ C.drop (e - m)))
  refine ⟨hin, all_le sA.1 sC.2.1 fun x y hx hy => ?_, all_lt sA.2.1 sC.1 fun x y hx hy => ?_⟩
  · rw [List.getElem?_drop, Nat.add_zero] at hy
    have hyl := (List.getElem?_eq_some_iff.1 hy).1
    have hs : a < s := Classical.byContradiction fun hn => by
      rw [show s - a = 0 by omega] at hx
      simp at hx
    rw [List.length_take, Nat.min_eq_left (by omega), List.getElem?_take, if_pos (by omega)] at hx
    have := b1 (by omega) y x (by have := gC _ _ hy; rwa [show m + (e - m) = e by omega] at this) (by have := gA _ _ hx; rwa [show a + (s - a - 1) = s - 1 by omega] at this)
    rw [cmpN_neg] at this
    omega
  · rw [List.getElem?_drop, Nat.add_zero] at hx
    have hxl := (List.getElem?_eq_some_iff.1 hx).1
    have hs : m < e := Classical.byContradiction fun hn => by
      rw [show e - m = 0 by omega] at hy
      simp at hy
    rw [List.length_take, Nat.min_eq_left (by omega), List.getElem?_take, if_pos (by omega)] at hy
    exact b2 (by omega) y x (by have := gC _ _ hy; rwa [show m + (e - m - 1) = e - 1 by omega] at this) (by have := gA _ _ hx; rwa [show a + (s - a) = s by omega] at this)
end Go.Proofs.YtedakipjfpdajaaGreatDoor

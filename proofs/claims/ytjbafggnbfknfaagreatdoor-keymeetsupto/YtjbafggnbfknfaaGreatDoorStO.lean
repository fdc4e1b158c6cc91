/- slices.symMergeCmpFunc where the first run is one pair. -/
import Derived.Test.YtjbafggnbfknfaaGreatDoorZaf
namespace Go.Proofs.YtjbafggnbfknfaaGreatDoor
open Go.RowKit Go.Sort Go.Shelf Go.Lib

/-- What stands at a has gone t places on. -/
def mvU (D : Array Pr) (a : Nat) : Nat → Array Pr
  | 0 => D
  | t + 1 => Go.Sort.swp (mvU D a t) (a + t) (a + t + 1)
theorem size_mvU (D : Array Pr) (a : Nat) : ∀ n, (mvU D a n).size = D.size
  | 0 => rfl
  | n + 1 => by rw [mvU, size_swp, size_mvU D a n]

set_option maxHeartbeats 1000000 in
set_option maxRecDepth 1000000 in
theorem symOneG {P : Program} (mixed : P.follows .mixedOrders = true) (F : P.funcs[153]? = some Tryz.f153) (k : Nat) (aE : ∀ w, (isAgg 42).run P w = .ok true w) (zE : ∀ w, (Go.sizeOf 42).run P w = .ok k w)
    (t26 : P.underlying 26 = some (TypeDesc.slice 42)) (t3 : P.underlying 3 = some (TypeDesc.int IntKind.i64)) (t89 : P.underlying 89 = some (TypeDesc.int IntKind.u64))
    (enc : Pr → List Value) (hk : ∀ x, (enc x).length = k) (h1 : ∀ x, ∀ v ∈ enc x, v.oneCell' = true)
    (blk off cap a m b : Nat) (d : Array Pr) (w : World) (eg : ∀ args w, (callFunc 66 args).run P w = .ok (.enter 66 args) w) (hcmp : CmpLays P 66 #[] enc k cmpN blk off d.size w) (hH : HoldsK enc k w blk off d) (hblk : blk < w.heap.size) (hm : a + 1 = m) (hab : m ≤ b) (hb : b ≤ d.size) (hsz : d.size < 4611686018427387904) :
    Calls P 153 #[.slice (some ⟨blk, off, none⟩) d.size cap, .int .i64 a, .int .i64 m, .int .i64 b, .func (.func 66) #[] #[]] w fun e w' =>
      e = .returned (.tuple #[]) ∧ ∃ i, m ≤ i ∧ i ≤ b ∧ (m < i → cmpN d[i - 1]! d[a]! < 0) ∧ (i < b → 0 ≤ cmpN d[i]! d[a]!) ∧ ∃ n os, w' = sortWorldK enc k w blk off n (mvU d a (i - m)) os := by
  have u26 := run_underlying t26
  have u3 := run_underlying t3
  have u89 := run_underlying t89
  have HC : Aside _ := hcmp
  have HST : Hid (w = sortWorldK enc k w blk off 0 d #[]) := by show w = _; unfold sortWorldK; rw [grow_empty]; exact (putRowK_self enc k w blk off d hH).symm
  have HH : Hid (HoldsK enc k w blk off d) := hH
  have HK : Hid (∀ x, (enc x).length = k) := hk
  have H1 : Hid (∀ x, ∀ v ∈ enc x, v.oneCell' = true) := h1
  have wm : IntKind.i64.wrap ((m : Int) - (a : Int)) = 1 := by rw [IntKind.wrap_i64]; omega
  have wm' : (m : Int) - (a : Int) = 1 := by omega
  clear hcmp hH hk h1
  go_enter F, Tryz.ntmps153
  go_wp2
  go_loopg [10, 11] (b - m) (fun g1 vi vj wr => ∃ (lo hi n : Nat) (os : Array Obj), vi = .int .i64 lo ∧ vj = .int .i64 hi ∧ m ≤ lo ∧ lo ≤ hi ∧ hi ≤ b ∧ hi - lo ≤ g1 ∧ Hid ((m < lo → cmpN d[lo - 1]! d[a]! < 0) ∧ (hi < b → ¬ cmpN d[hi]! d[a]! < 0)) ∧ wr = sortWorldK enc k w blk off n d os)
  case atStart => exact ⟨m, b, 0, #[], rfl, rfl, Nat.le_refl _, hab, Nat.le_refl _, Nat.le_refl _, ⟨fun h => by omega, fun h => by omega⟩, HST.out⟩
  case round =>
    obtain ⟨lo, hi, n, os, rfl, rfl, hlo, hlh, hhi, hg1, HBD, rfl⟩ := hrel
    by_cases hlt : lo < hi
    · have hltz : (lo : Int) < (hi : Int) := by omega
      obtain ⟨h, hh, hm1, hm2⟩ : ∃ h : Nat, ((lo : Int) + (hi : Int)) / 2 = (h : Int) ∧ lo ≤ h ∧ h < hi := ⟨(lo + hi) / 2, by omega, by omega, by omega⟩
      obtain ⟨xj, hxj⟩ : ∃ x, d[h]! = x := ⟨_, rfl⟩
      obtain ⟨xp, hxp⟩ : ∃ x, d[a]! = x := ⟨_, rfl⟩
      have jz : (h : Int) < (d.size : Int) := by omega
      have jz1 : (a : Int) < (d.size : Int) := by omega
      have hcls : ∀ n' os', grow ((sortWorldK enc k w blk off n d os).drewN n') os' = sortWorldK enc k w blk off (n + n') d (os ++ os') := fun n' os' => sortWorldK_grown_c enc k w blk off n n' d os os'
      have hHc : ∀ n' os', HoldsK enc k (grow ((sortWorldK enc k w blk off n d os).drewN n') os') blk off d := fun n' os' => by rw [hcls]; exact holdsK_sortWorldK_c enc k w blk off d d _ _ HH.out hblk rfl
      have lj : ∀ n' os', Sem.run P (loadCellsFrom ⟨blk, off + h * k, none⟩ 0 k #[]) (grow ((sortWorldK enc k w blk off n d os).drewN n') os') = .ok (enc xj).toArray (grow ((sortWorldK enc k w blk off n d os).drewN n') os') := fun n' os' => by
        rw [← hxj]; exact run_loadCellsFrom_list P _ _ _ k (HK.out _) (HoldsK.cells (hHc n' os') HK.out (by omega))
      have lp : ∀ n' os', Sem.run P (loadCellsFrom ⟨blk, off + a * k, none⟩ 0 k #[]) (grow ((sortWorldK enc k w blk off n d os).drewN n') os') = .ok (enc xp).toArray (grow ((sortWorldK enc k w blk off n d os).drewN n') os') := fun n' os' => by
        rw [← hxp]; exact run_loadCellsFrom_list P _ _ _ k (HK.out _) (HoldsK.cells (hHc n' os') HK.out (by omega))
      have hcg : ∀ n' os', Calls P 66 (#[.agg (enc xj).toArray, .agg (enc xp).toArray] ++ #[]) (grow ((sortWorldK enc k w blk off n d os).drewN n') os') fun e w' => e = .returned (.int .i64 (cmpN xj xp)) ∧ ∃ q os'', w' = grow ((grow ((sortWorldK enc k w blk off n d os).drewN n') os').drewN q) os'' := fun n' os' => by
        rw [hcls]; exact HC.out _ _ d rfl xj xp
      have CLS : Hid _ := hcls
      have XX : Hid (d[h]! = xj ∧ d[a]! = xp) := ⟨hxj, hxp⟩
      clear hcls hHc hxj hxp
      generalize hwq : sortWorldK enc k w blk off n d os = wq at lj lp hcg CLS ⊢
      by_cases hlv : cmpN xj xp < 0
      · go_wp2_with fail
        go_quiet_grown (first | (go_at_fn 66; refine Calls.grown_of (hcg _ _)))
        go_wp2
        go_roundg (hi - (h + 1))
        case measure => omega
        case rel => exact ⟨h + 1, hi, _, _, by go_num, rfl, by omega, by omega, by omega, Nat.le_refl _, ⟨fun _ => (by rw [Nat.add_sub_cancel, XX.out.1, XX.out.2]; exact hlv), HBD.out.2⟩, CLS.out nq osq⟩
      · go_wp2_with fail
        go_quiet_grown (first | (go_at_fn 66; refine Calls.grown_of (hcg _ _)))
        go_wp2
        go_roundg (h - lo)
        case measure => omega
        case rel => exact ⟨lo, h, _, _, rfl, rfl, by omega, by omega, by omega, Nat.le_refl _, ⟨HBD.out.1, fun _ => (by rw [XX.out.1, XX.out.2]; exact hlv)⟩, CLS.out nq osq⟩
    · obtain rfl : lo = hi := by omega
      have hltz : ¬ (lo : Int) < (lo : Int) := by omega
      obtain ⟨w0, hw0⟩ : ∃ w0, w0 = sortWorldK enc k w blk off n d os := ⟨_, rfl⟩
      have HW0 : Hid _ := hw0
      rw [← hw0]
      clear hw0
      obtain ⟨l1, hl1⟩ : ∃ l1, l1 + 1 = lo := ⟨lo - 1, by omega⟩
      have wl : IntKind.i64.wrap ((lo : Int) - 1) = (l1 : Int) := by rw [IntKind.wrap_i64]; omega
      have wl' : (lo : Int) - 1 = (l1 : Int) := by omega
      have HL1 : Hid (l1 + 1 = lo) := hl1
      clear hl1
      go_wp2
      go_loopg [13] (lo - m) (fun g2 vk wr2 => ∃ (t n2 : Nat), vk = .int .i64 ((a + t : Nat) : Int) ∧ t ≤ lo - m ∧ lo - m - t ≤ g2 ∧ Hid (wr2 = sortWorldK enc k w blk off n2 (mvU d a t) os))
      case atStart => exact ⟨0, n, by first | rfl | go_num, by omega, by omega, HW0⟩
      case round =>
        obtain ⟨t, n2, rfl, htl, hg2, HW⟩ := hrel
        have hL1 := HL1.out
        by_cases hlt2 : t < lo - m
        · obtain ⟨kk, hkk⟩ : ∃ kk, kk = a + t := ⟨_, rfl⟩
          have HKK : Hid (kk = a + t) := hkk
          rw [← hkk]
          have hltz2 : (kk : Int) < (l1 : Int) := by omega
          have bnd : ∀ x, x < d.size → x * k + k ≤ d.size * k := fun x hx => by
            have := Nat.mul_le_mul_right k (show x + 1 ≤ d.size from hx); rwa [Nat.add_mul, Nat.one_mul] at this
          have hsj : (mvU d a t).size = d.size := size_mvU d a t
          have hHd : HoldsK enc k wr.drew blk off (mvU d a t) := by
            have : HoldsK enc k wr blk off (mvU d a t) := by rw [HW.out]; exact holdsK_sortWorldK_c enc k w blk off d _ _ _ HH.out hblk hsj
            exact this
          obtain ⟨xj, hxj⟩ : ∃ x, (mvU d a t)[kk + 1]! = x := ⟨_, rfl⟩
          obtain ⟨xp, hxp⟩ : ∃ x, (mvU d a t)[kk]! = x := ⟨_, rfl⟩
          have lj2 : Sem.run P (loadCellsFrom ⟨blk, off + (kk + 1) * k, none⟩ 0 k #[]) wr.drew = .ok (enc xj).toArray wr.drew := by rw [← hxj]; exact run_loadCellsFrom_list P _ _ _ k (HK.out _) (HoldsK.cells hHd HK.out (by omega))
          have lp2 : Sem.run P (loadCellsFrom ⟨blk, off + kk * k, none⟩ 0 k #[]) wr.drew = .ok (enc xp).toArray wr.drew := by rw [← hxp]; exact run_loadCellsFrom_list P _ _ _ k (HK.out _) (HoldsK.cells hHd HK.out (by omega))
          have s1 : Sem.run P (storeCells ⟨blk, off + kk * k, none⟩ (enc xj) 0) wr.drew = .ok () (wr.drew.setCells blk (off + kk * k) (enc xj)) := stores_of_holds P hHd (kk * k) _ (by rw [HK.out, size_flatK, hsj]; exact bnd kk (by omega)) (H1.out _)
          have s2 : Sem.run P (storeCells ⟨blk, off + (kk + 1) * k, none⟩ (enc xp) 0) (wr.drew.setCells blk (off + kk * k) (enc xj)) = .ok () ((wr.drew.setCells blk (off + kk * k) (enc xj)).setCells blk (off + (kk + 1) * k) (enc xp)) :=
            stores_of_holds P (holds_setCells_c hHd (kk * k) _ (by rw [HK.out, size_flatK, hsj]; exact bnd kk (by omega))) ((kk + 1) * k) _ (by rw [HK.out, size_setMany, size_flatK, hsj]; exact bnd (kk + 1) (by omega)) (H1.out _)
          have hsJ : (enc xj).length = k := HK.out _
          have hsP : (enc xp).length = k := HK.out _
          have XX : Hid ((mvU d a t)[kk + 1]! = xj ∧ (mvU d a t)[kk]! = xp ∧ (mvU d a t).size = d.size) := ⟨hxj, hxp, hsj⟩
          have ia : (kk : Int) < (d.size : Int) := by omega
          have ib : (kk : Int) + 1 < (d.size : Int) := by omega
          have pb : (0 : Int) ≤ (kk : Int) + 1 := by omega
          have eb : ((kk : Int) + 1).toNat = kk + 1 := by omega
          clear hHd bnd hxj hxp hsj hkk hL1
          obtain ⟨cJ, hcJ⟩ : ∃ c, c = enc xj := ⟨_, rfl⟩
          obtain ⟨cP, hcP⟩ : ∃ c, c = enc xp := ⟨_, rfl⟩
          rw [← hcJ] at s1 lj2 hsJ
          rw [← hcP] at lp2 hsP
          rw [← hcJ, ← hcP] at s2
          have CC : Hid (cJ = enc xj ∧ cP = enc xp) := ⟨hcJ, hcP⟩
          clear hcJ hcP
          go_wp2_with fail
          go_big_region_o
          all_goals go_wp2
          go_roundg (lo - m - (t + 1))
          case measure => omega
          case rel =>
            have hkk := HKK.out
            have hL1 := HL1.out
            refine ⟨t + 1, n2 + 1, by first | rfl | (congr 1; omega), by omega, by omega, (show Hid _ from ?_)⟩
            show _ = _
            rw [CC.out.1, CC.out.2, HW.out, ← XX.out.1, ← XX.out.2.1, mvU, ← hkk]
            exact sortWorldK_swp_c enc k w blk off HK.out n2 _ os hblk kk (kk + 1) (by rw [XX.out.2.2]; omega) (by rw [XX.out.2.2]; omega)
        · have hltz2 : ¬ ((a + t : Nat) : Int) < (l1 : Int) := by omega
          have hltz3 : ¬ (a : Int) + (t : Int) < (l1 : Int) := by omega
          obtain rfl : t = lo - m := by omega
          go_wp2
          (try simp only [Exit.inBlock, Exit.then]); refine bodyPost_ret (results_none rfl _ _ _) rfl ?_
          exact ⟨rfl, lo, hlo, hhi, HBD.out.1, HBD.out.2, n2, os, HW.out⟩
end Go.Proofs.YtjbafggnbfknfaaGreatDoor

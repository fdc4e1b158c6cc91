/- slices.CompactFunc over predicates, with conj.same: of equal ones that stand side by side the first stays. -/
import Derived.Test.YtimklglliffpcaaGreatQCjCpt
import Derived.Test.YtimklglliffpcaaGreatQZad
namespace Go.Proofs.YtimklglliffpcaaGreat
open Go.RowKit Go.Sort Go.Shelf

theorem below_grown_any {B:Nat} {w wr:World} (h:Below B w wr) (hB:B≤wr.heap.size) (n:Nat) (os:Array Obj):Below B w (grow (wr.drewN n) os) :=
  ⟨h.os,h.tape,h.output,Nat.le_trans h.size (by simp [grow]),fun k hk=>by
    rw [← h.block k hk]
    show (wr.heap ++ os)[k]? = _
    rw [Array.getElem?_append_left (by omega)]⟩
theorem grown_all {w:World} {a:Addr} {v:Value} (hb:a.block < w.heap.size) (h:w.cell? a=some v):∀ n os,(grow (w.drewN n) os).cell? a=some v:=cell_grown hb h
theorem grown_anyC (wr:World) (n:Nat) (os:Array Obj) (r:Option Nat):wr.grownBy (grow (wr.drewN n) os) r:=grown_belowC (below_grown_any (Below.refl wr.heap.size wr) (Nat.le_refl _) n os) r
/-- conj.same, with its draws counted. -/
theorem sameDr (u v:Pv) (p r:Pd) (w:World) (hu:PdIn w u p) (hv:PdIn w v r) (hs:p.small):Calls Tryz.prog 128 #[u.val,v.val] w fun e w'=>e=.returned (.bool (decide (p=r)))∧∃ q os',w'=grow (w.drewN q) os':=by
  obtain ⟨X,HX,bX,sX,x8,x9⟩:=two_boxes w u v
  obtain ⟨a0,a1,a2,a3,a4,a5⟩:=of6C x8
  obtain ⟨b0,b1,b2,b3,b4,b5⟩:=of6C x9
  have hC:=compareDr u v p r X (hu.keep bX) (hv.keep bX) hs
  unfold Pv.val at hC ⊢
  have BX:=hide bX
  have DX:=hide (show w.drawn≤X.drawn by rw [← HX];exact Nat.le_refl _)
  have hz:=isCmp_D.eq p r
  clear bX x8 x9 hu hv hs
  by_cases hpr:p=r
  · rw [hz.2 hpr] at hC
    rw [decide_eq_true hpr]
    clear hz hpr
    go_enter Tryz.func128,Tryz.ntmps128
    go_wp2_with (go_at_call 20;refine hC.mono ?_;rintro e w1 ⟨rfl,b1,d1⟩;have B1:=hide b1;have D1:=hide d1;clear b1 d1)
    go_ret
    exact ⟨rfl,grown_of_dr (below_sub (uh BX) (uh B1)) (Nat.le_trans (uh DX) (uh D1))⟩
  · obtain ⟨z,hzz⟩:∃ z,cmpD p r=z:=⟨_,rfl⟩
    rw [hzz] at hC hz
    have h0:(z == 0)=false:=by rw [beq_eq_false_iff_ne];exact fun e=>hpr (hz.1 e)
    rw [decide_eq_false hpr]
    clear hz hpr hzz
    go_enter Tryz.func128,Tryz.ntmps128
    go_wp2_with (go_at_call 20;refine hC.mono ?_;rintro e w1 ⟨rfl,b1,d1⟩;have B1:=hide b1;have D1:=hide d1;clear b1 d1)
    go_ret
    exact ⟨rfl,grown_of_dr (below_sub (uh BX) (uh B1)) (Nat.le_trans (uh DX) (uh D1))⟩
theorem sameZ {B g:Nat} {w W:World} (x y:Pz B w g) (h:w.grownBy W (some g)):Calls Tryz.prog 128 #[.agg #[.int .i64 (fstZ x).kind,.string (fstZ x).attr,.slice (fstZ x).qi (fstZ x).ni (fstZ x).ci,.slice (fstZ x).qw (fstZ x).nw (fstZ x).cw,.int .i64 (fstZ x).lo,.int .i64 (fstZ x).hi],.agg #[.int .i64 (fstZ y).kind,.string (fstZ y).attr,.slice (fstZ y).qi (fstZ y).ni (fstZ y).ci,.slice (fstZ y).qw (fstZ y).nw (fstZ y).cw,.int .i64 (fstZ y).lo,.int .i64 (fstZ y).hi]] W fun e w'=>e=.returned (.bool (decide (sndZ x=sndZ y)))∧∃ q os',w'=grow (W.drewN q) os' :=
  sameDr (fstZ x) (fstZ y) (sndZ x) (sndZ y) W (x.in h) (y.in h) x.2.1
set_option maxHeartbeats 4000000 in
set_option maxRecDepth 100000 in
theorem compactZ {w:World} (B g cap:Nat) (l:List (Pz B w g)) (h:OwnK encZ 26 6 B w (some ⟨g,0,none⟩) cap l) (hB:B≤w.heap.size) (hl:l.length≤100000000000000) :
    Calls Tryz.prog 127 #[.slice (some ⟨g,0,none⟩) l.length cap,.func (.func 128) #[] #[]] w fun e w'=>e=.returned (.slice (some ⟨g,0,none⟩) (cptZ l).length cap)∧OwnK encZ 26 6 B w' (some ⟨g,0,none⟩) cap (cptZ l)∧Below B w w'∧w.grownBy w' (some g):=by
  have mixed:Tryz.prog.follows .mixedOrders=true:=by kernel_rfl
  have e128:∀ args w,(callFunc 128 args).run Tryz.prog w=.ok (.enter 128 args) w:=enters_of Tryz.func128 (by kernel_rfl) rfl
  by_cases h2:l.length < 2
  · have i2:(l.length:Int) < 2:=by omega
    rw [cptZ_short h2]
    have H:=hide h
    clear h h2
    go_enter Tryz.func127,Tryz.ntmps127
    go_wp2
    go_ret
    exact ⟨rfl,uh H,Below.refl _ _,grown_belowC (Below.refl _ _) _⟩
  · have i2:¬ (l.length:Int) < 2:=by omega
    have i3:(l.length:Int)≤100000000000000:=by omega
    obtain ⟨hBg,hgw0,hlc,hcm⟩:=geZ h
    have H:=hide h
    clear h
    go_enter Tryz.func127,Tryz.ntmps127
    go_wp2
    go_loopw [5] (fun i wr=>∃ m:Nat,m + 1≤l.length∧i=.int .i64 ((m:Int) + 1)∧cptZ (l.take (m + 1))=l.take (m + 1)∧Below w.heap.size w wr) (fun i _=>l.length - (intOf i).toNat)
    case atStart=>exact ⟨0,by omega,rfl,cptZ_short (by rw [List.length_take];omega),Below.refl _ _⟩
    case round =>
      obtain ⟨m,hm,rfl,hpre,hbel⟩:=hrel
      have HB:=hide hbel
      have HP:=hide hpre
      by_cases hlt:m + 1 < l.length
      · obtain ⟨y,hy,_⟩:=get_at (l:=l) (k:=m) (by omega)
        obtain ⟨x,hx,_⟩:=get_at (l:=l) (k:=m + 1) hlt
        have HO:=hide ((uh H).below hbel)
        have hgw:=(geZ (uh HO)).2.1
        obtain ⟨a0,a1,a2,a3,a4,a5⟩:=atZ (uh HO) hy
        obtain ⟨b0,b1,b2,b3,b4,b5⟩:=atZ (uh HO) hx
        have ga0:=grown_all (a:=⟨g,m * 6,none⟩) hgw a0
        have ga1:=grown_all (a:=⟨g,m * 6 + 1,none⟩) hgw a1
        have ga2:=grown_all (a:=⟨g,m * 6 + 2,none⟩) hgw a2
        have ga3:=grown_all (a:=⟨g,m * 6 + 3,none⟩) hgw a3
        have ga4:=grown_all (a:=⟨g,m * 6 + 4,none⟩) hgw a4
        have ga5:=grown_all (a:=⟨g,m * 6 + 5,none⟩) hgw a5
        have gb0:=grown_all (a:=⟨g,(m + 1) * 6,none⟩) hgw b0
        have gb1:=grown_all (a:=⟨g,(m + 1) * 6 + 1,none⟩) hgw b1
        have gb2:=grown_all (a:=⟨g,(m + 1) * 6 + 2,none⟩) hgw b2
        have gb3:=grown_all (a:=⟨g,(m + 1) * 6 + 3,none⟩) hgw b3
        have gb4:=grown_all (a:=⟨g,(m + 1) * 6 + 4,none⟩) hgw b4
        have gb5:=grown_all (a:=⟨g,(m + 1) * 6 + 5,none⟩) hgw b5
        have ki0:(0:Int)≤(m:Int):=by omega
        have ki1:(m:Int) < (l.length:Int):=by omega
        have kj0:(0:Int)≤(m:Int) + 1:=by omega
        have kj1:(m:Int) + 1 < (l.length:Int):=by omega
        have kt:((m:Int) + 1).toNat=m + 1:=by omega
        have ks:=wrap_nat m (by omega)
        have heq:=fun n os=>sameZ x y (grown_twoC (grown_belowC hbel (some g)) (grown_anyC wr n os (some g)))
        have HX:=hide hx
        have HY:=hide hy
        by_cases hxy:sndZ x=sndZ y
        · rw [show decide (sndZ x=sndZ y)=true from decide_eq_true hxy] at heq
          have HXY:=hide hxy
          clear hx hy hbel hpre hxy a0 a1 a2 a3 a4 a5 b0 b1 b2 b3 b4 b5
          go_wp2
          go_quiet_grown (first | (go_at_fn 128;refine Calls.grown_of (heq _ _)))
          have bW:=below_grown_any (Below.refl wr.heap.size wr) (Nat.le_refl _) nq osq
          generalize grow (wr.drewN nq) osq=W at bW ⊢
          have HO2:=hide ((uh HO).below bW)
          have HB2:=hide ((below_sub (uh HB) bW).mono hB)
          have HG2:=hide (grown_belowC (below_sub (uh HB) bW) (some g))
          obtain ⟨n2,hn2⟩:∃ n2,l.length - (m + 1)=n2:=⟨_,rfl⟩
          obtain ⟨c2,hc2⟩:∃ c2,cap - (m + 1)=c2:=⟨_,rfl⟩
          have nc1:¬ cap=m + 1:=by omega
          have nc2:(m:Int) + 1≤(l.length:Int):=by omega
          have nc3:(l.length:Int)≤(cap:Int):=by omega
          clear bW ga0 ga1 ga2 ga3 ga4 ga5 gb0 gb1 gb2 gb3 gb4 gb5 heq
          go_wp2
          have hln:l.length=m + 1 + n2:=by omega
          have n20:(n2:Int)≤100000000000000:=by omega
          have HS:=hide (show cptZ (l.take (m + 1 + 0 + 1))=l.take (m + 1) by rw [Nat.add_zero,cptZ_same (uh HY) (uh HX) (uh HXY),uh HP])
          have HLN:=hide hln
          clear hn2 hc2 hln
          go_loopw [5,7] (fun a b wi=>∃ (j k:Nat) (d:List (Pz B w g)),j + 1≤n2∧a=.int .i64 (k:Int)∧b=.int .i64 ((j:Int) + 1)∧d.length=l.length∧k≤m + 1 + j∧(cptZ (l.take (m + 1 + j + 1))).length=k∧d.take k=cptZ (l.take (m + 1 + j + 1))∧(∀ i,m + 1 + j≤i→d[i]? = l[i]?)∧OwnK encZ 26 6 B wi (some ⟨g,0,none⟩) cap d∧Below B w wi∧w.grownBy wi (some g)) (fun _ b _=>n2 - (intOf b).toNat)
          case atStart=>exact ⟨0,m + 1,l,(by have:=uh HLN;omega),rfl,rfl,rfl,by omega,(by rw [uh HS,List.length_take];omega),(uh HS).symm,fun _ _=>rfl,uh HO2,uh HB2,uh HG2⟩
          case round =>
            obtain ⟨j,k,d,hj,rfl,rfl,hdl,hkm,hkl,hdk,hdi,hO,hbB,hgB⟩:=hrel
            have HG3:=hide hgB
            have HD:=hide hdl
            have HK:=hide hkl
            have HDK:=hide hdk
            have HDI:=hide hdi
            have HO3:=hide hO
            have HB3:=hide hbB
            have hgw2:=(geZ hO).2.1
            have hkl':k < l.length:=by have:=uh HLN;omega
            have k0:(0:Int)≤(k:Int):=by omega
            have k1:(k:Int) < (l.length:Int):=by omega
            have k2:(k:Int)≤(l.length:Int):=by omega
            obtain ⟨z,hz,_⟩:=get_at (l:=d) (k:=k) (by omega)
            have HZ:=hide hz
            clear hdl hkl hdk hdi hbB hz
            by_cases hlt2:j + 1 < n2
            · obtain ⟨y',hy,_⟩:=get_at (l:=l) (k:=m + 1 + j) (by have:=uh HLN;omega)
              obtain ⟨x',hx,_⟩:=get_at (l:=l) (k:=m + 1 + j + 1) (by have:=uh HLN;omega)
              obtain ⟨a0,a1,a2,a3,a4,a5⟩:=atZ hO ((uh HDI _ (by omega)).trans hy)
              obtain ⟨b0,b1,b2,b3,b4,b5⟩:=atZ hO ((uh HDI _ (by omega)).trans hx)
              rw [show (m + 1 + j) * 6=(m + 1) * 6 + j * 6 by omega] at a0 a1 a2 a3 a4 a5
              rw [show (m + 1 + j + 1) * 6=(m + 1) * 6 + (j + 1) * 6 by omega] at b0 b1 b2 b3 b4 b5
              have ga0:=grown_all (a:=⟨g,(m + 1) * 6 + j * 6,none⟩) hgw2 a0
              have ga1:=grown_all (a:=⟨g,(m + 1) * 6 + j * 6 + 1,none⟩) hgw2 a1
              have ga2:=grown_all (a:=⟨g,(m + 1) * 6 + j * 6 + 2,none⟩) hgw2 a2
              have ga3:=grown_all (a:=⟨g,(m + 1) * 6 + j * 6 + 3,none⟩) hgw2 a3
              have ga4:=grown_all (a:=⟨g,(m + 1) * 6 + j * 6 + 4,none⟩) hgw2 a4
              have ga5:=grown_all (a:=⟨g,(m + 1) * 6 + j * 6 + 5,none⟩) hgw2 a5
              have gb0:=grown_all (a:=⟨g,(m + 1) * 6 + (j + 1) * 6,none⟩) hgw2 b0
              have gb1:=grown_all (a:=⟨g,(m + 1) * 6 + (j + 1) * 6 + 1,none⟩) hgw2 b1
              have gb2:=grown_all (a:=⟨g,(m + 1) * 6 + (j + 1) * 6 + 2,none⟩) hgw2 b2
              have gb3:=grown_all (a:=⟨g,(m + 1) * 6 + (j + 1) * 6 + 3,none⟩) hgw2 b3
              have gb4:=grown_all (a:=⟨g,(m + 1) * 6 + (j + 1) * 6 + 4,none⟩) hgw2 b4
              have gb5:=grown_all (a:=⟨g,(m + 1) * 6 + (j + 1) * 6 + 5,none⟩) hgw2 b5
              have ji0:(0:Int)≤(j:Int):=by omega
              have ji1:(j:Int) < (n2:Int):=by omega
              have jj0:(0:Int)≤(j:Int) + 1:=by omega
              have jj1:(j:Int) + 1 < (n2:Int):=by omega
              have jt:((j:Int) + 1).toNat=j + 1:=by omega
              have js:=wrap_nat j (by omega)
              have hne:=fun n os=>sameZ x' y' (grown_twoC hgB (grown_anyC wr n os (some g)))
              by_cases hxy:sndZ x'=sndZ y'
              · rw [show decide (sndZ x'=sndZ y')=true from decide_eq_true hxy] at hne
                have HN:=hide (cptZ_same hy hx hxy)
                clear hx hy hO hgB hxy a0 a1 a2 a3 a4 a5 b0 b1 b2 b3 b4 b5
                go_wp2
                go_quiet_grown (first | (go_at_fn 128;refine Calls.grown_of (hne _ _)))
                have bW:=below_grown_any (Below.refl wr.heap.size wr) (Nat.le_refl _) nq osq
                generalize grow (wr.drewN nq) osq=W2 at bW ⊢
                have HO4:=hide ((uh HO3).below bW)
                have HB4:=hide ((uh HB3).trans (bW.mono (Nat.le_trans hBg (Nat.le_of_lt hgw2))))
                have HG4:=hide (grown_twoC (uh HG3) (grown_belowC bW (some g)))
                clear bW
                go_wp2
                go_roundw
                case rel=>exact ⟨j + 1,k,d,by omega,rfl,by go_num,uh HD,by omega,(by rw [show m + 1 + (j + 1) + 1=m + 1 + j + 1 + 1 by omega,uh HN];exact uh HK),(by rw [show m + 1 + (j + 1) + 1=m + 1 + j + 1 + 1 by omega,uh HN];exact uh HDK),fun i hi=>uh HDI i (by omega),uh HO4,uh HB4,uh HG4⟩
                case measure=>simp [intOf];omega
              · rw [show decide (sndZ x'=sndZ y')=false from decide_eq_false hxy] at hne
                have HN:=hide (cptZ_diff hy hx hxy)
                have k3:(k:Int)≤100000000000000:=by omega
                have HXX:=hide ((uh HDI _ (by omega)).trans hx)
                clear hx hy hO hgB a0 a1 a2 a3 a4 a5 b0 b1 b2 b3 b4 b5
                go_wp2
                go_quiet_grown (first | (go_at_fn 128;refine Calls.grown_of (hne _ _)))
                have bW:=below_grown_any (Below.refl wr.heap.size wr) (Nat.le_refl _) nq osq
                generalize grow (wr.drewN nq) osq=W2 at bW ⊢
                have HO4:=hide ((uh HO3).below bW)
                have HB4:=hide ((uh HB3).trans (bW.mono (Nat.le_trans hBg (Nat.le_of_lt hgw2))))
                have HG4:=hide (grown_twoC (uh HG3) (grown_belowC bW (some g)))
                clear bW ga0 ga1 ga2 ga3 ga4 ga5 gb0 gb1 gb2 gb3 gb4 gb5 hne
                have f0:=fun o=>freeZ (uh HO4) o
                obtain ⟨z0,z1,z2,z3,z4,z5⟩:=atZ (uh HO4) (uh HZ)
                obtain ⟨b0,b1,b2,b3,b4,b5⟩:=atZ (uh HO4) (uh HXX)
                rw [show (m + 1 + j + 1) * 6=(m + 1) * 6 + (j + 1) * 6 by omega] at b0 b1 b2 b3 b4 b5
                go_wp2
                go_roundw
                case rel=>exact ⟨j + 1,k + 1,d.set k x',by omega,by go_num,by go_num,by rw [List.length_set];exact uh HD,by omega,(by rw [show m + 1 + (j + 1) + 1=m + 1 + j + 1 + 1 by omega,uh HN,List.length_append,uh HK];rfl),(by rw [show m + 1 + (j + 1) + 1=m + 1 + j + 1 + 1 by omega,uh HN,← uh HDK,take_snoc_of (x:=x') (by rw [List.getElem?_set_self (by have:=uh HD;omega)]),List.take_set_of_le (Nat.le_refl k)]),fun i hi=>(by rw [List.getElem?_set_ne (by omega)];exact uh HDI i (by omega)),putZ (uh HO4) (by have:=uh HD;omega) x',(((((((uh HB4).setCell (p:=⟨g,k * 6,none⟩) hBg _).setCell (p:=⟨g,k * 6 + 1,none⟩) hBg _).setCell (p:=⟨g,k * 6 + 2,none⟩) hBg _).setCell (p:=⟨g,k * 6 + 3,none⟩) hBg _).setCell (p:=⟨g,k * 6 + 4,none⟩) hBg _).setCell (p:=⟨g,k * 6 + 5,none⟩) hBg _),(grown_setC (grown_setC (grown_setC (grown_setC (grown_setC (grown_setC (uh HG4) (k * 6) _) (k * 6 + 1) _) (k * 6 + 2) _) (k * 6 + 3) _) (k * 6 + 4) _) (k * 6 + 5) _)⟩
                case measure=>simp [intOf];omega
            · have jj1:¬ (j:Int) + 1 < (n2:Int):=by omega
              have e1:l.take (m + 1 + j + 1)=l:=List.take_of_length_le (by have:=uh HLN;omega)
              have HE:=hide e1
              obtain ⟨n3,hn3⟩:∃ n3,l.length - k=n3:=⟨_,rfl⟩
              obtain ⟨c3,hc3⟩:∃ c3,cap - k=c3:=⟨_,rfl⟩
              have nc4:¬ cap=k:=by omega
              have hcl:=fun ty=>clearD wr ty g (k * 6) n3 c3 (by omega) (fun t ht=>by
                have hi:(k * 6 + t) / 6 < d.length:=(by have:=uh HD;omega)
                obtain ⟨u,hu,_⟩:=get_at hi
                obtain ⟨u0,u1,u2,u3,u4,u5⟩:=atZ hO hu
                have hm2:k * 6 + t=(k * 6 + t) / 6 * 6 ∨ k * 6 + t=(k * 6 + t) / 6 * 6 + 1 ∨ k * 6 + t=(k * 6 + t) / 6 * 6 + 2 ∨ k * 6 + t=(k * 6 + t) / 6 * 6 + 3 ∨ k * 6 + t=(k * 6 + t) / 6 * 6 + 4 ∨ k * 6 + t=(k * 6 + t) / 6 * 6 + 5:=(by omega)
                rcases hm2 with e | e | e | e | e | e
                · rw [e,u0];rfl
                · rw [e,u1];rfl
                · rw [e,u2];rfl
                · rw [e,u3];rfl
                · rw [e,u4];rfl
                · rw [e,u5];rfl) (fun t _=>freeZ hO _)
              generalize hvs:(Builtin.zeroCells #[.int .i64 0,.string ⟨#[]⟩,.slice none 0 0,.slice none 0 0,.int .i64 0,.int .i64 0] n3).toList=vs at hcl
              clear e1 hO hvs hgB
              go_wp2
              go_ret
              have hke:(cptZ l).length=k:=by have:=uh HK;rw [uh HE] at this;exact this
              have hde:d.take k=cptZ l:=by have:=uh HDK;rw [uh HE] at this;exact this
              refine ⟨by rw [hke];rfl, ?_,(uh HB3).trans (below_cells hBg _ _ _),grown_cellsC (uh HG3) _ _⟩
              have:=cutZ (uh HO3) (k:=k) (by have:=uh HD;omega) vs
              rw [hde] at this
              exact this
        · rw [show decide (sndZ x=sndZ y)=false from decide_eq_false hxy] at heq
          have HN:=hide (cptZ_diff hy hx hxy)
          clear hx hy hbel hpre hxy a0 a1 a2 a3 a4 a5 b0 b1 b2 b3 b4 b5
          go_wp2
          go_quiet_grown (first | (go_at_fn 128;refine Calls.grown_of (heq _ _)))
          have bW:=below_grown_any (uh HB) (uh HB).size nq osq
          generalize grow (wr.drewN nq) osq=W at bW ⊢
          have HB2:=hide bW
          clear bW
          go_wp2
          go_roundw
          case rel=>exact ⟨m + 1,by omega,by go_num,by rw [uh HN,uh HP,← take_snoc_of (uh HX)],uh HB2⟩
          case measure=>simp [intOf];omega
      · have ki1:¬ (m:Int) + 1 < (l.length:Int):=by omega
        have e1:l.take (m + 1)=l:=List.take_of_length_le (by omega)
        rw [e1] at hpre
        have HQ:=hide hpre
        clear hpre e1
        go_wp2
        go_ret
        rw [uh HQ]
        exact ⟨rfl,(uh H).below (uh HB),(uh HB).mono hB,grown_belowC (uh HB) _⟩
def stepD (acc:List Pd) (x:Pd):List Pd:=if acc.getLast? = some x then acc else acc ++ [x]
/-- Of equal ones that stand side by side the first. -/
def cptD (l:List Pd):List Pd:=l.foldl stepD []
theorem cptD_short {l:List Pd} (h:l.length < 2):cptD l=l:=by
  match l,h with
  | [],_=>rfl
  | [x],_=>rfl
theorem stepD_map {A:Nat} {v:World} {g0:Nat} (acc:List (Pz A v g0)) (x:Pz A v g0):(stepZ acc x).map sndZ=stepD (acc.map sndZ) (sndZ x):=by
  unfold stepZ stepD
  rw [List.getLast?_map]
  split
  · rfl
  · simp
theorem cptD_map {A:Nat} {v:World} {g0:Nat} (l:List (Pz A v g0)):(cptZ l).map sndZ=cptD (l.map sndZ):=by
  unfold cptZ cptD
  have:∀ (l acc:List (Pz A v g0)),(l.foldl stepZ acc).map sndZ=(l.map sndZ).foldl stepD (acc.map sndZ):=by
    intro l
    induction l with
    | nil=>intro acc;rfl
    | cons x r ih=>intro acc;simp only [List.foldl_cons,List.map_cons];rw [ih,stepD_map]
  exact this l []
theorem compactD_short (B n c:Nat) (q:Option Addr) (ls:List Pd) (w:World) (h:GrowD B w q c n ls) (hn:n < 2) :
    Calls Tryz.prog 127 #[.slice q n c,.func (.func 128) #[] #[]] w fun e w'=>e=.returned (.slice q (cptD ls).length c)∧GrowD B w' q c (cptD ls).length (cptD ls)∧Below B w w':=by
  rw [cptD_short (by rw [h.1];exact hn),h.1]
  have i2:(n:Int) < 2:=by omega
  have H:=hide h
  clear h hn
  go_enter Tryz.func127,Tryz.ntmps127
  go_wp2
  go_ret
  exact ⟨rfl,uh H,Below.refl _ _⟩
/-- slices.CompactFunc of a list of predicates, by conj.same. -/
theorem compactD (B n c:Nat) (q:Option Addr) (ls:List Pd) (w:World) (h:GrowD B w q c n ls) (hs:Small ls) (hB:B≤w.heap.size) (hn:n≤100000000) :
    Calls Tryz.prog 127 #[.slice q n c,.func (.func 128) #[] #[]] w fun e w'=>e=.returned (.slice q (cptD ls).length c)∧GrowD B w' q c (cptD ls).length (cptD ls)∧Below B w w':=by
  by_cases h0:n < 2
  · exact compactD_short B n c q ls w h h0
  obtain ⟨h1,us,h2,h3,h4⟩:=h
  obtain ⟨g,rfl⟩:∃ g,q=some ⟨g,0,none⟩:=by
    rcases h3.2 with ⟨_,e0⟩ | ⟨g,cap,cur,hv,_⟩
    · omega
    · injection hv with k1
      exact ⟨g,k1⟩
  obtain ⟨zs,hz1,hz2⟩:=zs_of (g:=g) h1 h2 hs h4
  have hZ:OwnK encZ 26 6 B w (some ⟨g,0,none⟩) c zs:=(own_map hz1).1 h3
  have hlen:zs.length=n:=by rw [← h2,← hz1,List.length_map]
  have hcon:=compactZ B g c zs hZ hB (by omega)
  rw [hlen] at hcon
  have he:(cptZ zs).length=(cptD ls).length:=by rw [← hz2,← cptD_map,List.length_map]
  refine hcon.mono fun e w' ⟨h5,h6,h7,h8⟩=>⟨by rw [h5,he],⟨rfl,(cptZ zs).map fstZ,by rw [List.length_map,he],(own_map rfl).2 h6, ?_⟩,h7⟩
  intro x hx hc j u l hu hl
  rw [← hz2,← cptD_map] at hl
  rw [List.getElem?_map] at hu hl
  obtain ⟨z,hz,rfl⟩:=Option.map_eq_some_iff.1 hu
  rw [hz] at hl
  cases hl
  exact (OffP.step z.2.2 h8 (Or.inl rfl)) x hx hc
end Go.Proofs.YtimklglliffpcaaGreat

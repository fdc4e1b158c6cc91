/- slices.CompactFunc over predicates, with conj.same: of equal ones that stand side by side the first stays. -/
import Derived.Test.YtimklglliffpcaaGreatQCjCpt
import Derived.Test.YtimklglliffpcaaGreatQZac
namespace Go.Proofs.YtimklglliffpcaaGreat
open Go.RowKit Go.Sort Go.Shelf
theorem mi {B:Nat} {w wr:World} (h:Below B w wr) (hB:B<=wr.heap.size) (n:Nat) (os:Array Obj):Below B w (grow (wr.drewN n) os) :=
 ⟨h.os,h.tape,h.output,Nat.le_trans h.size (by simp [grow]),fun k hk=>by
  rw [<- h.block k hk]
  show (wr.heap ++ os)[k]? = _
  rw [Array.getElem?_append_left (by omega)]⟩
theorem jw {w:World} {a:Addr} {v:Value} (hb:a.block < w.heap.size) (h:w.cell? a=some v):∀ n os,(grow (w.drewN n) os).cell? a=some v:=cell_grown hb h
theorem Bc (wr:World) (n:Nat) (os:Array Obj) (r:Option Nat):wr.grownBy (grow (wr.drewN n) os) r:=ji (mi (Below.refl wr.heap.size wr) (Nat.le_refl _) n os) r
/-- conj.same, with its draws counted. -/
theorem zba (u v:Pv) (p r:Pd) (w:World) (hu:PdIn w u p) (hv:PdIn w v r) (hs:p.small):Calls Tryz.prog 128 #[u.val,v.val] w fun e w'=>e=.returned (.bool (decide (p=r)))/\∃ q os',w'=grow (w.drewN q) os':=by
  obtain ⟨X,HX,bX,sX,x8,x9⟩:=pa w u v
  obtain ⟨a0,a1,a2,a3,a4,a5⟩:=kq x8
  obtain ⟨b0,b1,b2,b3,b4,b5⟩:=kq x9
  have hC:=Eu u v p r X (hu.keep bX) (hv.keep bX) hs
  unfold Pv.val at hC ⊢
  have BX:=d9 bX
  have DX:=d9 (show w.drawn<=X.drawn by rw [<- HX];exact Nat.le_refl _)
  have hz:=isCmp_D.eq p r
  clear bX x8 x9 hu hv hs
  by_cases hpr:p=r
  · rw [hz.2 hpr] at hC
    rw [decide_eq_true hpr]
    clear hz hpr
    go_enter Tryz.func128,Tryz.ntmps128
    go_wp2_with (go_at_call 20;refine hC.mono ?_;rintro e w1 ⟨rfl,b1,d1⟩;have B1:=d9 b1;have D1:=d9 d1;clear b1 d1)
    go_ret
    exact ⟨rfl,vd (d8 (uh BX) (uh B1)) (Nat.le_trans (uh DX) (uh D1))⟩
  · obtain ⟨z,hzz⟩:∃ z,pe p r=z:=⟨_,rfl⟩
    rw [hzz] at hC hz
    have h0:(z == 0)=false:=by rw [beq_eq_false_iff_ne];exact fun e=>hpr (hz.1 e)
    rw [decide_eq_false hpr]
    clear hz hpr hzz
    go_enter Tryz.func128,Tryz.ntmps128
    go_wp2_with (go_at_call 20;refine hC.mono ?_;rintro e w1 ⟨rfl,b1,d1⟩;have B1:=d9 b1;have D1:=d9 d1;clear b1 d1)
    go_ret
    exact ⟨rfl,vd (d8 (uh BX) (uh B1)) (Nat.le_trans (uh DX) (uh D1))⟩
theorem zae {B g:Nat} {w W:World} (x y:Pz B w g) (h:w.grownBy W (some g)):Calls Tryz.prog 128 #[.agg #[.int .i64 (k7 x).kind,.string (k7 x).attr,.slice (k7 x).qi (k7 x).ni (k7 x).ci,.slice (k7 x).qw (k7 x).nw (k7 x).cw,.int .i64 (k7 x).lo,.int .i64 (k7 x).hi],.agg #[.int .i64 (k7 y).kind,.string (k7 y).attr,.slice (k7 y).qi (k7 y).ni (k7 y).ci,.slice (k7 y).qw (k7 y).nw (k7 y).cw,.int .i64 (k7 y).lo,.int .i64 (k7 y).hi]] W fun e w'=>e=.returned (.bool (decide (me x=me y)))/\∃ q os',w'=grow (W.drewN q) os' :=
 zba (k7 x) (k7 y) (me x) (me y) W (x.in h) (y.in h) x.2.1
set_option maxHeartbeats 4000000 in
set_option maxRecDepth 100000 in
theorem Q4 {w:World} (B g cap:Nat) (l:List (Pz B w g)) (h:OwnK yj 26 6 B w (some ⟨g,0,none⟩) cap l) (hB:B<=w.heap.size) (hl:l.length<=100000000000000) :
  Calls Tryz.prog 127 #[.slice (some ⟨g,0,none⟩) l.length cap,.func (.func 128) #[] #[]] w fun e w'=>e=.returned (.slice (some ⟨g,0,none⟩) (Av l).length cap)/\OwnK yj 26 6 B w' (some ⟨g,0,none⟩) cap (Av l)/\Below B w w'/\w.grownBy w' (some g):=by
 have mixed:Tryz.prog.follows .mixedOrders=true:=by kernel_rfl
 have e128:∀ args w,(callFunc 128 args).run Tryz.prog w=.ok (.enter 128 args) w:=enters_of Tryz.func128 (by kernel_rfl) rfl
 by_cases h2:l.length < 2
 ·have i2:(l.length:Int) < 2:=by omega
  rw [Bi h2]
  have H:=d9 h
  clear h h2
  go_enter Tryz.func127,Tryz.ntmps127
  go_wp2
  go_ret
  exact ⟨rfl,uh H,Below.refl _ _,ji (Below.refl _ _) _⟩
 ·have i2:¬ (l.length:Int) < 2:=by omega
  have i3:(l.length:Int)<=100000000000000:=by omega
  obtain ⟨hBg,hgw0,hlc,hcm⟩:=geZ h
  have H:=d9 h
  clear h
  go_enter Tryz.func127,Tryz.ntmps127
  go_wp2
  go_loopw [5] (fun i wr=>∃ m:Nat,m + 1<=l.length/\i=.int .i64 ((m:Int) + 1)/\Av (l.take (m + 1))=l.take (m + 1)/\Below w.heap.size w wr) (fun i _=>l.length - (intOf i).toNat)
  case atStart=>exact ⟨0,by omega,rfl,Bi (by rw [List.length_take];omega),Below.refl _ _⟩
  case round =>
   obtain ⟨m,hm,rfl,hpre,hbel⟩:=hrel
   have HB:=d9 hbel
   have HP:=d9 hpre
   by_cases hlt:m + 1 < l.length
   ·obtain ⟨y,hy,_⟩:=je (l:=l) (k:=m) (by omega)
    obtain ⟨x,hx,_⟩:=je (l:=l) (k:=m + 1) hlt
    have HO:=d9 ((uh H).below hbel)
    have hgw:=(geZ (uh HO)).2.1
    obtain ⟨a0,a1,a2,a3,a4,a5⟩:=atZ (uh HO) hy
    obtain ⟨b0,b1,b2,b3,b4,b5⟩:=atZ (uh HO) hx
    have ga0:=jw (a:=⟨g,m * 6,none⟩) hgw a0
    have ga1:=jw (a:=⟨g,m * 6 + 1,none⟩) hgw a1
    have ga2:=jw (a:=⟨g,m * 6 + 2,none⟩) hgw a2
    have ga3:=jw (a:=⟨g,m * 6 + 3,none⟩) hgw a3
    have ga4:=jw (a:=⟨g,m * 6 + 4,none⟩) hgw a4
    have ga5:=jw (a:=⟨g,m * 6 + 5,none⟩) hgw a5
    have gb0:=jw (a:=⟨g,(m + 1) * 6,none⟩) hgw b0
    have gb1:=jw (a:=⟨g,(m + 1) * 6 + 1,none⟩) hgw b1
    have gb2:=jw (a:=⟨g,(m + 1) * 6 + 2,none⟩) hgw b2
    have gb3:=jw (a:=⟨g,(m + 1) * 6 + 3,none⟩) hgw b3
    have gb4:=jw (a:=⟨g,(m + 1) * 6 + 4,none⟩) hgw b4
    have gb5:=jw (a:=⟨g,(m + 1) * 6 + 5,none⟩) hgw b5
    have ki0:(0:Int)<=(m:Int):=by omega
    have ki1:(m:Int) < (l.length:Int):=by omega
    have kj0:(0:Int)<=(m:Int) + 1:=by omega
    have kj1:(m:Int) + 1 < (l.length:Int):=by omega
    have kt:((m:Int) + 1).toNat=m + 1:=by omega
    have ks:=yx m (by omega)
    have heq:=fun n os=>zae x y (j7 (ji hbel (some g)) (Bc wr n os (some g)))
    have HX:=d9 hx
    have HY:=d9 hy
    by_cases hxy:me x=me y
    ·rw [show decide (me x=me y)=true from decide_eq_true hxy] at heq
     have HXY:=d9 hxy
     clear hx hy hbel hpre hxy a0 a1 a2 a3 a4 a5 b0 b1 b2 b3 b4 b5
     go_wp2
     go_quiet_grown (first | (go_at_fn 128;refine Calls.grown_of (heq _ _)))
     have bW:=mi (Below.refl wr.heap.size wr) (Nat.le_refl _) nq osq
     generalize grow (wr.drewN nq) osq=W at bW ⊢
     have HO2:=d9 ((uh HO).below bW)
     have HB2:=d9 ((d8 (uh HB) bW).mono hB)
     have HG2:=d9 (ji (d8 (uh HB) bW) (some g))
     obtain ⟨n2,hn2⟩:∃ n2,l.length - (m + 1)=n2:=⟨_,rfl⟩
     obtain ⟨c2,hc2⟩:∃ c2,cap - (m + 1)=c2:=⟨_,rfl⟩
     have nc1:¬ cap=m + 1:=by omega
     have nc2:(m:Int) + 1<=(l.length:Int):=by omega
     have nc3:(l.length:Int)<=(cap:Int):=by omega
     clear bW ga0 ga1 ga2 ga3 ga4 ga5 gb0 gb1 gb2 gb3 gb4 gb5 heq
     go_wp2
     have hln:l.length=m + 1 + n2:=by omega
     have n20:(n2:Int)<=100000000000000:=by omega
     have HS:=d9 (show Av (l.take (m + 1 + 0 + 1))=l.take (m + 1) by rw [Nat.add_zero,D2 (uh HY) (uh HX) (uh HXY),uh HP])
     have HLN:=d9 hln
     clear hn2 hc2 hln
     go_loopw [5,7] (fun a b wi=>∃ (j k:Nat) (d:List (Pz B w g)),j + 1<=n2/\a=.int .i64 (k:Int)/\b=.int .i64 ((j:Int) + 1)/\d.length=l.length/\k<=m + 1 + j/\(Av (l.take (m + 1 + j + 1))).length=k/\d.take k=Av (l.take (m + 1 + j + 1))/\(∀ i,m + 1 + j<=i->d[i]? = l[i]?)/\OwnK yj 26 6 B wi (some ⟨g,0,none⟩) cap d/\Below B w wi/\w.grownBy wi (some g)) (fun _ b _=>n2 - (intOf b).toNat)
     case atStart=>exact ⟨0,m + 1,l,(by have:=uh HLN;omega),rfl,rfl,rfl,by omega,(by rw [uh HS,List.length_take];omega),(uh HS).symm,fun _ _=>rfl,uh HO2,uh HB2,uh HG2⟩
     case round =>
      obtain ⟨j,k,d,hj,rfl,rfl,hdl,hkm,hkl,hdk,hdi,hO,hbB,hgB⟩:=hrel
      have HG3:=d9 hgB
      have HD:=d9 hdl
      have HK:=d9 hkl
      have HDK:=d9 hdk
      have HDI:=d9 hdi
      have HO3:=d9 hO
      have HB3:=d9 hbB
      have hgw2:=(geZ hO).2.1
      have hkl':k < l.length:=by have:=uh HLN;omega
      have k0:(0:Int)<=(k:Int):=by omega
      have k1:(k:Int) < (l.length:Int):=by omega
      have k2:(k:Int)<=(l.length:Int):=by omega
      obtain ⟨z,hz,_⟩:=je (l:=d) (k:=k) (by omega)
      have HZ:=d9 hz
      clear hdl hkl hdk hdi hbB hz
      by_cases hlt2:j + 1 < n2
      ·obtain ⟨y',hy,_⟩:=je (l:=l) (k:=m + 1 + j) (by have:=uh HLN;omega)
       obtain ⟨x',hx,_⟩:=je (l:=l) (k:=m + 1 + j + 1) (by have:=uh HLN;omega)
       obtain ⟨a0,a1,a2,a3,a4,a5⟩:=atZ hO ((uh HDI _ (by omega)).trans hy)
       obtain ⟨b0,b1,b2,b3,b4,b5⟩:=atZ hO ((uh HDI _ (by omega)).trans hx)
       rw [show (m + 1 + j) * 6=(m + 1) * 6 + j * 6 by omega] at a0 a1 a2 a3 a4 a5
       rw [show (m + 1 + j + 1) * 6=(m + 1) * 6 + (j + 1) * 6 by omega] at b0 b1 b2 b3 b4 b5
       have ga0:=jw (a:=⟨g,(m + 1) * 6 + j * 6,none⟩) hgw2 a0
       have ga1:=jw (a:=⟨g,(m + 1) * 6 + j * 6 + 1,none⟩) hgw2 a1
       have ga2:=jw (a:=⟨g,(m + 1) * 6 + j * 6 + 2,none⟩) hgw2 a2
       have ga3:=jw (a:=⟨g,(m + 1) * 6 + j * 6 + 3,none⟩) hgw2 a3
       have ga4:=jw (a:=⟨g,(m + 1) * 6 + j * 6 + 4,none⟩) hgw2 a4
       have ga5:=jw (a:=⟨g,(m + 1) * 6 + j * 6 + 5,none⟩) hgw2 a5
       have gb0:=jw (a:=⟨g,(m + 1) * 6 + (j + 1) * 6,none⟩) hgw2 b0
       have gb1:=jw (a:=⟨g,(m + 1) * 6 + (j + 1) * 6 + 1,none⟩) hgw2 b1
       have gb2:=jw (a:=⟨g,(m + 1) * 6 + (j + 1) * 6 + 2,none⟩) hgw2 b2
       have gb3:=jw (a:=⟨g,(m + 1) * 6 + (j + 1) * 6 + 3,none⟩) hgw2 b3
       have gb4:=jw (a:=⟨g,(m + 1) * 6 + (j + 1) * 6 + 4,none⟩) hgw2 b4
       have gb5:=jw (a:=⟨g,(m + 1) * 6 + (j + 1) * 6 + 5,none⟩) hgw2 b5
       have ji0:(0:Int)<=(j:Int):=by omega
       have ji1:(j:Int) < (n2:Int):=by omega
       have jj0:(0:Int)<=(j:Int) + 1:=by omega
       have jj1:(j:Int) + 1 < (n2:Int):=by omega
       have jt:((j:Int) + 1).toNat=j + 1:=by omega
       have js:=yx j (by omega)
       have hne:=fun n os=>zae x' y' (j7 hgB (Bc wr n os (some g)))
       by_cases hxy:me x'=me y'
       ·rw [show decide (me x'=me y')=true from decide_eq_true hxy] at hne
        have HN:=d9 (D2 hy hx hxy)
        clear hx hy hO hgB hxy a0 a1 a2 a3 a4 a5 b0 b1 b2 b3 b4 b5
        go_wp2
        go_quiet_grown (first | (go_at_fn 128;refine Calls.grown_of (hne _ _)))
        have bW:=mi (Below.refl wr.heap.size wr) (Nat.le_refl _) nq osq
        generalize grow (wr.drewN nq) osq=W2 at bW ⊢
        have HO4:=d9 ((uh HO3).below bW)
        have HB4:=d9 ((uh HB3).trans (bW.mono (Nat.le_trans hBg (Nat.le_of_lt hgw2))))
        have HG4:=d9 (j7 (uh HG3) (ji bW (some g)))
        clear bW
        go_wp2
        go_roundw
        case rel=>exact ⟨j + 1,k,d,by omega,rfl,by go_num,uh HD,by omega,(by rw [show m + 1 + (j + 1) + 1=m + 1 + j + 1 + 1 by omega,uh HN];exact uh HK),(by rw [show m + 1 + (j + 1) + 1=m + 1 + j + 1 + 1 by omega,uh HN];exact uh HDK),fun i hi=>uh HDI i (by omega),uh HO4,uh HB4,uh HG4⟩
        case measure=>simp [intOf];omega
       ·rw [show decide (me x'=me y')=false from decide_eq_false hxy] at hne
        have HN:=d9 (Es hy hx hxy)
        have k3:(k:Int)<=100000000000000:=by omega
        have HXX:=d9 ((uh HDI _ (by omega)).trans hx)
        clear hx hy hO hgB a0 a1 a2 a3 a4 a5 b0 b1 b2 b3 b4 b5
        go_wp2
        go_quiet_grown (first | (go_at_fn 128;refine Calls.grown_of (hne _ _)))
        have bW:=mi (Below.refl wr.heap.size wr) (Nat.le_refl _) nq osq
        generalize grow (wr.drewN nq) osq=W2 at bW ⊢
        have HO4:=d9 ((uh HO3).below bW)
        have HB4:=d9 ((uh HB3).trans (bW.mono (Nat.le_trans hBg (Nat.le_of_lt hgw2))))
        have HG4:=d9 (j7 (uh HG3) (ji bW (some g)))
        clear bW ga0 ga1 ga2 ga3 ga4 ga5 gb0 gb1 gb2 gb3 gb4 gb5 hne
        have f0:=fun o=>zar (uh HO4) o
        obtain ⟨z0,z1,z2,z3,z4,z5⟩:=atZ (uh HO4) (uh HZ)
        obtain ⟨b0,b1,b2,b3,b4,b5⟩:=atZ (uh HO4) (uh HXX)
        rw [show (m + 1 + j + 1) * 6=(m + 1) * 6 + (j + 1) * 6 by omega] at b0 b1 b2 b3 b4 b5
        go_wp2
        go_roundw
        case rel=>exact ⟨j + 1,k + 1,d.set k x',by omega,by go_num,by go_num,by rw [List.length_set];exact uh HD,by omega,(by rw [show m + 1 + (j + 1) + 1=m + 1 + j + 1 + 1 by omega,uh HN,List.length_append,uh HK];rfl),(by rw [show m + 1 + (j + 1) + 1=m + 1 + j + 1 + 1 by omega,uh HN,<- uh HDK,jh (x:=x') (by rw [List.getElem?_set_self (by have:=uh HD;omega)]),List.take_set_of_le (Nat.le_refl k)]),fun i hi=>(by rw [List.getElem?_set_ne (by omega)];exact uh HDI i (by omega)),zd1 (uh HO4) (by have:=uh HD;omega) x',(((((((uh HB4).setCell (p:=⟨g,k * 6,none⟩) hBg _).setCell (p:=⟨g,k * 6 + 1,none⟩) hBg _).setCell (p:=⟨g,k * 6 + 2,none⟩) hBg _).setCell (p:=⟨g,k * 6 + 3,none⟩) hBg _).setCell (p:=⟨g,k * 6 + 4,none⟩) hBg _).setCell (p:=⟨g,k * 6 + 5,none⟩) hBg _),(lz (lz (lz (lz (lz (lz (uh HG4) (k * 6) _) (k * 6 + 1) _) (k * 6 + 2) _) (k * 6 + 3) _) (k * 6 + 4) _) (k * 6 + 5) _)⟩
        case measure=>simp [intOf];omega
      ·have jj1:¬ (j:Int) + 1 < (n2:Int):=by omega
       have e1:l.take (m + 1 + j + 1)=l:=List.take_of_length_le (by have:=uh HLN;omega)
       have HE:=d9 e1
       obtain ⟨n3,hn3⟩:∃ n3,l.length - k=n3:=⟨_,rfl⟩
       obtain ⟨c3,hc3⟩:∃ c3,cap - k=c3:=⟨_,rfl⟩
       have nc4:¬ cap=k:=by omega
       have hcl:=fun ty=>za8 wr ty g (k * 6) n3 c3 (by omega) (fun t ht=>by
        have hi:(k * 6 + t) / 6 < d.length:=(by have:=uh HD;omega)
        obtain ⟨u,hu,_⟩:=je hi
        obtain ⟨u0,u1,u2,u3,u4,u5⟩:=atZ hO hu
        have hm2:k * 6 + t=(k * 6 + t) / 6 * 6 ∨ k * 6 + t=(k * 6 + t) / 6 * 6 + 1 ∨ k * 6 + t=(k * 6 + t) / 6 * 6 + 2 ∨ k * 6 + t=(k * 6 + t) / 6 * 6 + 3 ∨ k * 6 + t=(k * 6 + t) / 6 * 6 + 4 ∨ k * 6 + t=(k * 6 + t) / 6 * 6 + 5:=(by omega)
        rcases hm2 with e | e | e | e | e | e
        ·rw [e,u0];rfl
        ·rw [e,u1];rfl
        ·rw [e,u2];rfl
        ·rw [e,u3];rfl
        ·rw [e,u4];rfl
        ·rw [e,u5];rfl) (fun t _=>zar hO _)
       generalize hvs:(Builtin.zeroCells #[.int .i64 0,.string ⟨#[]⟩,.slice none 0 0,.slice none 0 0,.int .i64 0,.int .i64 0] n3).toList=vs at hcl
       clear e1 hO hvs hgB
       go_wp2
       go_ret
       have hke:(Av l).length=k:=by have:=uh HK;rw [uh HE] at this;exact this
       have hde:d.take k=Av l:=by have:=uh HDK;rw [uh HE] at this;exact this
       refine ⟨by rw [hke];rfl, ?_,(uh HB3).trans (zz hBg _ _ _),sf (uh HG3) _ _⟩
       have:=zdn (uh HO3) (k:=k) (by have:=uh HD;omega) vs
       rw [hde] at this
       exact this
    ·rw [show decide (me x=me y)=false from decide_eq_false hxy] at heq
     have HN:=d9 (Es hy hx hxy)
     clear hx hy hbel hpre hxy a0 a1 a2 a3 a4 a5 b0 b1 b2 b3 b4 b5
     go_wp2
     go_quiet_grown (first | (go_at_fn 128;refine Calls.grown_of (heq _ _)))
     have bW:=mi (uh HB) (uh HB).size nq osq
     generalize grow (wr.drewN nq) osq=W at bW ⊢
     have HB2:=d9 bW
     clear bW
     go_wp2
     go_roundw
     case rel=>exact ⟨m + 1,by omega,by go_num,by rw [uh HN,uh HP,<- jh (uh HX)],uh HB2⟩
     case measure=>simp [intOf];omega
   ·have ki1:¬ (m:Int) + 1 < (l.length:Int):=by omega
    have e1:l.take (m + 1)=l:=List.take_of_length_le (by omega)
    rw [e1] at hpre
    have HQ:=d9 hpre
    clear hpre e1
    go_wp2
    go_ret
    rw [uh HQ]
    exact ⟨rfl,(uh H).below (uh HB),(uh HB).mono hB,ji (uh HB) _⟩
def Qt (acc:List Pd) (x:Pd):List Pd:=if acc.getLast? = some x then acc else acc ++ [x]
/-- Of equal ones that stand side by side the first. -/
def Lh (l:List Pd):List Pd:=l.foldl Qt []
theorem Ky {l:List Pd} (h:l.length < 2):Lh l=l:=by
 match l,h with
 | [],_=>rfl
 | [x],_=>rfl
theorem Px {A:Nat} {v:World} {g0:Nat} (acc:List (Pz A v g0)) (x:Pz A v g0):(Cu acc x).map me=Qt (acc.map me) (me x):=by
 unfold Cu Qt
 rw [List.getLast?_map]
 split
 ·rfl
 ·simp
theorem Gs {A:Nat} {v:World} {g0:Nat} (l:List (Pz A v g0)):(Av l).map me=Lh (l.map me):=by
 unfold Av Lh
 have:∀ (l acc:List (Pz A v g0)),(l.foldl Cu acc).map me=(l.map me).foldl Qt (acc.map me):=by
  intro l
  induction l with
  | nil=>intro acc;rfl
  | cons x r ih=>intro acc;simp only [List.foldl_cons,List.map_cons];rw [ih,Px]
 exact this l []
theorem Az (B n c:Nat) (q:Option Addr) (ls:List Pd) (w:World) (h:GrowD B w q c n ls) (hn:n < 2) :
  Calls Tryz.prog 127 #[.slice q n c,.func (.func 128) #[] #[]] w fun e w'=>e=.returned (.slice q (Lh ls).length c)/\GrowD B w' q c (Lh ls).length (Lh ls)/\Below B w w':=by
 rw [Ky (by rw [h.1];exact hn),h.1]
 have i2:(n:Int) < 2:=by omega
 have H:=d9 h
 clear h hn
 go_enter Tryz.func127,Tryz.ntmps127
 go_wp2
 go_ret
 exact ⟨rfl,uh H,Below.refl _ _⟩
/-- slices.CompactFunc of a list of predicates, by conj.same. -/
theorem T6 (B n c:Nat) (q:Option Addr) (ls:List Pd) (w:World) (h:GrowD B w q c n ls) (hs:Small ls) (hB:B<=w.heap.size) (hn:n<=100000000) :
    Calls Tryz.prog 127 #[.slice q n c,.func (.func 128) #[] #[]] w fun e w'=>e=.returned (.slice q (Lh ls).length c)/\GrowD B w' q c (Lh ls).length (Lh ls)/\Below B w w':=by
  by_cases h0:n < 2
  · exact Az B n c q ls w h h0
  obtain ⟨h1,us,h2,h3,h4⟩:=h
  obtain ⟨g,rfl⟩:∃ g,q=some ⟨g,0,none⟩:=by
    rcases h3.2 with ⟨_,e0⟩ | ⟨g,cap,cur,hv,_⟩
    · omega
    · injection hv with k1
      exact ⟨g,k1⟩
  obtain ⟨zs,hz1,hz2⟩:=zam (g:=g) h1 h2 hs h4
  have hZ:OwnK yj 26 6 B w (some ⟨g,0,none⟩) c zs:=(Ch hz1).1 h3
  have hlen:zs.length=n:=by rw [<- h2,<- hz1,List.length_map]
  have hcon:=Q4 B g c zs hZ hB (by omega)
  rw [hlen] at hcon
  have he:(Av zs).length=(Lh ls).length:=by rw [<- hz2,<- Gs,List.length_map]
  refine hcon.mono fun e w' ⟨h5,h6,h7,h8⟩=>⟨by rw [h5,he],⟨rfl,(Av zs).map k7,by rw [List.length_map,he],(Ch rfl).2 h6, ?_⟩,h7⟩
  intro x hx hc j u l hu hl
  rw [<- hz2,<- Gs] at hl
  rw [List.getElem?_map] at hu hl
  obtain ⟨z,hz,rfl⟩:=Option.map_eq_some_iff.1 hu
  rw [hz] at hl
  cases hl
  exact (OffP.step z.2.2 h8 (Or.inl rfl)) x hx hc
end Go.Proofs.YtimklglliffpcaaGreat

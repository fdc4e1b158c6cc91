/- conj.Holds. -/
import Derived.Test.YtimklglliffpcaaGreatQZad
import Derived.Test.YtimklglliffpcaaGreatQZae
namespace Go.Proofs.YtimklglliffpcaaGreat
open Go.RowKit Go.Sort Go.Shelf
def mm (ev:List Pr) (p:Pd):Bool:=mr p.kind p.attr p.ints p.words p.lo p.hi ev
theorem Gx (u:Pv) (p:Pd) (qe:Option Addr) (ce:Nat) (ev:List Pr) (w:World) (h:PdIn w u p) (hs:p.small) (h3:SlOf yq 4 w qe ce ev) (l3:ev.length<=100000000000000) :
  Calls Tryz.prog 37 #[u.val,.slice qe ev.length ce] w fun e w'=>e=.returned (.bool (mm ev p))/\Below w.heap.size w w':=by
 obtain ⟨a1,a2,a3,a4,a5,a6,a7,a8⟩:=h
 obtain ⟨s1,s2⟩:=hs
 unfold Pv.val mm
 rw [a1,a2,a3,a4,a5,a6]
 exact L8 p.kind p.attr u.qi u.ci p.ints u.qw u.cw p.words p.lo p.hi qe ce ev w a7 a8 h3 (by omega) (by omega) l3
theorem zci (M:Nat) (u:Pv) (p:Pd) (qe:Option Addr) (ce:Nat) (ev:List Pr) (w:World) (hu:PdIn w u p) (hs:p.small) (hM:M < w.heap.size) (hm:w.cell? ⟨M,0,none⟩=some (.slice qe ev.length ce)) (he:SlOf yq 4 w qe ce ev) (l3:ev.length<=100000000000000) :
  Calls Tryz.prog 80 #[u.val,.pointer (some ⟨M,0,none⟩)] w fun e w'=>e=.returned (.bool (mm ev p))/\Below w.heap.size w w':=by
 obtain ⟨X,HX,bX,x8⟩:=xj w u
 obtain ⟨a0,a1,a2,a3,a4,a5⟩:=kq x8
 have hm':=(bX.cell (p:=⟨M,0,none⟩) hM).trans hm
 have hC:=Gx u p qe ce ev X (hu.keep bX) hs (he.below bX) l3
 unfold Pv.val at hC ⊢
 have BX:=d9 bX
 obtain ⟨z,hz⟩:∃ z,mm ev p=z:=⟨_,rfl⟩
 rw [hz] at hC
 have HZ:=d9 hz
 clear bX x8 hu hs hm he hz
 go_enter Tryz.func80,Tryz.ntmps80
 go_wp2_with (go_at_call 37;refine hC.mono ?_;rintro e w1 ⟨rfl,b1⟩;have B1:=d9 b1;clear b1)
 go_ret
 exact ⟨jb (uh HZ).symm,d8 (uh BX) (uh B1)⟩
theorem zb3 (M:Nat) (u:Pv) (p:Pd) (qe:Option Addr) (ce:Nat) (ev:List Pr) (w:World) (hu:PdIn w u p) (hs:p.small) (hM:M < w.heap.size) (hm:w.cell? ⟨M,0,none⟩=some (.slice qe ev.length ce)) (he:SlOf yq 4 w qe ce ev) (l3:ev.length<=100000000000000) :
  Calls Tryz.prog 81 #[u.val,.pointer (some ⟨M,0,none⟩)] w fun e w'=>e=.returned (.bool (!mm ev p))/\Below w.heap.size w w':=by
 obtain ⟨X,HX,bX,x8⟩:=xj w u
 obtain ⟨a0,a1,a2,a3,a4,a5⟩:=kq x8
 have hm':=(bX.cell (p:=⟨M,0,none⟩) hM).trans hm
 have hC:=Gx u p qe ce ev X (hu.keep bX) hs (he.below bX) l3
 unfold Pv.val at hC ⊢
 have BX:=d9 bX
 obtain ⟨z,hz⟩:∃ z,mm ev p=z:=⟨_,rfl⟩
 rw [hz] at hC
 have HZ:=d9 hz
 clear bX x8 hu hs hm he hz
 go_enter Tryz.func81,Tryz.ntmps81
 go_wp2_with (go_at_call 37;refine hC.mono ?_;rintro e w1 ⟨rfl,b1⟩;have B1:=d9 b1;clear b1)
 go_ret
 cases z <;> exact ⟨jb (by rw [uh HZ]),d8 (uh BX) (uh B1)⟩
theorem Mw {α:Type} (f:α->Bool) (l:List α):decide (0<=vz f l)=l.any f:=by
 by_cases h:∃ x ∈ l,f x=true
 ·have ha:l.any f=true:=by simpa using h
  rw [ha]
  have hf:vy f l < l.length:=by
   rcases Nat.lt_or_ge (vy f l) l.length with h1 | h1
   ·exact h1
   ·exfalso
    have:=Da (p:=f) (l:=l) (by omega)
    obtain ⟨x,hx,hfx⟩:=h
    have:=List.filter_eq_self.1 this x hx
    simp [hfx] at this
  unfold vz
  simp [hf]
 ·have ha:l.any f=false:=by
   rw [List.any_eq_false]
   exact fun x hx hf=>h ⟨x,hx,hf⟩
  rw [ha,sh (fun t y hy=>by
   cases hf:f y with
   | false=>rfl
   | true=>exact absurd ⟨y,List.mem_of_getElem? hy,hf⟩ h)]
  rfl
set_option maxHeartbeats 1000000 in
set_option maxRecDepth 100000 in
theorem zau (q:Option Addr) (c M:Nat) (l:List Pd) (f:Pd->Bool) (w:World) (h:PdsOf w q c l) (hl:l.length<=100000000) (hP:∀ (W:World) (u:Pv) (p:Pd),Below w.heap.size w W->p ∈ l->PdIn W u p->Calls Tryz.prog 80 #[u.val,.pointer (some ⟨M,0,none⟩)] W fun e w'=>e=.returned (.bool (f p))/\Below W.heap.size W w') :
    Calls Tryz.prog 130 #[.slice q l.length c,.func (.func 80) #[] #[.pointer (some ⟨M,0,none⟩)]] w fun e w'=>e=.returned (.int .i64 (vz f l))/\Below w.heap.size w w':=by
  have l1:(l.length:Int)<=100000000:=by omega
  have HH:=d9 h
  clear h
  go_enter Tryz.func130,Tryz.ntmps130
  go_wp2
  go_loopw [8] (fun i wr=>∃ k:Nat,k<=l.length/\i=.int .i64 k/\Hid (∀ (t:Nat) (x:Pd),t < k->l[t]? = some x->f x=false)/\Hid (Below w.heap.size w wr)) (fun i _=>l.length - (intOf i).toNat)
  case atStart=>exact ⟨0,by omega,rfl,d9 (fun t x h=>absurd h (by omega)),d9 (Below.refl _ _)⟩
  case round =>
    obtain ⟨k,hk,rfl,HA,HB⟩:=hrel
    by_cases hlt:k < l.length
    · obtain ⟨x,hx,_⟩:=je hlt
      obtain ⟨b,off,u,hq,hb,hu,c0,c1,c2,c3,c4,c5⟩:=(uh HH).at hx
      subst hq
      have g0:=((uh HB).cell (p:=⟨b,_,none⟩) hb).trans c0
      have g1:=((uh HB).cell (p:=⟨b,_,none⟩) hb).trans c1
      have g2:=((uh HB).cell (p:=⟨b,_,none⟩) hb).trans c2
      have g3:=((uh HB).cell (p:=⟨b,_,none⟩) hb).trans c3
      have g4:=((uh HB).cell (p:=⟨b,_,none⟩) hb).trans c4
      have g5:=((uh HB).cell (p:=⟨b,_,none⟩) hb).trans c5
      have ki0:(0:Int)<=(k:Int):=by omega
      have ki1:(k:Int) < (l.length:Int):=by omega
      have hD:=hP wr u x (uh HB) (List.mem_of_getElem? hx) (hu.keep (uh HB))
      unfold Pv.val at hD
      have HX:=d9 hx
      clear hx c0 c1 c2 c3 c4 c5
      cases hin:f x with
      | true =>
        rw [hin] at hD
        have HN:=d9 (show (k:Int)=vz f l by rw [Bw (uh HA) (uh HX) hin])
        go_wp2_with (go_at_call 80;refine hD.mono ?_;rintro e w2 ⟨rfl,b2⟩;have B2:=d9 b2;clear b2)
        go_ret
        exact ⟨jg (uh HN),d8 (uh HB) (uh B2)⟩
      | false =>
        rw [hin] at hD
        go_wp2_with (go_at_call 80;refine hD.mono ?_;rintro e w2 ⟨rfl,b2⟩;have B2:=d9 b2;clear b2)
        go_roundw
        case rel =>
          exact ⟨k + 1,by omega,by go_num,d9 (fun t y ht hy=>by
            by_cases e:t=k
            · subst e
              rw [uh HX] at hy
              cases hy
              exact hin
            · exact uh HA t y (by omega) hy),d9 (d8 (uh HB) (uh B2))⟩
        case measure=>simp [intOf];omega
    · have ki1:¬ (k:Int) < (l.length:Int):=by omega
      have HN:=d9 (show -1=vz f l by rw [sh (fun t x h=>uh HA t x (by have:=(List.getElem?_eq_some_iff.1 h).1;omega) h)])
      go_wp2
      go_ret
      exact ⟨jg (uh HN),uh HB⟩
theorem Zt (q:Option Addr) (c M:Nat) (l:List Pd) (f:Pd->Bool) (w:World) (h:PdsOf w q c l) (hl:l.length<=100000000) (hP:∀ (W:World) (u:Pv) (p:Pd),Below w.heap.size w W->p ∈ l->PdIn W u p->Calls Tryz.prog 80 #[u.val,.pointer (some ⟨M,0,none⟩)] W fun e w'=>e=.returned (.bool (f p))/\Below W.heap.size W w') :
    Calls Tryz.prog 82 #[.slice q l.length c,.func (.func 80) #[] #[.pointer (some ⟨M,0,none⟩)]] w fun e w'=>e=.returned (.bool (l.any f))/\Below w.heap.size w w':=by
  have hI:=zau q c M l f w h hl hP
  have HG:=d9 (Mw f l)
  obtain ⟨z,hz⟩:∃ z,vz f l=z:=⟨_,rfl⟩
  rw [hz] at hI HG
  clear hz hP h
  by_cases h0:0<=z
  · have HR:=d9 (show true=l.any f by rw [<- uh HG];simp [h0])
    go_enter Tryz.func82,Tryz.ntmps82
    go_wp2_with (go_at_call 130;refine hI.mono ?_;rintro e w1 ⟨rfl,b1⟩;have B1:=d9 b1;clear b1)
    go_ret
    exact ⟨jb (uh HR),uh B1⟩
  · have HR:=d9 (show false=l.any f by rw [<- uh HG];simp [h0])
    go_enter Tryz.func82,Tryz.ntmps82
    go_wp2_with (go_at_call 130;refine hI.mono ?_;rintro e w1 ⟨rfl,b1⟩;have B1:=d9 b1;clear b1)
    go_ret
    exact ⟨jb (uh HG),uh B1⟩
set_option maxHeartbeats 1000000 in
set_option maxRecDepth 100000 in
theorem zbq (q:Option Addr) (c M:Nat) (l:List Pd) (f:Pd->Bool) (w:World) (h:PdsOf w q c l) (hl:l.length<=100000000) (hP:∀ (W:World) (u:Pv) (p:Pd),Below w.heap.size w W->p ∈ l->PdIn W u p->Calls Tryz.prog 81 #[u.val,.pointer (some ⟨M,0,none⟩)] W fun e w'=>e=.returned (.bool (f p))/\Below W.heap.size W w') :
    Calls Tryz.prog 130 #[.slice q l.length c,.func (.func 81) #[] #[.pointer (some ⟨M,0,none⟩)]] w fun e w'=>e=.returned (.int .i64 (vz f l))/\Below w.heap.size w w':=by
  have l1:(l.length:Int)<=100000000:=by omega
  have HH:=d9 h
  clear h
  go_enter Tryz.func130,Tryz.ntmps130
  go_wp2
  go_loopw [8] (fun i wr=>∃ k:Nat,k<=l.length/\i=.int .i64 k/\Hid (∀ (t:Nat) (x:Pd),t < k->l[t]? = some x->f x=false)/\Hid (Below w.heap.size w wr)) (fun i _=>l.length - (intOf i).toNat)
  case atStart=>exact ⟨0,by omega,rfl,d9 (fun t x h=>absurd h (by omega)),d9 (Below.refl _ _)⟩
  case round =>
    obtain ⟨k,hk,rfl,HA,HB⟩:=hrel
    by_cases hlt:k < l.length
    · obtain ⟨x,hx,_⟩:=je hlt
      obtain ⟨b,off,u,hq,hb,hu,c0,c1,c2,c3,c4,c5⟩:=(uh HH).at hx
      subst hq
      have g0:=((uh HB).cell (p:=⟨b,_,none⟩) hb).trans c0
      have g1:=((uh HB).cell (p:=⟨b,_,none⟩) hb).trans c1
      have g2:=((uh HB).cell (p:=⟨b,_,none⟩) hb).trans c2
      have g3:=((uh HB).cell (p:=⟨b,_,none⟩) hb).trans c3
      have g4:=((uh HB).cell (p:=⟨b,_,none⟩) hb).trans c4
      have g5:=((uh HB).cell (p:=⟨b,_,none⟩) hb).trans c5
      have ki0:(0:Int)<=(k:Int):=by omega
      have ki1:(k:Int) < (l.length:Int):=by omega
      have hD:=hP wr u x (uh HB) (List.mem_of_getElem? hx) (hu.keep (uh HB))
      unfold Pv.val at hD
      have HX:=d9 hx
      clear hx c0 c1 c2 c3 c4 c5
      cases hin:f x with
      | true =>
        rw [hin] at hD
        have HN:=d9 (show (k:Int)=vz f l by rw [Bw (uh HA) (uh HX) hin])
        go_wp2_with (go_at_call 81;refine hD.mono ?_;rintro e w2 ⟨rfl,b2⟩;have B2:=d9 b2;clear b2)
        go_ret
        exact ⟨jg (uh HN),d8 (uh HB) (uh B2)⟩
      | false =>
        rw [hin] at hD
        go_wp2_with (go_at_call 81;refine hD.mono ?_;rintro e w2 ⟨rfl,b2⟩;have B2:=d9 b2;clear b2)
        go_roundw
        case rel =>
          exact ⟨k + 1,by omega,by go_num,d9 (fun t y ht hy=>by
            by_cases e:t=k
            · subst e
              rw [uh HX] at hy
              cases hy
              exact hin
            · exact uh HA t y (by omega) hy),d9 (d8 (uh HB) (uh B2))⟩
        case measure=>simp [intOf];omega
    · have ki1:¬ (k:Int) < (l.length:Int):=by omega
      have HN:=d9 (show -1=vz f l by rw [sh (fun t x h=>uh HA t x (by have:=(List.getElem?_eq_some_iff.1 h).1;omega) h)])
      go_wp2
      go_ret
      exact ⟨jg (uh HN),uh HB⟩
theorem Xq (q:Option Addr) (c M:Nat) (l:List Pd) (f:Pd->Bool) (w:World) (h:PdsOf w q c l) (hl:l.length<=100000000) (hP:∀ (W:World) (u:Pv) (p:Pd),Below w.heap.size w W->p ∈ l->PdIn W u p->Calls Tryz.prog 81 #[u.val,.pointer (some ⟨M,0,none⟩)] W fun e w'=>e=.returned (.bool (f p))/\Below W.heap.size W w') :
    Calls Tryz.prog 82 #[.slice q l.length c,.func (.func 81) #[] #[.pointer (some ⟨M,0,none⟩)]] w fun e w'=>e=.returned (.bool (l.any f))/\Below w.heap.size w w':=by
  have hI:=zbq q c M l f w h hl hP
  have HG:=d9 (Mw f l)
  obtain ⟨z,hz⟩:∃ z,vz f l=z:=⟨_,rfl⟩
  rw [hz] at hI HG
  clear hz hP h
  by_cases h0:0<=z
  · have HR:=d9 (show true=l.any f by rw [<- uh HG];simp [h0])
    go_enter Tryz.func82,Tryz.ntmps82
    go_wp2_with (go_at_call 130;refine hI.mono ?_;rintro e w1 ⟨rfl,b1⟩;have B1:=d9 b1;clear b1)
    go_ret
    exact ⟨jb (uh HR),uh B1⟩
  · have HR:=d9 (show false=l.any f by rw [<- uh HG];simp [h0])
    go_enter Tryz.func82,Tryz.ntmps82
    go_wp2_with (go_at_call 130;refine hI.mono ?_;rintro e w1 ⟨rfl,b1⟩;have B1:=d9 b1;clear b1)
    go_ret
    exact ⟨jb (uh HG),uh B1⟩
end Go.Proofs.YtimklglliffpcaaGreat

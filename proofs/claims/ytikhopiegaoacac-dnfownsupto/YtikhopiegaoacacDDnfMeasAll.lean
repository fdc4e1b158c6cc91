/- dnf's measured of any tree. -/
import Derived.Test.YtikhopiegaoacacDDnfMeasJ
namespace Go.Proofs.Ytikhopiegaoacac
open Go.RowKit Go.Sort

theorem wide_map {kids:List Nd} (hC:∀ x ∈ kids,chkN x=true) (hW:∀ x ∈ kids,wN x≤64):widL 64 kids=kids.map wN:=by
 rw [widL_map]
 apply List.map_congr_left
 intro x hx
 have h:=(wid_min (m:=64) (by omega) (by omega) x (hC x hx)).1
 have:=hW x hx
 rw [h];omega
theorem lit_agree {w0 w w' w'':World} {C:Nat} {kind lo hi:Int} {attr:ByteArray} {neg:Bool} {ints:List Int} {words:List ByteArray} {qi qw:Option Addr} {ci cw:Nat} (h1:SlOf encI 1 w0 qi ci ints) (h2:SlOf encS 1 w0 qw cw words) (hb:Below w0.heap.size w0 w) (b:Below w.heap.size w w') (ha:Ags w0.heap.size C w' w'') :
  LitIn w'' ⟨kind,attr,qi,ints.length,ci,qw,words.length,cw,lo,hi,neg⟩ ⟨kind,attr,ints,words,lo,hi,neg⟩:=by
 obtain ⟨a1,a2⟩:=agree0 hb b ha
 exact ⟨rfl,rfl,rfl,rfl,rfl,rfl,rfl,h1.agree a1 (fun ad _ hlt o=>a2 ad.block o hlt),h2.agree a1 (fun ad _ hlt o=>a2 ad.block o hlt)⟩
theorem join_st {w0 w w':World} {kind lo hi op:Int} {attr:ByteArray} {ints:List Int} {words:List ByteArray} {kids:List Nd} {gk:Nat} {us:List Sv} (ho:op=3 ∨ op=4) (hg:w.heap.size≤gk) (hs:SlOf encSd 10 w' (some ⟨gk,0,none⟩) kids.length us) (hl:us.length=kids.length) (hk:∀ (j:Nat) (v:Sv) (x:Nd),us[j]? = some v→kids[j]? = some x→SdSt w0.heap.size w.heap.size v x w') :
  SdSt w0.heap.size w.heap.size ⟨⟨0,⟨#[]⟩,none,0,0,none,0,0,0,0,false⟩,op,wN (.mk kind attr ints words lo hi op kids),some ⟨gk,0,none⟩,kids.length,kids.length⟩ (.mk kind attr ints words lo hi op kids) w':=fun w'' ha =>
 .join ho rfl rfl (hs.agree ha.1 (fun ad e hlt o=>by cases e;exact ha.2 gk o hlt (Or.inr hg))) rfl hl (fun j v x h1 h2=>hk j v x h1 h2 w'' ha)
theorem meas_all:∀ t,MsP t:=by
 intro t
 induction t using Nd.ind with
 | h kind attr ints words lo hi op kids ih =>
  intro v w0 w hin hb hch hat hwt hwn
  obtain ⟨qi,ci,qw,cw,qk,ck,rfl,h1,h2,hk⟩:=hin.parts
  obtain ⟨l1,l2,l4⟩:=wtN_parts hwt
  have hch0:=hch
  simp only [chkN,Bool.and_eq_true] at hch
  obtain ⟨hn,hc⟩:=hch
  have hC:∀ x ∈ kids,chkN x=true:=fun x hx=>chkL_mem hc hx
  simp only [Nv.val]
  unfold nodeB at hn
  by_cases o1:op=1
  ·subst o1
   refine (meas_pos kind attr qi ci ints qw cw words lo hi qk ck kids w).mono ?_
   rintro e w' ⟨rfl,b⟩
   exact ⟨⟨⟨⟨kind,attr,qi,ints.length,ci,qw,words.length,cw,lo,hi,false⟩,1,1,none,0,0⟩,rfl,fun w'' ha=>.pos (lit_agree h1 h2 hb b ha) rfl rfl⟩,b⟩
  ·rw [if_neg o1] at hn
   by_cases o2:op=2
   ·subst o2
    rw [if_pos rfl,Bool.and_eq_true] at hn
    obtain ⟨x,rfl⟩:=List.length_eq_one_iff.1 (of_decide_eq_true hn.2)
    obtain ⟨b,off,u,hq,hbb,hu,g0,g1,g2,g3,g4,g5,g6,g7⟩:=hk.at (j:=0) (x:=x) rfl
    subst hq
    obtain ⟨k2,a2,i2,w2,lo2,hi2,o2,ks2⟩:=x
    obtain ⟨qi2,ci2,qw2,cw2,qk2,ck2,rfl,m1,m2,_⟩:=hu.parts
    rw [Nat.zero_mul,Nat.add_zero] at g0 g1 g2 g3 g4 g5
    have hs:=hb.size
    refine (meas_neg kind attr qi ci ints qw cw words lo hi b off ck ⟨k2,a2,qi2,i2.length,ci2,qw2,w2.length,cw2,lo2,hi2,o2,qk2,ks2.length,ck2⟩ w (by omega) ((hb.cell (p:=⟨b,off,none⟩) hbb).trans g0) ((hb.cell (p:=⟨b,off + 1,none⟩) hbb).trans g1) ((hb.cell (p:=⟨b,off + 2,none⟩) hbb).trans g2) ((hb.cell (p:=⟨b,off + 3,none⟩) hbb).trans g3) ((hb.cell (p:=⟨b,off + 4,none⟩) hbb).trans g4) ((hb.cell (p:=⟨b,off + 5,none⟩) hbb).trans g5)).mono ?_
    rintro e w' ⟨rfl,b'⟩
    exact ⟨⟨⟨⟨k2,a2,qi2,i2.length,ci2,qw2,w2.length,cw2,lo2,hi2,true⟩,1,1,none,0,0⟩,rfl,fun w'' ha=>.neg (lit_agree m1 m2 hb b' ha) rfl rfl⟩,b'⟩
   ·have ho:op=3 ∨ op=4:=by
     by_cases o3:op=3
     ·exact Or.inl o3
     ·by_cases o4:op=4
      ·exact Or.inr o4
      ·rw [if_neg o2,if_neg (by omega)] at hn;cases hn
    have hA:∀ x ∈ kids,atN x=true:=atL_all (by rcases ho with rfl | rfl <;> simpa [atN] using hat)
    have hW:=kids_wide ho hC hwn
    have hwd:=(wid_min (m:=64) (by omega) (by omega) _ hch0).1
    rcases ho with rfl | rfl
    ·have e:widN 64 (.mk kind attr ints words lo hi 3 kids)=prodB 64 (widL 64 kids):=by simp [widN]
     rw [e,wide_map hC hW] at hwd
     refine (meas_3 kind attr qi ci ints qw cw words lo hi qk ck kids w0 w hk hb ih hC hA hW l4).mono ?_
     rintro e w' ⟨⟨gk,us,rfl,a1,a2,a3,a4⟩,b⟩
     rw [show prodB 64 (kids.map wN)=wN (.mk kind attr ints words lo hi 3 kids) by rw [hwd];omega]
     exact ⟨⟨_,rfl,join_st (Or.inl rfl) a1 a2 a3 a4⟩,b⟩
    ·have e:widN 64 (.mk kind attr ints words lo hi 4 kids)=sumB 64 (widL 64 kids):=by simp [widN]
     rw [e,wide_map hC hW] at hwd
     refine (meas_4 kind attr qi ci ints qw cw words lo hi qk ck kids w0 w hk hb ih hC hA hW l4).mono ?_
     rintro e w' ⟨⟨gk,us,rfl,a1,a2,a3,a4⟩,b⟩
     rw [show sumB 64 (kids.map wN)=wN (.mk kind attr ints words lo hi 4 kids) by rw [hwd];omega]
     exact ⟨⟨_,rfl,join_st (Or.inr rfl) a1 a2 a3 a4⟩,b⟩
end Go.Proofs.Ytikhopiegaoacac

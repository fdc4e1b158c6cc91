/- joined: operands with a sign between. -/
import Derived.Test.YtencibjmiphinaaGreatDoorEZak
namespace Go.Proofs.YtencibjmiphinaaGreatDoor
open Go.RowKit
theorem kd_snoc {B g c cap2:Nat} {ks:List Nd} {us:List Nv} {q q2:Option Addr} {w3 w4 w6:World} {v:Nv} {x:Nd} (hu:us.length=ks.length) (ho:OwnK encV 29 8 B w3 q c us) (hf:KdS B ks us q w3) (hg:w3.grownBy w4 (some g)) (hgB:g < B) (hv:NdFrom w4 w3.heap.size v x) (hB:B<=w3.heap.size)
  (ho2:OwnK encV 29 8 B w6 q2 cap2 (us ++ [v])) (hg2:(w4.alloc (.cells #[.int .i64 v.kind,.string v.attr,.slice v.qi v.ni v.ci,.slice v.qw v.nw v.cw,.int .i64 v.lo,.int .i64 v.hi,.int .i64 v.op,.slice v.qk v.nk v.ck] 29)).grownBy w6 (Value.slice q ks.length c).ownBlock) (hor:(Value.slice q2 (ks.length + 1) cap2).ownBlock=(Value.slice q ks.length c).ownBlock ∨ (Value.slice q2 (ks.length + 1) cap2).ownBlock=some (w4.alloc (.cells #[.int .i64 v.kind,.string v.attr,.slice v.qi v.ni v.ci,.slice v.qw v.nw v.cw,.int .i64 v.lo,.int .i64 v.hi,.int .i64 v.op,.slice v.qk v.nk v.ck] 29)).heap.size):Kd B (ks ++ [x]) q2 cap2 w6:=by
 obtain ⟨Ss,hs,hr,hn,hSB⟩:=hf
 obtain ⟨T,hT,hTB⟩:=hv
 have hlt:=kids_lt hu hs hr
 have hTl:=hT.lt
 obtain ⟨hn1,hn2,hn3⟩:=List.nodup_append.1 hn
 have hqlt:∀ b ∈ bk q,b < w3.heap.size:=fun b hb=>ho.low.bk_lt hb
 have hal:Below w4.heap.size w4 (w4.alloc (.cells #[.int .i64 v.kind,.string v.attr,.slice v.qi v.ni v.ci,.slice v.qw v.nw v.cw,.int .i64 v.lo,.int .i64 v.hi,.int .i64 v.op,.slice v.qk v.nk v.ck] 29)):=(Below.refl _ _).alloc (Nat.le_refl _) _
 have hown:∀ b,(Value.slice q ks.length c).ownBlock=some b->b ∈ bk q:=fun b h=>by rw [<- bk_own q ks.length c,h];simp
 have k1:∀ b,b < w4.heap.size->b ∉ bk q->w6.heap[b]? = w4.heap[b]?:=fun b hb hq=>(hg2.block b (Nat.lt_of_lt_of_le hb hal.size) (fun e=>hq (hown b e.symm))).trans (hal.block b hb)
 have h34:=hg.size
 refine ⟨us ++ [v],by simp [hu],ho2,Ss ++ [T],by simp [hs], ?_, ?_, ?_⟩
 ·intro j y z S hj hz hS
  by_cases hjl:j < us.length
  ·rw [List.getElem?_append_left hjl] at hj
   rw [List.getElem?_append_left (by omega)] at hz
   rw [List.getElem?_append_left (by omega)] at hS
   refine (hr j y z S hj hz hS).blk fun b hb=>?_
   have hb2:=mem_flat hS hb
   have h1:=hlt b hb2
   exact (k1 b (by omega) (fun h=>hn3 b h b hb2 rfl)).trans (hg.block b h1 (fun e=>by cases e;have:=hSB g hb2;omega))
  ·rw [List.getElem?_append_right (by omega)] at hj
   rw [List.getElem?_append_right (by omega)] at hz
   rw [List.getElem?_append_right (by omega)] at hS
   have e1:j - us.length=0:=by
    have:=(List.getElem?_eq_some_iff.1 hj).1
    simp at this;omega
   rw [e1] at hj
   rw [<- hu,e1] at hz
   rw [hs,<- hu,e1] at hS
   cases hj;cases hz;cases hS
   exact hT.blk fun b hb=>k1 b (hTl b hb) (fun h=>by have h2:=hqlt b h;have h3:=hTB b hb;omega)
 ·have hflat:(Ss ++ [T]).flatten=Ss.flatten ++ T:=by simp
  rw [hflat,List.nodup_append]
  refine ⟨bk_nodup q2,List.nodup_append.2 ⟨hn2,hT.nd,fun a ha b hb e=>?_⟩,fun a ha b hb e=>?_⟩
  ·have h1:=hlt a ha
   have h2:=hTB b hb
   omega
  ·subst e
   rw [<- bk_own q2 (ks.length + 1) cap2] at ha
   rcases hor with h | h
   ·rw [h,bk_own] at ha
    rcases List.mem_append.1 hb with hb | hb
    ·exact hn3 a ha a hb rfl
    ·have h2:=hqlt a ha
     have h3:=hTB a hb
     omega
   ·rw [h] at ha
    have h2:a=(w4.alloc (.cells #[.int .i64 v.kind,.string v.attr,.slice v.qi v.ni v.ci,.slice v.qw v.nw v.cw,.int .i64 v.lo,.int .i64 v.hi,.int .i64 v.op,.slice v.qk v.nk v.ck] 29)).heap.size:=by simpa using ha
    have h3:=hal.size
    rcases List.mem_append.1 hb with hb | hb
    ·have:=hlt a hb;omega
    ·have:=hTl a hb;omega
 ·intro b hb
  have hflat:(Ss ++ [T]).flatten=Ss.flatten ++ T:=by simp
  rw [hflat] at hb
  rcases List.mem_append.1 hb with hb | hb
  ·exact hSB b hb
  ·have:=hTB b hb;omega
/-- What is answered of operands. -/
theorem kd_many {B c:Nat} {ks:List Nd} {q:Option Addr} {w:World} (op:Int) (h:Kd B ks q c w):NdFrom w B ⟨0,⟨#[]⟩,none,0,0,none,0,0,0,0,op,q,ks.length,c⟩ (.mk 0 ⟨#[]⟩ [] [] 0 0 op ks):=by
 obtain ⟨us,hu,ho,Ss,hs,hr,hn,hB⟩:=h
 refine ⟨_,NdOwn.mk (ints:=[]) (words:=[]) (OwnK.nil _ _) (OwnK.nil _ _) ho.low hu hs hr (by simpa [bk] using hn),fun b hb=>?_⟩
 have hb2:b ∈ bk q ++ Ss.flatten:=by simpa [bk] using hb
 rcases List.mem_append.1 hb2 with h1 | h1
 ·refine ho.ownGe hu b ?_
  obtain ⟨e,_⟩:=ho.low.at_blk h1
  rw [e];rfl
 ·exact hB b h1
theorem kd_one {B c:Nat} {ks:List Nd} {q:Option Addr} {w:World} (h:Kd B ks q c w) (h1:ks.length=1):∃ x v b,ks=[x]/\q=some ⟨b,0,none⟩/\NdFrom w B v x/\w.cell? ⟨b,0,none⟩=some (.int .i64 v.kind)/\w.cell? ⟨b,1,none⟩=some (.string v.attr)/\w.cell? ⟨b,2,none⟩=some (.slice v.qi v.ni v.ci)/\w.cell? ⟨b,3,none⟩=some (.slice v.qw v.nw v.cw)/\w.cell? ⟨b,4,none⟩=some (.int .i64 v.lo)/\w.cell? ⟨b,5,none⟩=some (.int .i64 v.hi)/\w.cell? ⟨b,6,none⟩=some (.int .i64 v.op)/\w.cell? ⟨b,7,none⟩=some (.slice v.qk v.nk v.ck):=by
 obtain ⟨us,hu,ho,hf⟩:=h
 obtain ⟨x,rfl⟩:=List.length_eq_one_iff.1 h1
 obtain ⟨v,rfl⟩:=List.length_eq_one_iff.1 (hu.trans h1)
 obtain ⟨b,off,hq,hb,hc⟩:=ho.ls.2.2.2.at (j:=0) (x:=v) rfl
 rcases ho.cases with ⟨rfl,h2,_⟩ | ⟨b',rfl,_⟩
 ·cases hq
 ·obtain ⟨rfl,rfl⟩:b'=b/\off=0:=by cases hq;exact ⟨rfl,rfl⟩
  have h8:=cells8 hc
  simp only [Nat.zero_mul,Nat.add_zero,Nat.zero_add] at h8
  obtain ⟨Ss,hs,hr,hn,hB⟩:=hf
  obtain ⟨T,rfl⟩:=List.length_eq_one_iff.1 (hs.trans h1)
  exact ⟨x,v,b',rfl,rfl,⟨T,hr 0 v x T rfl rfl rfl,fun b hb=>hB b (by simpa using hb)⟩,h8⟩
set_option maxHeartbeats 4000000 in
theorem joined120 (g:Nat) (en:Int) (n:Nat) (f:List Tk->Rs Nd) (hn:n<=1000000) (hF:∀ (l':List Tk) (W:World),l'.length<=n->Ps W g en l'->Calls Tryz.prog 120 #[.pointer (some ⟨g,0,none⟩)] W fun e w'=>NdR g en W (f l') e w') (hfl:∀ l' x r,f l'=.ok x r->r.length + 1<=l'.length) (l:List Tk) (hl:l.length<=n) (w:World) (hp:Ps w g en l) :
  Calls Tryz.prog 91 #[.pointer (some ⟨g,0,none⟩),.int .i64 3,.string ⟨#[38]⟩,.func (.func 120) #[.pointer (some ⟨g,0,none⟩)] #[]] w fun e w'=>NdR g en w (chL 3 ⟨#[38]⟩ f l) e w':=by
 have hg:=hp.lt
 have h0:=hp.z
 have hc1:=hF l _ hl h0.1
 cases ef:f l with
 | bad p =>
  have hx:chL 3 ⟨#[38]⟩ f l=.bad p:=by simp only [chL,ef]
  rw [hx]
  have EF:=hide ef
  have H0:=hide h0
  clear hp ef hx h0 hF hfl
  go_enter Tryz.func91,Tryz.ntmps91
  go_wp2_with (go_at_call 120;refine hc1.mono ?_;rintro e w1 hq;obtain ⟨rfl,hx⟩:=hq.bad (uh EF);have X1:=hide hx;clear hx hq;simp only [refusal])
  exact ⟨rfl,rfl,gr_z (uh X1)⟩
 | ok x r =>
  have hr:=hfl l x r ef
  have HC:=hide (Ch.first (s:=⟨#[38]⟩) ef)
  have EF:=hide ef
  have H0:=hide h0
  have HF:=hide hF
  have HFL:=hide hfl
  clear hp ef h0 hF hfl
  go_enter Tryz.func91,Tryz.ntmps91
  go_wp2_with (go_at_call 120;refine hc1.mono ?_;rintro e w1 hq;obtain ⟨⟨v,rfl,hv⟩,hx⟩:=hq.ok (uh EF);have X1:=hide hx;have HV:=hide hv;clear hx hv hq;unfold Nv.val)
  have hs1:=(uh X1).2.size
  simp at hs1
  have HK:=hide (Kd.one (B:=w.heap.size + 1) (by have:=uh HV;simpa using this) hs1)
  have HX:=hide ((uh X1).bel ((Below.refl _ _).alloc (Nat.le_refl _) (.cells #[.int .i64 v.kind,.string v.attr,.slice v.qi v.ni v.ci,.slice v.qw v.nw v.cw,.int .i64 v.lo,.int .i64 v.hi,.int .i64 v.op,.slice v.qk v.nk v.ck] 29)))
  clear X1 HV hc1 hs1
  go_loopw [9] (fun u wr=>∃ (ks:List Nd) (l1:List Tk) (q:Option Addr) (c:Nat),u=.slice q ks.length c/\Kd (w.heap.size + 1) ks q c wr/\Nx g en l1 (w.alloc (.cells #[.int .i64 0,.string ⟨#[]⟩,.slice none 0 0,.slice none 0 0,.int .i64 0,.int .i64 0,.int .i64 0,.slice none 0 0] 29)) wr/\Ch ⟨#[38]⟩ f l x r ks l1/\ks.length + l1.length<=n) (fun _ wr=>lnAt g wr)
  case atStart=>exact ⟨[x],r,_,_,rfl,uh HK,uh HX,uh HC,by simp;omega⟩
  case round =>
   clear HK HX HC EF H0
   obtain ⟨ks,l1,q,c,rfl,hk,hx,hch,hlen⟩:=hrel
   have HK:=hide hk
   have HX:=hide hx
   have HC:=hide hch
   have hws:=hx.2.size
   simp at hws
   clear hk hx hch
   cases hs:skL ⟨#[38]⟩ l1 with
   | none =>
    have hsk:=skip_no g en ⟨#[38]⟩ l1 wr (uh HX).1 hs
    have HE:=hide ((uh HC).done (op:=3) hs)
    obtain ⟨z1,⟨q0,q1,q2,q3,q4,q5,q6,q7⟩,qf⟩:=res8 (uh HX).2 hg
    clear hs
    by_cases h1:ks.length=1
    ·obtain ⟨x1,v1,b1,hks,hq,hv1,k0,k1,k2,k3,k4,k5,k6,k7⟩:=kd_one (uh HK) h1
     subst hks hq
     have HV1:=hide hv1
     clear hv1 h1
     go_wp2_with (go_at_call 119;refine hsk.mono ?_;rintro e w3 ⟨rfl,rfl⟩)
     refine bodyPost_ret (v:=v1.val) (by simp [results,Tryz.results91,go_sem,Nv.val, *]) rfl ?_
     rw [uh HE]
     exact fin8 (uh HX) hg (uh HV1) (by omega)
    ·have h2:¬ ((ks.length:Int)=1):=by omega
     have hj:jnT 3 ks=.mk 0 ⟨#[]⟩ [] [] 0 0 3 ks:=by
      unfold jnT
      split
      ·simp at h1
      ·rfl
     have HJ:=hide hj
     clear hj h1
     go_wp2_with (go_at_call 119;refine hsk.mono ?_;rintro e w3 ⟨rfl,rfl⟩)
     refine bodyPost_ret (v:=.agg #[.int .i64 0,.string ⟨#[]⟩,.slice none 0 0,.slice none 0 0,.int .i64 0,.int .i64 0,.int .i64 3,.slice q ks.length c]) (by simp [results,Tryz.results91,go_sem, *]) rfl ?_
     rw [uh HE,uh HJ]
     have h9:=fin8 (uh HX) hg (kd_many 3 (uh HK)) (by omega)
     simp only [Nv.val] at h9
     exact h9
   | some r2 =>
    have hsk:=skip_yes g en ⟨#[38]⟩ l1 r2 wr (uh HX).1 hs
    have e2:=skL_len hs
    have hr2:r2.length<=n:=by omega
    cases ef:f r2 with
    | bad p =>
     have HE:=hide ((uh HC).bad (op:=3) hs ef)
     have EF:=hide ef
     clear hs ef e2
     go_wp2_with first
      | (go_at_call 119;refine hsk.mono ?_;rintro e w3 ⟨rfl,hx⟩;have X3:=hide ((uh HX).trans hx);clear hx)
      | (go_at_call 120;refine (uh HF r2 _ hr2 (uh X3).1).mono ?_;rintro e w4 hq;obtain ⟨rfl,hx⟩:=hq.bad (uh EF);have X4:=hide hx;clear hx hq;simp only [refusal])
     exact ⟨rfl,by rw [uh HE];exact ⟨rfl,gr_z ((uh X3).2.trans (uh X4))⟩⟩
    | ok x2 r3 =>
     have e3:=uh HFL r2 x2 r3 ef
     have HC2:=hide ((uh HC).more hs ef (by omega))
     have EF:=hide ef
     have HLN:=hide (uh HX).1.ln
     have E2:=hide e2
     have E3:=hide e3
     have hbd:ks.length + 1<=n:=by omega
     have HLEN:=hide hlen
     clear hs ef e2 e3 hlen
     go_wp2_with first
      | (go_at_call 119;refine hsk.mono ?_;rintro e w3 ⟨rfl,hx⟩;have X3:=hide ((uh HX).trans hx);have HK3:=hide ((uh HK).far hx.2 (by omega));have hs3:=hx.2.size;have HS3:=hide hs3;clear hx hs3)
      | (go_at_call 120;refine (uh HF r2 _ hr2 (uh X3).1).mono ?_;rintro e w4 hq;obtain ⟨⟨v,rfl,hv⟩,hx⟩:=hq.ok (uh EF);have X4:=hide ((uh X3).trans hx);have G4:=hide hx.2;have HV:=hide hv;have HS4:=hide hx.2.size;obtain ⟨us,hu,ho,hf⟩:=uh HK3;have HU:=hide hu;have HO:=hide ho;have HFF:=hide hf;clear hx hv hq hu ho hf;unfold Nv.val)
      | (at_builtin;refine wpList_appG rowV rfl _ _ rfl (w.heap.size + 1) q c us ⟨w4.heap.size,0,none⟩ 1 [v] ks.length 1 (ks.length + 1) (uh HU) rfl rfl rfl rfl (OwnK.below (own_far (uh HO) (uh G4) (by omega)) ((Below.refl _ _).alloc (Nat.le_refl _) (.cells #[.int .i64 v.kind,.string v.attr,.slice v.qi v.ni v.ci,.slice v.qw v.nw v.cw,.int .i64 v.lo,.int .i64 v.hi,.int .i64 v.op,.slice v.qk v.nk v.ck] 29))) (oneV (box_nw _ _)) (by unfold maxLen;omega) (by omega) (by have a1:=uh HS3;have a2:=uh HS4;simp;omega) ?_;intro q2 cap2 w6 hown2 hb2 hg2 hor2;have HO2:=hide hown2;have HB2:=hide hb2;have HG2:=hide hg2;have HR2:=hide hor2;clear hown2 hb2 hg2 hor2)
     have e2:=uh E2
     have e3:=uh E3
     have hlen:=uh HLEN
     have hx6:Nx g en r3 (w.alloc (.cells #[.int .i64 0,.string ⟨#[]⟩,.slice none 0 0,.slice none 0 0,.int .i64 0,.int .i64 0,.int .i64 0,.slice none 0 0] 29)) w6:=Nx.low ((uh X4).bel ((Below.refl _ _).alloc (Nat.le_refl _) (.cells #[.int .i64 v.kind,.string v.attr,.slice v.qi v.ni v.ci,.slice v.qw v.nw v.cw,.int .i64 v.lo,.int .i64 v.hi,.int .i64 v.op,.slice v.qk v.nk v.ck] 29))) (uh HB2) (by simp) (by omega)
     have hk6:=kd_snoc (uh HU) (uh HO) (uh HFF) (uh G4) (by omega) (uh HV) (by have a1:=uh HS3;omega) (uh HO2) (uh HG2) (uh HR2)
     exact ⟨⟨ks ++ [x2],r3,q2,cap2,by simp,hk6,hx6,uh HC2,by simp;omega⟩,by rw [hx6.1.ln,uh HLN];omega⟩
set_option maxHeartbeats 4000000 in
theorem joined92 (g:Nat) (en:Int) (n:Nat) (f:List Tk->Rs Nd) (hn:n<=1000000) (hF:∀ (l':List Tk) (W:World),l'.length<=n->Ps W g en l'->Calls Tryz.prog 92 #[.pointer (some ⟨g,0,none⟩)] W fun e w'=>NdR g en W (f l') e w') (hfl:∀ l' x r,f l'=.ok x r->r.length + 1<=l'.length) (l:List Tk) (hl:l.length<=n) (w:World) (hp:Ps w g en l) :
  Calls Tryz.prog 91 #[.pointer (some ⟨g,0,none⟩),.int .i64 4,.string ⟨#[124]⟩,.func (.func 92) #[.pointer (some ⟨g,0,none⟩)] #[]] w fun e w'=>NdR g en w (chL 4 ⟨#[124]⟩ f l) e w':=by
 have hg:=hp.lt
 have h0:=hp.z
 have hc1:=hF l _ hl h0.1
 cases ef:f l with
 | bad p =>
  have hx:chL 4 ⟨#[124]⟩ f l=.bad p:=by simp only [chL,ef]
  rw [hx]
  have EF:=hide ef
  have H0:=hide h0
  clear hp ef hx h0 hF hfl
  go_enter Tryz.func91,Tryz.ntmps91
  go_wp2_with (go_at_call 92;refine hc1.mono ?_;rintro e w1 hq;obtain ⟨rfl,hx⟩:=hq.bad (uh EF);have X1:=hide hx;clear hx hq;simp only [refusal])
  exact ⟨rfl,rfl,gr_z (uh X1)⟩
 | ok x r =>
  have hr:=hfl l x r ef
  have HC:=hide (Ch.first (s:=⟨#[124]⟩) ef)
  have EF:=hide ef
  have H0:=hide h0
  have HF:=hide hF
  have HFL:=hide hfl
  clear hp ef h0 hF hfl
  go_enter Tryz.func91,Tryz.ntmps91
  go_wp2_with (go_at_call 92;refine hc1.mono ?_;rintro e w1 hq;obtain ⟨⟨v,rfl,hv⟩,hx⟩:=hq.ok (uh EF);have X1:=hide hx;have HV:=hide hv;clear hx hv hq;unfold Nv.val)
  have hs1:=(uh X1).2.size
  simp at hs1
  have HK:=hide (Kd.one (B:=w.heap.size + 1) (by have:=uh HV;simpa using this) hs1)
  have HX:=hide ((uh X1).bel ((Below.refl _ _).alloc (Nat.le_refl _) (.cells #[.int .i64 v.kind,.string v.attr,.slice v.qi v.ni v.ci,.slice v.qw v.nw v.cw,.int .i64 v.lo,.int .i64 v.hi,.int .i64 v.op,.slice v.qk v.nk v.ck] 29)))
  clear X1 HV hc1 hs1
  go_loopw [9] (fun u wr=>∃ (ks:List Nd) (l1:List Tk) (q:Option Addr) (c:Nat),u=.slice q ks.length c/\Kd (w.heap.size + 1) ks q c wr/\Nx g en l1 (w.alloc (.cells #[.int .i64 0,.string ⟨#[]⟩,.slice none 0 0,.slice none 0 0,.int .i64 0,.int .i64 0,.int .i64 0,.slice none 0 0] 29)) wr/\Ch ⟨#[124]⟩ f l x r ks l1/\ks.length + l1.length<=n) (fun _ wr=>lnAt g wr)
  case atStart=>exact ⟨[x],r,_,_,rfl,uh HK,uh HX,uh HC,by simp;omega⟩
  case round =>
   clear HK HX HC EF H0
   obtain ⟨ks,l1,q,c,rfl,hk,hx,hch,hlen⟩:=hrel
   have HK:=hide hk
   have HX:=hide hx
   have HC:=hide hch
   have hws:=hx.2.size
   simp at hws
   clear hk hx hch
   cases hs:skL ⟨#[124]⟩ l1 with
   | none =>
    have hsk:=skip_no g en ⟨#[124]⟩ l1 wr (uh HX).1 hs
    have HE:=hide ((uh HC).done (op:=4) hs)
    obtain ⟨z1,⟨q0,q1,q2,q3,q4,q5,q6,q7⟩,qf⟩:=res8 (uh HX).2 hg
    clear hs
    by_cases h1:ks.length=1
    ·obtain ⟨x1,v1,b1,hks,hq,hv1,k0,k1,k2,k3,k4,k5,k6,k7⟩:=kd_one (uh HK) h1
     subst hks hq
     have HV1:=hide hv1
     clear hv1 h1
     go_wp2_with (go_at_call 119;refine hsk.mono ?_;rintro e w3 ⟨rfl,rfl⟩)
     refine bodyPost_ret (v:=v1.val) (by simp [results,Tryz.results91,go_sem,Nv.val, *]) rfl ?_
     rw [uh HE]
     exact fin8 (uh HX) hg (uh HV1) (by omega)
    ·have h2:¬ ((ks.length:Int)=1):=by omega
     have hj:jnT 4 ks=.mk 0 ⟨#[]⟩ [] [] 0 0 4 ks:=by
      unfold jnT
      split
      ·simp at h1
      ·rfl
     have HJ:=hide hj
     clear hj h1
     go_wp2_with (go_at_call 119;refine hsk.mono ?_;rintro e w3 ⟨rfl,rfl⟩)
     refine bodyPost_ret (v:=.agg #[.int .i64 0,.string ⟨#[]⟩,.slice none 0 0,.slice none 0 0,.int .i64 0,.int .i64 0,.int .i64 4,.slice q ks.length c]) (by simp [results,Tryz.results91,go_sem, *]) rfl ?_
     rw [uh HE,uh HJ]
     have h9:=fin8 (uh HX) hg (kd_many 4 (uh HK)) (by omega)
     simp only [Nv.val] at h9
     exact h9
   | some r2 =>
    have hsk:=skip_yes g en ⟨#[124]⟩ l1 r2 wr (uh HX).1 hs
    have e2:=skL_len hs
    have hr2:r2.length<=n:=by omega
    cases ef:f r2 with
    | bad p =>
     have HE:=hide ((uh HC).bad (op:=4) hs ef)
     have EF:=hide ef
     clear hs ef e2
     go_wp2_with first
      | (go_at_call 119;refine hsk.mono ?_;rintro e w3 ⟨rfl,hx⟩;have X3:=hide ((uh HX).trans hx);clear hx)
      | (go_at_call 92;refine (uh HF r2 _ hr2 (uh X3).1).mono ?_;rintro e w4 hq;obtain ⟨rfl,hx⟩:=hq.bad (uh EF);have X4:=hide hx;clear hx hq;simp only [refusal])
     exact ⟨rfl,by rw [uh HE];exact ⟨rfl,gr_z ((uh X3).2.trans (uh X4))⟩⟩
    | ok x2 r3 =>
     have e3:=uh HFL r2 x2 r3 ef
     have HC2:=hide ((uh HC).more hs ef (by omega))
     have EF:=hide ef
     have HLN:=hide (uh HX).1.ln
     have E2:=hide e2
     have E3:=hide e3
     have hbd:ks.length + 1<=n:=by omega
     have HLEN:=hide hlen
     clear hs ef e2 e3 hlen
     go_wp2_with first
      | (go_at_call 119;refine hsk.mono ?_;rintro e w3 ⟨rfl,hx⟩;have X3:=hide ((uh HX).trans hx);have HK3:=hide ((uh HK).far hx.2 (by omega));have hs3:=hx.2.size;have HS3:=hide hs3;clear hx hs3)
      | (go_at_call 92;refine (uh HF r2 _ hr2 (uh X3).1).mono ?_;rintro e w4 hq;obtain ⟨⟨v,rfl,hv⟩,hx⟩:=hq.ok (uh EF);have X4:=hide ((uh X3).trans hx);have G4:=hide hx.2;have HV:=hide hv;have HS4:=hide hx.2.size;obtain ⟨us,hu,ho,hf⟩:=uh HK3;have HU:=hide hu;have HO:=hide ho;have HFF:=hide hf;clear hx hv hq hu ho hf;unfold Nv.val)
      | (at_builtin;refine wpList_appG rowV rfl _ _ rfl (w.heap.size + 1) q c us ⟨w4.heap.size,0,none⟩ 1 [v] ks.length 1 (ks.length + 1) (uh HU) rfl rfl rfl rfl (OwnK.below (own_far (uh HO) (uh G4) (by omega)) ((Below.refl _ _).alloc (Nat.le_refl _) (.cells #[.int .i64 v.kind,.string v.attr,.slice v.qi v.ni v.ci,.slice v.qw v.nw v.cw,.int .i64 v.lo,.int .i64 v.hi,.int .i64 v.op,.slice v.qk v.nk v.ck] 29))) (oneV (box_nw _ _)) (by unfold maxLen;omega) (by omega) (by have a1:=uh HS3;have a2:=uh HS4;simp;omega) ?_;intro q2 cap2 w6 hown2 hb2 hg2 hor2;have HO2:=hide hown2;have HB2:=hide hb2;have HG2:=hide hg2;have HR2:=hide hor2;clear hown2 hb2 hg2 hor2)
     have e2:=uh E2
     have e3:=uh E3
     have hlen:=uh HLEN
     have hx6:Nx g en r3 (w.alloc (.cells #[.int .i64 0,.string ⟨#[]⟩,.slice none 0 0,.slice none 0 0,.int .i64 0,.int .i64 0,.int .i64 0,.slice none 0 0] 29)) w6:=Nx.low ((uh X4).bel ((Below.refl _ _).alloc (Nat.le_refl _) (.cells #[.int .i64 v.kind,.string v.attr,.slice v.qi v.ni v.ci,.slice v.qw v.nw v.cw,.int .i64 v.lo,.int .i64 v.hi,.int .i64 v.op,.slice v.qk v.nk v.ck] 29))) (uh HB2) (by simp) (by omega)
     have hk6:=kd_snoc (uh HU) (uh HO) (uh HFF) (uh G4) (by omega) (uh HV) (by have a1:=uh HS3;omega) (uh HO2) (uh HG2) (uh HR2)
     exact ⟨⟨ks ++ [x2],r3,q2,cap2,by simp,hk6,hx6,uh HC2,by simp;omega⟩,by rw [hx6.1.ln,uh HLN];omega⟩
end Go.Proofs.YtencibjmiphinaaGreatDoor

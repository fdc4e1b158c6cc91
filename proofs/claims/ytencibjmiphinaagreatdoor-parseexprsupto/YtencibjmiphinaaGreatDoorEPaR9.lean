/- The document's reader: operands with a sign between. -/
import Derived.Test.YtencibjmiphinaaGreatDoorEPaR8
import Derived.Deep.CutBlock
namespace Go.Proofs.YtencibjmiphinaaGreatDoor
open Go.RowKit Go.Sort

/-- An operand, and those behind it. -/
def nkP (s:ByteArray) (f:Pz Nd) (ks:List Nd):Pz (List Nd):=fun l=>(f l).bnd fun x=>chP s f (ks ++ [x])
theorem chL_nk (op:Int) (s:ByteArray) (f:Pz Nd) (l:List Tk):chL op s f l=(nkP s f [] l).bnd fun ks r'=>.ok (jnT op ks) r':=by
 rw [chL_eq]
 show (f l).bnd _=_
 unfold nkP
 cases f l <;> rfl
theorem nk_more {s:ByteArray} {f:Int→Pz Nd} {ks:List Nd} {L:List Tk} {i j:Nat} {b:Bool} {x:Nd} (hd:∀ en,Dec (f en)) (hm:∀ en,Mt en L (f en (L.drop i)) x j b) (hs:isS s b (L.drop j)=true):b=false∧(∀ en,nkP s (f en) ks (L.drop i)=nkP s (f en) (ks ++ [x]) (L.drop (j + 1)))∧j + 1≤L.length∧i < j:=by
 obtain ⟨rfl,r,hr⟩:=isS_some hs
 obtain ⟨t,h3,_⟩:=skL_is hr
 have e2:L.drop (j + 1)=r:=by rw [← List.tail_drop,h3];rfl
 have hl:=skL_len hr
 have ho:∀ en,f en (L.drop i)=.ok x (L.drop j):=fun en=>by
  have:=hm en
  cases e:f en (L.drop i) with
  | bad p=>rw [e] at this;exact absurd this.1 (by decide)
  | ok t r =>
   rw [e] at this
   obtain ⟨_,rfl,rfl⟩:=this
   rfl
 have hl2:=hd 0 _ _ _ (ho 0)
 simp at hl hl2
 refine ⟨rfl,fun en=>?_,by omega,by omega⟩
 unfold nkP
 rw [ho en]
 show chP s (f en) (ks ++ [x]) (L.drop j)=_
 rw [chP_eq (hd en)]
 simp only [brn,hr,e2]
theorem nk_end {s:ByteArray} {f:Int→Pz Nd} {ks:List Nd} {L:List Tk} {i j:Nat} {b:Bool} {x:Nd} (hd:∀ en,Dec (f en)) (hm:∀ en,Mt en L (f en (L.drop i)) x j b) (hs:isS s b (L.drop j)=false) (en:Int):Mt en L (nkP s (f en) ks (L.drop i)) (ks ++ [x]) j b:=by
 refine (hm en).bnd (fun hb=>?_) fun hb=>⟨rfl,hb⟩
 subst hb
 rw [chP_eq (hd en)]
 simp only [brn,isS_none hs]
 exact Mt.ret _
/-- Where the reader stands, read off its box. -/
def atR (g:Nat) (w:World):Nat:=match w.cell? ⟨g,1,none⟩ with
 | some (.int _ n)=>n.toNat
 | _=>0
theorem Rd.at {w:World} {g i:Nat} {L:List Tk} {bad:Bool} (h:Rd w g L i bad):atR g w=i:=by
 obtain ⟨q,c,h0,_⟩:=h
 unfold atR;rw [(of3 h0).2.1];simp
set_option maxRecDepth 100000 in
set_option maxHeartbeats 4000000 in
theorem chain3 (g:Nat) (L:List Tk) (n:Nat) (hn:n≤1000000) (hF:∀ (i:Nat) (W:World),(L.drop i).length≤n→Rd W g L i false→Calls Tryz.prog 56 #[.pointer (some ⟨g,0,none⟩)] W fun e w'=>NdA g L i oneP W e w') (hd:∀ en,Dec (oneP en)) (i:Nat) (hl:(L.drop i).length≤n) (w:World) (h:Rd w g L i false) :
  Calls Tryz.prog 27 #[.pointer (some ⟨g,0,none⟩),.int .i64 3] w fun e w'=>NdA g L i (fun en=>chL 3 ⟨#[38]⟩ (oneP en)) w e w':=by
 have hg:=h.lt
 have hll:=h.le.2
 have H0:=hide h.z
 have HF:=hide hF
 have HD:=hide hd
 clear h hF hd
 go_enter Tryz.func27,Tryz.ntmps27
 go_wp2
 go_loopw [6] (fun u wr=>∃ (ks:List Nd) (i1:Nat) (q:Option Addr) (c:Nat),u=.slice q ks.length c∧Kd (w.heap.size + 1) ks q c wr∧Rx g L i1 false (w.alloc (.cells #[.int .i64 0,.string ⟨#[]⟩,.slice none 0 0,.slice none 0 0,.int .i64 0,.int .i64 0,.int .i64 0,.slice none 0 0] 29)) wr∧(∀ en,nkP ⟨#[38]⟩ (oneP en) [] (L.drop i)=nkP ⟨#[38]⟩ (oneP en) ks (L.drop i1))∧ks.length + (L.drop i1).length≤n∧i1≤L.length) (fun _ wr=>L.length - atR g wr)
 case atStart=>exact ⟨[],i,none,0,rfl,Kd.nil _ _,⟨uh H0,grown_bel (RowKit.Below.refl _ _) _⟩,fun _=>rfl,by simpa using hl,(uh H0).le.1⟩
 case round =>
  clear H0
  obtain ⟨ks,i1,q,c,rfl,hk,hx,hm,hlen,hil⟩:=hrel
  have HK:=hide hk
  have HX:=hide hx
  have HM0:=hide hm
  have hat:=hx.1.at
  have hws:=hx.2.size
  simp at hws
  have hl1:(L.drop i1).length≤n:=by omega
  have HL1:=hide hl1
  simp at hlen
  have hbd:ks.length + 1≤1000000 ∨ n≤1000000:=Or.inr hn
  have hbk:ks.length≤1000000:=by omega
  have HAT:=hide hat
  have HLEN:=hide hlen
  clear hk hx hm hl1 hlen hbd hat
  go_upto_region 8 with (first
   | (go_at_call 56;refine (uh HF i1 _ (uh HL1) (uh HX).1).mono ?_;rintro e w4 ⟨x,j,b,⟨v,rfl,hv,hr⟩,hm⟩;have X4:=hide ((uh HX).trans hr);have G4:=hide hr.2;have HV:=hide hv;have HS4:=hide hr.2.size;have HM:=hide hm;obtain ⟨us,hu,ho,hf⟩:=uh HK;have HU:=hide hu;have HO:=hide ho;have HFF:=hide hf;clear hr hv hm hu ho hf;unfold Nv.val)
   | (at_builtin;refine wpList_appG rowV rfl _ _ rfl (w.heap.size + 1) q c us ⟨w4.heap.size,0,none⟩ 1 [v] ks.length 1 (ks.length + 1) (uh HU) rfl rfl rfl rfl (OwnK.below (own_far (uh HO) (uh G4) (by omega)) ((RowKit.Below.refl _ _).alloc (Nat.le_refl _) (.cells #[.int .i64 v.kind,.string v.attr,.slice v.qi v.ni v.ci,.slice v.qw v.nw v.cw,.int .i64 v.lo,.int .i64 v.hi,.int .i64 v.op,.slice v.qk v.nk v.ck] 29))) (oneV (box_nw _ _)) (by unfold maxLen;omega) (by omega) (by have a2:=uh HS4;simp;omega) ?_;intro q2 cap2 w6 hown2 hb2 hg2 hor2;have HO2:=hide hown2;have HB2:=hide hb2;have HG2:=hide hg2;have HR2:=hide hor2;clear hown2 hb2 hg2 hor2))
  have K6:=hide (kd_snoc (uh HU) (uh HO) (uh HFF) (uh G4) (by omega) (uh HV) (by omega) (uh HO2) (uh HG2) (uh HR2))
  have hs4:=(uh X4).2.size
  simp at hs4
  have X6:Rx g L j b (w.alloc (.cells #[.int .i64 0,.string ⟨#[]⟩,.slice none 0 0,.slice none 0 0,.int .i64 0,.int .i64 0,.int .i64 0,.slice none 0 0] 29)) w6:=Rx.lowr ((uh X4).bel ((RowKit.Below.refl _ _).alloc (Nat.le_refl _) (.cells #[.int .i64 v.kind,.string v.attr,.slice v.qi v.ni v.ci,.slice v.qw v.nw v.cw,.int .i64 v.lo,.int .i64 v.hi,.int .i64 v.op,.slice v.qk v.nk v.ck] 29))) (uh HB2) (by simp) (by omega)
  have HX6:=hide X6
  clear X6 HB2 HG2 HR2 HO2 HU HO HFF G4 X4 hs4
  cases hs:isS ⟨#[38]⟩ b (L.drop j) with
  | true =>
   obtain ⟨rfl,h2,h3,h4⟩:=nk_more (ks:=ks) (uh HD) (uh HM) hs
   have HE:=hide (fun en=>(uh HM0 en).trans (h2 en))
   have HS:=hide hs
   have H3:=hide h3
   have H4:=hide h4
   have a0:(j:Int)≤4096:=by omega
   clear hs h2 h3 h4
   go_wp2_with (go_at_call 57;refine (is_any g L j false _ _ (uh HX6).1).mono ?_;rintro e w7 ⟨rfl,hb⟩;have X7:=hide ((uh HX6).bel hb);have K7:=hide (Kd.far (uh K6) (grown_bel hb (some g)) (by omega));obtain ⟨q9,c9,_,_,_,_,c1,c2,cf,_⟩:=(uh X7).1.cells;clear hb;rw [uh HS])
   go_roundw
   have r8:=(uh X7).1.inc (uh H3)
   have h4:=uh H4
   have h3:=uh H3
   have hlen:=uh HLEN
   case rel=>exact ⟨ks ++ [x],j + 1,q2,cap2,by simp,(uh K7).far r8.2 (by omega),(uh X7).trans r8,uh HE,by simp;omega,h3⟩
   case measure=>have h8:=((uh X7).trans ((uh X7).1.inc (uh H3))).1.at;have h9:=uh HAT;have h4:=uh H4;have h3:=uh H3;rw [h8,h9];omega
  | false =>
   have HE:=hide (fun en=>nk_end (ks:=ks) (uh HD) (uh HM) hs en)
   have HS:=hide hs
   clear hs
   by_cases h1:ks.length=0
   ·have h2:(ks ++ [x]).length=1:=by simp [h1]
    obtain ⟨x1,v1,b1,hks,hq,_⟩:=kd_one (uh K6) h2
    subst hq
    have HKS:=hide hks
    have H2:=hide h2
    have hb1:(((ks.length:Int) + 1) == 1)=true:=by simp [h1]
    have hb2:(((ks.length + 1:Nat):Int) == 1)=true:=by simp [h1]
    have hb3:(0:Int) < (ks.length:Int) + 1:=by omega
    clear hks h1 h2
    go_wp2_with (go_at_call 57;refine (is_any g L j b _ _ (uh HX6).1).mono ?_;rintro e w7 ⟨rfl,hb⟩;have X7:=hide ((uh HX6).bel hb);have K7:=hide (Kd.far (uh K6) (grown_bel hb (some g)) (by omega));obtain ⟨x9,v9,b9,hk9,hq9,hv9,k0,k1,k2,k3,k4,k5,k6,k7⟩:=kd_one (uh K7) (uh H2);obtain rfl:b9=b1:=(by cases hq9;rfl);have HK9:=hide hk9;have HV9:=hide hv9;obtain ⟨z1,⟨y0,y1,y2,y3,y4,y5,y6,y7⟩,yf⟩:=res8 (uh X7).2 hg;clear hb hk9 hq9 hv9;rw [uh HS])
    refine bodyPost_ret (v:=v9.val) (by simp [results,Tryz.results27,go_sem,Nv.val, *]) rfl ?_
    refine ⟨x9,j,b,fin8R (uh X7) hg (uh HV9) (by omega),fun en=>?_⟩
    show Mt en L (chL 3 ⟨#[38]⟩ (oneP en) (L.drop i)) x9 j b
    rw [chL_nk,uh HM0 en]
    refine (uh HE en).bnd (fun hb=>?_) fun hb=>⟨rfl,hb⟩
    subst hb
    rw [uh HK9]
    exact Mt.ret _
   ·have hb1:(((ks.length:Int) + 1) == 1)=false:=by rw [beq_eq_false_iff_ne];omega
    have hb2:(((ks.length + 1:Nat):Int) == 1)=false:=by rw [beq_eq_false_iff_ne];omega
    have hj:jnT 3 (ks ++ [x])=.mk 0 ⟨#[]⟩ [] [] 0 0 3 (ks ++ [x]):=by
     unfold jnT
     split
     ·rename_i h
      have:=congrArg List.length h
      rw [List.length_append] at this
      simp only [List.length_cons,List.length_nil] at this
      omega
     ·rfl
    have HJ:=hide hj
    clear hj h1
    go_wp2_with (go_at_call 57;refine (is_any g L j b _ _ (uh HX6).1).mono ?_;rintro e w7 ⟨rfl,hb⟩;have X7:=hide ((uh HX6).bel hb);have K7:=hide (Kd.far (uh K6) (grown_bel hb (some g)) (by omega));obtain ⟨z1,⟨y0,y1,y2,y3,y4,y5,y6,y7⟩,yf⟩:=res8 (uh X7).2 hg;clear hb;rw [uh HS])
    have h9:=fin8R (uh X7) hg (kd_many 3 (uh K7)) (Nat.lt_succ_self _)
    rw [List.length_append] at h9
    simp only [Nv.val,List.length_cons,List.length_nil,Nat.zero_add] at h9
    refine bodyPost_ret (v:=.agg #[.int .i64 0,.string ⟨#[]⟩,.slice none 0 0,.slice none 0 0,.int .i64 0,.int .i64 0,.int .i64 3,.slice q2 (ks.length + 1) cap2]) (by simp [results,Tryz.results27,go_sem, *]) rfl ?_
    refine ⟨_,j,b,h9,fun en=>?_⟩
    show Mt en L (chL 3 ⟨#[38]⟩ (oneP en) (L.drop i)) _ j b
    rw [chL_nk,uh HM0 en]
    refine (uh HE en).bnd (fun hb=>?_) fun hb=>⟨rfl,hb⟩
    subst hb
    rw [uh HJ]
    exact Mt.ret _
set_option maxRecDepth 100000 in
set_option maxHeartbeats 4000000 in
theorem chain4 (g:Nat) (L:List Tk) (n:Nat) (hn:n≤1000000) (hF:∀ (i:Nat) (W:World),(L.drop i).length≤n→Rd W g L i false→Calls Tryz.prog 27 #[.pointer (some ⟨g,0,none⟩),.int .i64 3] W fun e w'=>NdA g L i andP W e w') (hd:∀ en,Dec (andP en)) (i:Nat) (hl:(L.drop i).length≤n) (w:World) (h:Rd w g L i false) :
  Calls Tryz.prog 27 #[.pointer (some ⟨g,0,none⟩),.int .i64 4] w fun e w'=>NdA g L i (fun en=>chL 4 ⟨#[124]⟩ (andP en)) w e w':=by
 have hg:=h.lt
 have hll:=h.le.2
 have H0:=hide h.z
 have HF:=hide hF
 have HD:=hide hd
 clear h hF hd
 go_enter Tryz.func27,Tryz.ntmps27
 go_wp2
 go_loopw [6] (fun u wr=>∃ (ks:List Nd) (i1:Nat) (q:Option Addr) (c:Nat),u=.slice q ks.length c∧Kd (w.heap.size + 1) ks q c wr∧Rx g L i1 false (w.alloc (.cells #[.int .i64 0,.string ⟨#[]⟩,.slice none 0 0,.slice none 0 0,.int .i64 0,.int .i64 0,.int .i64 0,.slice none 0 0] 29)) wr∧(∀ en,nkP ⟨#[124]⟩ (andP en) [] (L.drop i)=nkP ⟨#[124]⟩ (andP en) ks (L.drop i1))∧ks.length + (L.drop i1).length≤n∧i1≤L.length) (fun _ wr=>L.length - atR g wr)
 case atStart=>exact ⟨[],i,none,0,rfl,Kd.nil _ _,⟨uh H0,grown_bel (RowKit.Below.refl _ _) _⟩,fun _=>rfl,by simpa using hl,(uh H0).le.1⟩
 case round =>
  clear H0
  obtain ⟨ks,i1,q,c,rfl,hk,hx,hm,hlen,hil⟩:=hrel
  have HK:=hide hk
  have HX:=hide hx
  have HM0:=hide hm
  have hat:=hx.1.at
  have hws:=hx.2.size
  simp at hws
  have hl1:(L.drop i1).length≤n:=by omega
  have HL1:=hide hl1
  simp at hlen
  have hbd:ks.length + 1≤1000000 ∨ n≤1000000:=Or.inr hn
  have hbk:ks.length≤1000000:=by omega
  have HAT:=hide hat
  have HLEN:=hide hlen
  clear hk hx hm hl1 hlen hbd hat
  go_upto_region 8 with (first
   | (go_at_call 27;refine (uh HF i1 _ (uh HL1) (uh HX).1).mono ?_;rintro e w4 ⟨x,j,b,⟨v,rfl,hv,hr⟩,hm⟩;have X4:=hide ((uh HX).trans hr);have G4:=hide hr.2;have HV:=hide hv;have HS4:=hide hr.2.size;have HM:=hide hm;obtain ⟨us,hu,ho,hf⟩:=uh HK;have HU:=hide hu;have HO:=hide ho;have HFF:=hide hf;clear hr hv hm hu ho hf;unfold Nv.val)
   | (at_builtin;refine wpList_appG rowV rfl _ _ rfl (w.heap.size + 1) q c us ⟨w4.heap.size,0,none⟩ 1 [v] ks.length 1 (ks.length + 1) (uh HU) rfl rfl rfl rfl (OwnK.below (own_far (uh HO) (uh G4) (by omega)) ((RowKit.Below.refl _ _).alloc (Nat.le_refl _) (.cells #[.int .i64 v.kind,.string v.attr,.slice v.qi v.ni v.ci,.slice v.qw v.nw v.cw,.int .i64 v.lo,.int .i64 v.hi,.int .i64 v.op,.slice v.qk v.nk v.ck] 29))) (oneV (box_nw _ _)) (by unfold maxLen;omega) (by omega) (by have a2:=uh HS4;simp;omega) ?_;intro q2 cap2 w6 hown2 hb2 hg2 hor2;have HO2:=hide hown2;have HB2:=hide hb2;have HG2:=hide hg2;have HR2:=hide hor2;clear hown2 hb2 hg2 hor2))
  have K6:=hide (kd_snoc (uh HU) (uh HO) (uh HFF) (uh G4) (by omega) (uh HV) (by omega) (uh HO2) (uh HG2) (uh HR2))
  have hs4:=(uh X4).2.size
  simp at hs4
  have X6:Rx g L j b (w.alloc (.cells #[.int .i64 0,.string ⟨#[]⟩,.slice none 0 0,.slice none 0 0,.int .i64 0,.int .i64 0,.int .i64 0,.slice none 0 0] 29)) w6:=Rx.lowr ((uh X4).bel ((RowKit.Below.refl _ _).alloc (Nat.le_refl _) (.cells #[.int .i64 v.kind,.string v.attr,.slice v.qi v.ni v.ci,.slice v.qw v.nw v.cw,.int .i64 v.lo,.int .i64 v.hi,.int .i64 v.op,.slice v.qk v.nk v.ck] 29))) (uh HB2) (by simp) (by omega)
  have HX6:=hide X6
  clear X6 HB2 HG2 HR2 HO2 HU HO HFF G4 X4 hs4
  cases hs:isS ⟨#[124]⟩ b (L.drop j) with
  | true =>
   obtain ⟨rfl,h2,h3,h4⟩:=nk_more (ks:=ks) (uh HD) (uh HM) hs
   have HE:=hide (fun en=>(uh HM0 en).trans (h2 en))
   have HS:=hide hs
   have H3:=hide h3
   have H4:=hide h4
   have a0:(j:Int)≤4096:=by omega
   clear hs h2 h3 h4
   go_wp2_with (go_at_call 57;refine (is_any g L j false _ _ (uh HX6).1).mono ?_;rintro e w7 ⟨rfl,hb⟩;have X7:=hide ((uh HX6).bel hb);have K7:=hide (Kd.far (uh K6) (grown_bel hb (some g)) (by omega));obtain ⟨q9,c9,_,_,_,_,c1,c2,cf,_⟩:=(uh X7).1.cells;clear hb;rw [uh HS])
   go_roundw
   have r8:=(uh X7).1.inc (uh H3)
   have h4:=uh H4
   have h3:=uh H3
   have hlen:=uh HLEN
   case rel=>exact ⟨ks ++ [x],j + 1,q2,cap2,by simp,(uh K7).far r8.2 (by omega),(uh X7).trans r8,uh HE,by simp;omega,h3⟩
   case measure=>have h8:=((uh X7).trans ((uh X7).1.inc (uh H3))).1.at;have h9:=uh HAT;have h4:=uh H4;have h3:=uh H3;rw [h8,h9];omega
  | false =>
   have HE:=hide (fun en=>nk_end (ks:=ks) (uh HD) (uh HM) hs en)
   have HS:=hide hs
   clear hs
   by_cases h1:ks.length=0
   ·have h2:(ks ++ [x]).length=1:=by simp [h1]
    obtain ⟨x1,v1,b1,hks,hq,_⟩:=kd_one (uh K6) h2
    subst hq
    have HKS:=hide hks
    have H2:=hide h2
    have hb1:(((ks.length:Int) + 1) == 1)=true:=by simp [h1]
    have hb2:(((ks.length + 1:Nat):Int) == 1)=true:=by simp [h1]
    have hb3:(0:Int) < (ks.length:Int) + 1:=by omega
    clear hks h1 h2
    go_wp2_with (go_at_call 57;refine (is_any g L j b _ _ (uh HX6).1).mono ?_;rintro e w7 ⟨rfl,hb⟩;have X7:=hide ((uh HX6).bel hb);have K7:=hide (Kd.far (uh K6) (grown_bel hb (some g)) (by omega));obtain ⟨x9,v9,b9,hk9,hq9,hv9,k0,k1,k2,k3,k4,k5,k6,k7⟩:=kd_one (uh K7) (uh H2);obtain rfl:b9=b1:=(by cases hq9;rfl);have HK9:=hide hk9;have HV9:=hide hv9;obtain ⟨z1,⟨y0,y1,y2,y3,y4,y5,y6,y7⟩,yf⟩:=res8 (uh X7).2 hg;clear hb hk9 hq9 hv9;rw [uh HS])
    refine bodyPost_ret (v:=v9.val) (by simp [results,Tryz.results27,go_sem,Nv.val, *]) rfl ?_
    refine ⟨x9,j,b,fin8R (uh X7) hg (uh HV9) (by omega),fun en=>?_⟩
    show Mt en L (chL 4 ⟨#[124]⟩ (andP en) (L.drop i)) x9 j b
    rw [chL_nk,uh HM0 en]
    refine (uh HE en).bnd (fun hb=>?_) fun hb=>⟨rfl,hb⟩
    subst hb
    rw [uh HK9]
    exact Mt.ret _
   ·have hb1:(((ks.length:Int) + 1) == 1)=false:=by rw [beq_eq_false_iff_ne];omega
    have hb2:(((ks.length + 1:Nat):Int) == 1)=false:=by rw [beq_eq_false_iff_ne];omega
    have hj:jnT 4 (ks ++ [x])=.mk 0 ⟨#[]⟩ [] [] 0 0 4 (ks ++ [x]):=by
     unfold jnT
     split
     ·rename_i h
      have:=congrArg List.length h
      rw [List.length_append] at this
      simp only [List.length_cons,List.length_nil] at this
      omega
     ·rfl
    have HJ:=hide hj
    clear hj h1
    go_wp2_with (go_at_call 57;refine (is_any g L j b _ _ (uh HX6).1).mono ?_;rintro e w7 ⟨rfl,hb⟩;have X7:=hide ((uh HX6).bel hb);have K7:=hide (Kd.far (uh K6) (grown_bel hb (some g)) (by omega));obtain ⟨z1,⟨y0,y1,y2,y3,y4,y5,y6,y7⟩,yf⟩:=res8 (uh X7).2 hg;clear hb;rw [uh HS])
    have h9:=fin8R (uh X7) hg (kd_many 4 (uh K7)) (Nat.lt_succ_self _)
    rw [List.length_append] at h9
    simp only [Nv.val,List.length_cons,List.length_nil,Nat.zero_add] at h9
    refine bodyPost_ret (v:=.agg #[.int .i64 0,.string ⟨#[]⟩,.slice none 0 0,.slice none 0 0,.int .i64 0,.int .i64 0,.int .i64 4,.slice q2 (ks.length + 1) cap2]) (by simp [results,Tryz.results27,go_sem, *]) rfl ?_
    refine ⟨_,j,b,h9,fun en=>?_⟩
    show Mt en L (chL 4 ⟨#[124]⟩ (andP en) (L.drop i)) _ j b
    rw [chL_nk,uh HM0 en]
    refine (uh HE en).bnd (fun hb=>?_) fun hb=>⟨rfl,hb⟩
    subst hb
    rw [uh HJ]
    exact Mt.ret _
end Go.Proofs.YtencibjmiphinaaGreatDoor

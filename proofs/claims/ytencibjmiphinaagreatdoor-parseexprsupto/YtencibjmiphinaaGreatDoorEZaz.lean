/- The document's reader: a predicate: bounds, nothing. -/
import Derived.Test.YtencibjmiphinaaGreatDoorEZay
import Derived.Deep.RegionLaw
import Derived.Deep.CutBlock
namespace Go.Proofs.YtencibjmiphinaaGreatDoor
open Go.RowKit Go.Sort

set_option maxHeartbeats 4000000 in
/-- A name, and a bracket behind it. -/
theorem pred_range (g:Nat) (L:List Tk) (i i1 i2 i3 i4 i5:Nat) (b1 b2 b3 b4 b5:Bool) (t x y:Tk) (w:World) (h:Rd w g L i false) (h1:tkS L 1 i false=(t,i1,b1)) (hk:¬ kdB b1 (L.drop i1)=3) (hs:isS ⟨#[91]⟩ b1 (L.drop i1)=true) (h2:tkS L 2 (i1 + 1) b1=(x,i2,b2)) (h3:sgS L ⟨#[44]⟩ i2 b2=(i3,b3)) (h4:tkS L 2 i3 b3=(y,i4,b4)) (h5:sgS L ⟨#[93]⟩ i4 b4=(i5,b5)) :
  Calls Tryz.prog 101 #[.pointer (some ⟨g,0,none⟩)] w fun e w'=>PvR g L w (.mk 3 t.2.2.2.2 [] [] x.2.2.2.1 y.2.2.2.1 1 []) i5 b5 e w':=by
 have hg:=h.lt
 have hf4:=fld4
 have hf3:=fld3
 have hle:=h.le.2
 have hi1:i1 + 1≤L.length:=by
  obtain ⟨_,r,hr⟩:=isS_some hs
  have:=skL_len hr
  simp at this;omega
 have a0:(i1:Int)≤4096:=by omega
 have H0:=hide (h.below (bel_zp w))
 have H1:=hide h1
 have H2:=hide h2
 have H3:=hide h3
 have H4:=hide h4
 have H5:=hide h5
 obtain ⟨m,hm⟩:∃ m,kdB b1 (L.drop i1)=m:=⟨_,rfl⟩
 have HM:=hide hm
 have HS:=hide hs
 have HI:=hide hi1
 have bm:(m == 3)=false:=by rw [hm] at hk;simp [hk]
 clear h h1 h2 h3 h4 h5 hk hs hm hi1 hle
 go_enter Tryz.func101,Tryz.ntmps101
 go_wp2_with first
  | (go_at_call 123;have tst:=uh P6;clear tst;refine (take_st (by decide) (uh P6).rx.1 (uh H4)).mono ?_;rintro e w7 ⟨rfl,hx⟩;have P7:=hide ((uh P6).call hx);obtain ⟨⟨k0,k1,k2,k3,k4,k5,kf,kl⟩,⟨r0,r1,r2,r3,r4,r5,rf,rl⟩,c1,c2,cf⟩:=(uh P7).cells;clear hx;unfold tkV)
  | (go_at_call 123;have tst:=uh P4;clear tst;refine (take_st (by decide) (uh P4).rx.1 (uh H2)).mono ?_;rintro e w5 ⟨rfl,hx⟩;have P5:=hide ((uh P4).call hx);obtain ⟨⟨k0,k1,k2,k3,k4,k5,kf,kl⟩,⟨r0,r1,r2,r3,r4,r5,rf,rl⟩,c1,c2,cf⟩:=(uh P5).cells;clear hx;unfold tkV)
  | (go_at_call 123;refine (take_st (by decide) (uh H0) (uh H1)).mono ?_;rintro e w1 ⟨rfl,hx⟩;have P1:=hide (PS.start hg hx t.2.2.2.2);clear hx;unfold tkV)
  | (go_at_call 124;refine (kind_r g L i1 b1 _ (uh P1).rx.1).mono ?_;rintro e w2 ⟨rfl,hb⟩;have P2:=hide ((uh P1).bel hb);clear hb;rw [uh HM])
  | (go_at_call 57;refine (is_any g L i1 b1 _ _ (uh P2).rx.1).mono ?_;rintro e w3 ⟨rfl,hb⟩;have P3:=hide ((uh P2).bel hb);obtain ⟨⟨k0,k1,k2,k3,k4,k5,kf,kl⟩,⟨r0,r1,r2,r3,r4,r5,rf,rl⟩,c1,c2,cf⟩:=(uh P3).cells;have P4:=hide (((uh P3).inc (uh HI)).st0 (.int .i64 3));clear hb;rw [uh HS])
  | (go_at_call 100;have tst:=uh P7;clear tst;refine (sign_st ((uh P7).st5 _).rx.1 (uh H5)).mono ?_;rintro e w8 ⟨rfl,hx⟩;have P8:=hide (((uh P7).st5 _).call hx);obtain ⟨⟨k0,k1,k2,k3,k4,k5,kf,kl⟩,⟨r0,r1,r2,r3,r4,r5,rf,rl⟩,c1,c2,cf⟩:=(uh P8).cells;clear hx)
  | (go_at_call 100;refine (sign_st ((uh P5).st4 _).rx.1 (uh H3)).mono ?_;rintro e w6 ⟨rfl,hx⟩;have P6:=hide (((uh P5).st4 _).call hx);obtain ⟨⟨k0,k1,k2,k3,k4,k5,kf,kl⟩,⟨r0,r1,r2,r3,r4,r5,rf,rl⟩,c1,c2,cf⟩:=(uh P6).cells;clear hx)
 refine bodyPost_ret (v:=.agg #[.int .i64 3,.string t.2.2.2.2,.slice none 0 0,.slice none 0 0,.int .i64 x.2.2.2.1,.int .i64 y.2.2.2.1]) (by simp [results,Tryz.results101,go_sem, *]) rfl ?_
 exact (uh P8).fin (ints:=[]) (words:=[]) (SlOf.none _) rfl no_from (SlOf.none _) rfl no_from
set_option maxHeartbeats 4000000 in
/-- No brace behind the name, or no name. -/
theorem pred_none (g:Nat) (L:List Tk) (i i1 i2 i3:Nat) (b1 b3:Bool) (t:Tk) (w:World) (h:Rd w g L i false) (h1:tkS L 1 i false=(t,i1,b1)) (hk:¬ kdB b1 (L.drop i1)=3) (hs:isS ⟨#[91]⟩ b1 (L.drop i1)=false) (h2:sgS L ⟨#[123]⟩ i1 b1=(i2,true)) (h3:sgS L ⟨#[125]⟩ i2 true=(i3,b3)) :
  Calls Tryz.prog 101 #[.pointer (some ⟨g,0,none⟩)] w fun e w'=>PvR g L w (.mk 2 t.2.2.2.2 [] [] 0 0 1 []) i3 b3 e w':=by
 have hg:=h.lt
 have hf4:=fld4
 have H0:=hide (h.below (bel_zp w))
 have H1:=hide h1
 have H2:=hide h2
 have H3:=hide h3
 obtain ⟨m,hm⟩:∃ m,kdB b1 (L.drop i1)=m:=⟨_,rfl⟩
 have HM:=hide hm
 have HS:=hide hs
 have bm:(m == 3)=false:=by rw [hm] at hk;simp [hk]
 clear h h1 h2 h3 hk hs hm
 go_enter Tryz.func101,Tryz.ntmps101
 go_wp2_with first
  | (go_at_call 123;refine (take_st (by decide) (uh H0) (uh H1)).mono ?_;rintro e w1 ⟨rfl,hx⟩;have P1:=hide (PS.start hg hx t.2.2.2.2);clear hx;unfold tkV)
  | (go_at_call 124;have tst:=uh P4;clear tst;refine (kind_r g L i2 true _ (uh P4).rx.1).mono ?_;rintro e w5 ⟨rfl,hb⟩;have P5:=hide ((uh P4).bel hb);obtain ⟨⟨k0,k1,k2,k3,k4,k5,kf,kl⟩,⟨r0,r1,r2,r3,r4,r5,rf,rl⟩,c1,c2,cf⟩:=(uh P5).cells;clear hb;simp only [kdB,if_true])
  | (go_at_call 124;refine (kind_r g L i1 b1 _ (uh P1).rx.1).mono ?_;rintro e w2 ⟨rfl,hb⟩;have P2:=hide ((uh P1).bel hb);clear hb;rw [uh HM])
  | (go_at_call 57;refine (is_any g L i1 b1 _ _ (uh P2).rx.1).mono ?_;rintro e w3 ⟨rfl,hb⟩;have P3:=hide ((uh P2).bel hb);clear hb;rw [uh HS])
  | (go_at_call 100;refine (sign_st (uh P3).rx.1 (uh H2)).mono ?_;rintro e w4 ⟨rfl,hx⟩;have Q4:=hide ((uh P3).call hx);obtain ⟨⟨k0,k1,k2,k3,k4,k5,kf,kl⟩,⟨r0,r1,r2,r3,r4,r5,rf,rl⟩,c1,c2,cf⟩:=(uh Q4).cells;have P4:=hide ((uh Q4).st0 (.int .i64 2));clear hx)
 go_loopw [4] (fun v wr=>v=.int .i64 0∧wr=w5) (fun _ _=>0)
 case atStart=>exact ⟨rfl,rfl⟩
 case round =>
 obtain ⟨rfl,rfl⟩:=hrel
 go_wp2_with (go_at_call 100;refine (sign_st (uh P5).rx.1 (uh H3)).mono ?_;rintro e w6 ⟨rfl,hx⟩;have P6:=hide ((uh P5).call hx);obtain ⟨⟨k0,k1,k2,k3,k4,k5,kf,kl⟩,⟨r0,r1,r2,r3,r4,r5,rf,rl⟩,c1,c2,cf⟩:=(uh P6).cells;clear hx)
 refine bodyPost_ret (v:=.agg #[.int .i64 2,.string t.2.2.2.2,.slice none 0 0,.slice none 0 0,.int .i64 0,.int .i64 0]) (by simp [results,Tryz.results101,go_sem, *]) rfl ?_
 exact (uh P6).fin (ints:=[]) (words:=[]) (SlOf.none _) rfl no_from (SlOf.none _) rfl no_from
end Go.Proofs.YtencibjmiphinaaGreatDoor
namespace Go.Proofs.YtencibjmiphinaaGreatDoor
open Go.RowKit Go.Sort

/-- A member, and those behind it. -/
def nxP (en k:Int) (acc:List Tk):Pz (List Tk):=fun r=>if acc.length=64 then .bad (plc en r) else (ndL en k r).bnd fun t=>mbP en k (acc ++ [t])
theorem ms_nx (en k:Int) (l:List Tk):msL en k l=nxP en k [] l:=by
 rw [msL_eq];rfl
theorem nx_64 {en k:Int} {acc l:List Tk} (h:acc.length=64):nxP en k acc l=.bad (plc en l):=by simp only [nxP,h,if_true]
theorem nx_more {k:Int} {L acc:List Tk} {i j:Nat} {x:Tk} {b2:Bool} (hk:k ≠ 0) (h:¬ acc.length=64) (h2:tkS L k i false=(x,j,b2)) (hs:isS ⟨#[44]⟩ b2 (L.drop j)=true):b2=false∧∀ en,nxP en k acc (L.drop i)=nxP en k (acc ++ [x]) (L.drop (j + 1)):=by
 obtain ⟨rfl,r,hr⟩:=isS_some hs
 refine ⟨rfl,fun en=>?_⟩
 have hm:=tk_mt (en:=en) hk h2
 show (if acc.length=64 then _ else _)=_
 rw [if_neg h]
 cases e:ndL en k (L.drop i) with
 | bad p =>
  rw [e] at hm
  exact absurd hm.1 (by decide)
 | ok t q =>
  rw [e] at hm
  obtain ⟨_,rfl,rfl⟩:=hm
  show mbP en k (acc ++ [x]) (L.drop j)=_
  rw [mbP_eq]
  simp only [brn,hr]
  obtain ⟨t2,h3,_⟩:=skL_is hr
  have e2:L.drop (j + 1)=r:=by rw [← List.tail_drop,h3];rfl
  rw [e2];rfl
theorem nx_end {k:Int} {L acc:List Tk} {i j m:Nat} {x:Tk} {b2 b3:Bool} (hk:k ≠ 0) (h:¬ acc.length=64) (h2:tkS L k i false=(x,j,b2)) (hs:isS ⟨#[44]⟩ b2 (L.drop j)=false) (h3:sgS L ⟨#[125]⟩ j b2=(m,b3)) (en:Int):Mt en L (nxP en k acc (L.drop i)) (acc ++ [x]) m b3:=by
 show Mt en L (if acc.length=64 then _ else _) _ _ _
 rw [if_neg h]
 refine (tk_mt hk h2).bnd (fun hb=>?_) fun hb=>sg_stay hb h3
 subst hb
 rw [mbP_eq]
 simp only [brn,isS_none hs]
 refine (sg_mt h3).bnd (fun hb=>?_) fun hb=>⟨rfl,hb⟩
 subst hb
 exact Mt.ret _
theorem PS.like {w W W':World} {g i b:Nat} {L:List Tk} {bad:Bool} {p0 p1 p2 p3 p4 p5:Value} (h:PS w g L i bad b p0 p1 p2 p3 p4 p5 W) (e1:W'.heap=W.heap) (e2:W'.os=W.os) (e3:W'.tape=W.tape) (e4:W'.output=W.output):PS w g L i bad b p0 p1 p2 p3 p4 p5 W' :=
 ⟨⟨h.rx.1.low fun k _=>by rw [e1],⟨e2.trans h.rx.2.os,e3.trans h.rx.2.tape,e4.trans h.rx.2.output,by rw [e1];exact h.rx.2.size,fun k hk hr=>by rw [e1];exact h.rx.2.block k hk hr⟩⟩,by rw [e1];exact h.res,by rw [e1];exact h.box,h.lt,h.lb⟩
theorem PS.blw {w W W':World} {g i b:Nat} {L:List Tk} {bad:Bool} {p0 p1 p2 p3 p4 p5:Value} (h:PS w g L i bad b p0 p1 p2 p3 p4 p5 W) (k:RowKit.Below (b + 1) W W'):PS w g L i bad b p0 p1 p2 p3 p4 p5 W':=by
 have h1:=h.lt
 have h2:=h.lb
 exact ⟨⟨h.rx.1.low fun n hn=>k.block n (by omega),⟨k.os.trans h.rx.2.os,k.tape.trans h.rx.2.tape,k.output.trans h.rx.2.output,Nat.le_trans h.rx.2.size k.size,fun n hn hr=>(k.block n (by omega)).trans (h.rx.2.block n hn hr)⟩⟩,(k.block _ (by omega)).trans h.res,(k.block _ (by omega)).trans h.box,h.lt,h.lb⟩
theorem own_hp {α:Type} [Inhabited α] {enc:α→List Value} {e:TypeId} {k B:Nat} {w w':World} {q:Option Addr} {c:Nat} {l:List α} (h:w'.heap=w.heap) (ho:OwnK enc e k B w q c l):OwnK enc e k B w' q c l:=by
 cases w;cases w';cases h;exact ho
theorem src_hp {α:Type} [Inhabited α] {enc:α→List Value} {k:Nat} {w w':World} {q:Option Addr} {c:Nat} {l:List α} (h:w'.heap=w.heap) (ho:SrcK enc k w q c l):SrcK enc k w' q c l:=by
 cases w;cases w';cases h;exact ho
set_option maxRecDepth 100000 in
set_option maxHeartbeats 8000000 in
/-- A name, a brace, and numbers. -/
theorem pred_ints (g:Nat) (L:List Tk) (i i1 i2:Nat) (b1:Bool) (t:Tk) (w:World) (h:Rd w g L i false) (h1:tkS L 1 i false=(t,i1,b1)) (hk:¬ kdB b1 (L.drop i1)=3) (hs:isS ⟨#[91]⟩ b1 (L.drop i1)=false) (h2:sgS L ⟨#[123]⟩ i1 b1=(i2,false)) (h3: kdB false (L.drop i2)=2) :
  Calls Tryz.prog 101 #[.pointer (some ⟨g,0,none⟩)] w fun e w'=>∃ ts i3 b3,PvR g L w (.mk 1 t.2.2.2.2 (ts.map (·.2.2.2.1)) [] 0 0 1 []) i3 b3 e w'∧∀ en,Mt en L (msL en 2 (L.drop i2)) ts i3 b3:=by
 have hg:=h.lt
 have hf4:=fld4
 have hf3:=fld3
 have hle:=h.le.2
 have H0:=hide (h.below (bel_zp w))
 have H1:=hide h1
 have H2:=hide h2
 obtain ⟨m,hm⟩:∃ m,kdB b1 (L.drop i1)=m:=⟨_,rfl⟩
 obtain ⟨m2,hm2⟩:∃ m2,kdB false (L.drop i2)=m2:=⟨_,rfl⟩
 have HM:=hide hm
 have HM2:=hide hm2
 have HS:=hide hs
 have bm:(m == 3)=false:=by rw [hm] at hk;simp [hk]
 have bm2:(m2 == 2)=true:=by rw [hm2] at h3;simp [h3]
 clear h h1 h2 h3 hk hs hm hm2
 go_enter Tryz.func101,Tryz.ntmps101
 go_wp2_with first
  | (go_at_call 123;refine (take_st (by decide) (uh H0) (uh H1)).mono ?_;rintro e w1 ⟨rfl,hx⟩;have P1:=hide (PS.start hg hx t.2.2.2.2);clear hx;unfold tkV)
  | (go_at_call 124;have tst:=uh P4;clear tst;refine (kind_r g L i2 false _ (uh P4).rx.1).mono ?_;rintro e w5 ⟨rfl,hb⟩;have P5:=hide ((uh P4).bel hb);obtain ⟨⟨k0,k1,k2,k3,k4,k5,kf,kl⟩,⟨r0,r1,r2,r3,r4,r5,rf,rl⟩,c1,c2,cf⟩:=(uh P5).cells;clear hb;rw [uh HM2])
  | (go_at_call 124;refine (kind_r g L i1 b1 _ (uh P1).rx.1).mono ?_;rintro e w2 ⟨rfl,hb⟩;have P2:=hide ((uh P1).bel hb);clear hb;rw [uh HM])
  | (go_at_call 57;refine (is_any g L i1 b1 _ _ (uh P2).rx.1).mono ?_;rintro e w3 ⟨rfl,hb⟩;have P3:=hide ((uh P2).bel hb);clear hb;rw [uh HS])
  | (go_at_call 100;refine (sign_st (uh P3).rx.1 (uh H2)).mono ?_;rintro e w4 ⟨rfl,hx⟩;have Q4:=hide ((uh P3).call hx);obtain ⟨⟨k0,k1,k2,k3,k4,k5,kf,kl⟩,⟨r0,r1,r2,r3,r4,r5,rf,rl⟩,c1,c2,cf⟩:=(uh Q4).cells;have P4:=hide ((uh Q4).st0 (.int .i64 2));clear hx)
 have P6:=hide ((uh P5).st0 (.int .i64 1))
 obtain ⟨B,hB⟩:∃ B,w1.heap.size=B:=⟨_,rfl⟩
 rw [hB] at P6 ⊢
 clear H0 H1 H2 HM HM2 HS bm bm2 P1 P2 P3 Q4 P4 P5 k0 k1 k2 k3 k4 k5 kf kl r0 r1 r2 r3 r4 r5 rf rl c1 c2 cf
 have WS:=hide (show B + 1≤(w5.setCell ⟨B,0,none⟩ (.int .i64 1)).heap.size from (uh P6).cells.1.2.2.2.2.2.2.2)
 go_loopw [4] (fun v wr=>∃ (acc:List Tk) (j:Nat) (q:Option Addr) (c:Nat),v=.int .i64 acc.length∧acc.length≤64∧(∀ en,msL en 2 (L.drop i2)=nxP en 2 acc (L.drop j))∧PS w g L j false B (.int .i64 1) (.string t.2.2.2.2) (.slice q acc.length c) (.slice none 0 0) (.int .i64 0) (.int .i64 0) wr∧OwnK encI 3 1 (B + 1) wr q c (acc.map (·.2.2.2.1))) (fun v _=>65 - (intOf v).toNat)
 case atStart=>exact ⟨[],i2,none,0,rfl,by simp,fun en=>ms_nx en 2 _,uh P6,OwnK.nil _ _⟩
 case round =>
  clear P6 WS
  obtain ⟨acc,j,q,c,rfl,hal,hms,hps,hown⟩:=hrel
  have P6:=hide hps
  have OW:=hide hown
  have MS:=hide hms
  have hln:(acc.map (·.2.2.2.1)).length=acc.length:=by simp
  have HLN:=hide hln
  obtain ⟨⟨k0,k1,k2,k3,k4,k5,kf,kl⟩,⟨r0,r1,r2,r3,r4,r5,rf,rl⟩,c1,c2,cf⟩:=(uh P6).cells
  have KL:=hide kl
  clear hms hps hown hln
  by_cases h64:acc.length=64
  ·have b64:((acc.length:Int) == 64)=true:=by simp [h64]
   have HE:=hide (fun en=>(uh MS en).trans (nx_64 h64))
   have H3:=hide (show sgS L ⟨#[125]⟩ j true=(j,true) by obtain ⟨a,b,e⟩:∃ a b,sgS L ⟨#[125]⟩ j true=(a,b):=⟨_,_,rfl⟩;rw [e];obtain ⟨rfl,rfl⟩:=sg_stay rfl e;rfl)
   clear h64
   go_wp2_with (go_at_call 100;refine (sign_st ((uh P6).stB true).rx.1 (uh H3)).mono ?_;rintro e w6 ⟨rfl,hx⟩;have P7:=hide (((uh P6).stB true).call hx);have O7:=hide (own_far (own_far (uh OW) (grown_set1 wr g 2 (.bool true)) (by have:=(uh P6).lt;have:=(uh P6).lb;omega)) hx.2 (by have:=(uh P6).lt;have:=(uh P6).lb;omega));obtain ⟨⟨k0,k1,k2,k3,k4,k5,kf,kl⟩,⟨r0,r1,r2,r3,r4,r5,rf,rl⟩,c1,c2,cf⟩:=(uh P7).cells;clear hx)
   refine bodyPost_ret (v:=.agg #[.int .i64 1,.string t.2.2.2.2,.slice q acc.length c,.slice none 0 0,.int .i64 0,.int .i64 0]) (by simp [results,Tryz.results101,go_sem, *]) rfl ?_
   refine ⟨acc,j,true,(uh P7).fin (ints:=acc.map (·.2.2.2.1)) (words:=[]) (uh O7).ls (uh HLN) (own_from (uh O7)) (SlOf.none _) rfl no_from,fun en=>?_⟩
   rw [uh HE en];exact ⟨rfl,rfl⟩
  ·have b64:((acc.length:Int) == 64)=false:=by simp;omega
   obtain ⟨x,j2,b2,ht⟩:∃ x j2 b2,tkS L 2 j false=(x,j2,b2):=⟨_,_,_,rfl⟩
   have HT:=hide ht
   have PV:=hide (fun V e1 e2 e3 e4=>(uh P6).like (W':=V) e1 e2 e3 e4)
   have PJ:=hide ((uh P6).rx.1.le)
   have h65:acc.length≤63:=by omega
   cases hs:isS ⟨#[44]⟩ b2 (L.drop j2) with
   | true =>
    obtain ⟨hb2,hn⟩:=nx_more (by decide) h64 ht hs
    subst hb2
    have HE:=hide (fun en=>(uh MS en).trans (hn en))
    have HS:=hide hs
    have hj2:j2 + 1≤L.length:=by
     obtain ⟨_,r,hr⟩:=isS_some hs
     have:=skL_len hr
     simp at this;omega
    have HJ:=hide hj2
    have a2:(j2:Int)≤4096:=by omega
    clear h64 ht hs hn hj2 hle
    go_upto_region 25 with (fail)
    go_region_law (first
     | (refine step_app rowI (by rfl) (.tmp 67) (.tmp 71) (by rfl) (B + 1) q c (acc.map (·.2.2.2.1)) (some ⟨w5.heap.size,0,none⟩) 1 [x.2.2.2.1] acc.length 1 (acc.length + 1) (uh HLN) rfl rfl (by rfl) (by rfl) (own_hp (by rfl) (uh O6)) (src_hp (by rfl) (uh S6)) (by unfold maxLen;omega) (by omega) (by have:=uh Z6;simp;omega) ?_;intro q5 c5 w6 o5 bl5 _ _;have O7:=hide o5;have P7:=hide ((uh PV6 _ (by rfl) (by rfl) (by rfl) (by rfl)).blw bl5);obtain ⟨⟨k0,k1,k2,k3,k4,k5,kf,kl⟩,⟨r0,r1,r2,r3,r4,r5,rf,rl⟩,c1,c2,cf⟩:=(uh P7).cells;clear o5 bl5)
     | (go_simp;go_at_call 123;refine (take_st (by decide) (uh PV _ (by rfl) (by rfl) (by rfl) (by rfl)).rx.1 (uh HT)).mono ?_;rintro e w5 ⟨rfl,hx⟩;have p5:=(uh PV _ (by rfl) (by rfl) (by rfl) (by rfl)).call hx;have P5:=hide p5;have o5:=own_far (own_hp (by rfl) (uh OW)) hx.2 (by have:=(uh P6).lt;have:=(uh P6).lb;omega);have O6:=hide (OwnK.below o5 ((RowKit.Below.refl w5.heap.size w5).alloc (Nat.le_refl _) (.cells #[.int .i64 x.2.2.2.1] 3)));have S6:=hide (oneI (w:=w5.alloc (.cells #[.int .i64 x.2.2.2.1] 3)) (b:=w5.heap.size) (x:=x.2.2.2.1) (by simp) (by go_simp));have PV6:=hide (fun V e1 e2 e3 e4=>(p5.al (.cells #[.int .i64 x.2.2.2.1] 3)).like (W':=V) e1 e2 e3 e4);have Z6:=hide (show B + 1≤w5.heap.size from p5.cells.1.2.2.2.2.2.2.2);obtain ⟨⟨k0,k1,k2,k3,k4,k5,kf,kl⟩,⟨r0,r1,r2,r3,r4,r5,rf,rl⟩,c1,c2,cf⟩:=(uh P5).cells;clear hx p5 o5;unfold tkV))
    all_goals
     have P8:=hide ((uh P7).st2 (.slice q5 (acc.length + 1) c5))
     have O8:=hide (own_pastj (uh O7) 2 (.slice q5 (acc.length + 1) c5))
     clear k0 k1 k2 k3 k4 k5 kf kl r0 r1 r2 r3 r4 r5 rf rl c1 c2 cf
     go_wp2_with (go_at_call 57;refine (is_any g L j2 false _ _ (uh P8).rx.1).mono ?_;rintro e w7 ⟨rfl,hb⟩;have P9:=hide ((uh P8).bel hb);have O9:=hide (OwnK.below (uh O8) hb);obtain ⟨⟨k0,k1,k2,k3,k4,k5,kf,kl⟩,⟨r0,r1,r2,r3,r4,r5,rf,rl⟩,c1,c2,cf⟩:=(uh P9).cells;clear hb;rw [uh HS])
     go_roundw
     case rel=>exact ⟨acc ++ [x],j2 + 1,q5,c5,by simp,(by rw [List.length_append];simp only [List.length_cons,List.length_nil];omega),uh HE,by rw [List.length_append];exact (uh P9).inc (uh HJ),by rw [List.map_append];exact own_far (uh O9) ((uh P9).rx.1.inc (uh HJ)).2 (by have:=(uh P6).lt;have:=(uh P6).lb;omega)⟩
     case measure=>simp [intOf] <;> omega
   | false =>
    obtain ⟨j3,b3,h3⟩:∃ j3 b3,sgS L ⟨#[125]⟩ j2 b2=(j3,b3):=⟨_,_,rfl⟩
    have HE:=hide (fun en=>nx_end (by decide) h64 ht hs h3 en)
    have HS:=hide hs
    have H3:=hide h3
    clear h64 ht hs h3 hle
    go_upto_region 25 with (fail)
    go_region_law (first
     | (refine step_app rowI (by rfl) (.tmp 67) (.tmp 71) (by rfl) (B + 1) q c (acc.map (·.2.2.2.1)) (some ⟨w5.heap.size,0,none⟩) 1 [x.2.2.2.1] acc.length 1 (acc.length + 1) (uh HLN) rfl rfl (by rfl) (by rfl) (own_hp (by rfl) (uh O6)) (src_hp (by rfl) (uh S6)) (by unfold maxLen;omega) (by omega) (by have:=uh Z6;simp;omega) ?_;intro q5 c5 w6 o5 bl5 _ _;have O7:=hide o5;have P7:=hide ((uh PV6 _ (by rfl) (by rfl) (by rfl) (by rfl)).blw bl5);obtain ⟨⟨k0,k1,k2,k3,k4,k5,kf,kl⟩,⟨r0,r1,r2,r3,r4,r5,rf,rl⟩,c1,c2,cf⟩:=(uh P7).cells;clear o5 bl5)
     | (go_simp;go_at_call 123;refine (take_st (by decide) (uh PV _ (by rfl) (by rfl) (by rfl) (by rfl)).rx.1 (uh HT)).mono ?_;rintro e w5 ⟨rfl,hx⟩;have p5:=(uh PV _ (by rfl) (by rfl) (by rfl) (by rfl)).call hx;have P5:=hide p5;have o5:=own_far (own_hp (by rfl) (uh OW)) hx.2 (by have:=(uh P6).lt;have:=(uh P6).lb;omega);have O6:=hide (OwnK.below o5 ((RowKit.Below.refl w5.heap.size w5).alloc (Nat.le_refl _) (.cells #[.int .i64 x.2.2.2.1] 3)));have S6:=hide (oneI (w:=w5.alloc (.cells #[.int .i64 x.2.2.2.1] 3)) (b:=w5.heap.size) (x:=x.2.2.2.1) (by simp) (by go_simp));have PV6:=hide (fun V e1 e2 e3 e4=>(p5.al (.cells #[.int .i64 x.2.2.2.1] 3)).like (W':=V) e1 e2 e3 e4);have Z6:=hide (show B + 1≤w5.heap.size from p5.cells.1.2.2.2.2.2.2.2);obtain ⟨⟨k0,k1,k2,k3,k4,k5,kf,kl⟩,⟨r0,r1,r2,r3,r4,r5,rf,rl⟩,c1,c2,cf⟩:=(uh P5).cells;clear hx p5 o5;unfold tkV))
    all_goals
     have P8:=hide ((uh P7).st2 (.slice q5 (acc.length + 1) c5))
     have O8:=hide (own_pastj (uh O7) 2 (.slice q5 (acc.length + 1) c5))
     clear k0 k1 k2 k3 k4 k5 kf kl r0 r1 r2 r3 r4 r5 rf rl c1 c2 cf
     go_wp2_with first
      | (go_at_call 57;refine (is_any g L j2 b2 _ _ (uh P8).rx.1).mono ?_;rintro e w7 ⟨rfl,hb⟩;have P9:=hide ((uh P8).bel hb);have O9:=hide (OwnK.below (uh O8) hb);clear hb;rw [uh HS])
      | (go_at_call 100;refine (sign_st (uh P9).rx.1 (uh H3)).mono ?_;rintro e w8 ⟨rfl,hx⟩;have P10:=hide ((uh P9).call hx);have O10:=hide (own_far (uh O9) hx.2 (by have:=(uh P6).lt;have:=(uh P6).lb;omega));obtain ⟨⟨k0,k1,k2,k3,k4,k5,kf,kl⟩,⟨r0,r1,r2,r3,r4,r5,rf,rl⟩,c1,c2,cf⟩:=(uh P10).cells;clear hx)
     refine bodyPost_ret (v:=.agg #[.int .i64 1,.string t.2.2.2.2,.slice q5 (acc.length + 1) c5,.slice none 0 0,.int .i64 0,.int .i64 0]) (by simp [results,Tryz.results101,go_sem, *]) rfl ?_
     refine ⟨acc ++ [x],j3,b3,(uh P10).fin (ints:=(acc ++ [x]).map (·.2.2.2.1)) (words:=[]) (by rw [List.map_append];exact (uh O10).ls) (by simp) (own_from (uh O10)) (SlOf.none _) rfl no_from,fun en=>?_⟩
     rw [uh MS en];exact uh HE en
end Go.Proofs.YtencibjmiphinaaGreatDoor
namespace Go.Proofs.YtencibjmiphinaaGreatDoor
open Go.RowKit Go.Sort

set_option maxRecDepth 100000 in
set_option maxHeartbeats 8000000 in
/-- A name, a brace, and words. -/
theorem pred_words (g:Nat) (L:List Tk) (i i1 i2:Nat) (b1:Bool) (t:Tk) (w:World) (h:Rd w g L i false) (h1:tkS L 1 i false=(t,i1,b1)) (hk:¬ kdB b1 (L.drop i1)=3) (hs:isS ⟨#[91]⟩ b1 (L.drop i1)=false) (h2:sgS L ⟨#[123]⟩ i1 b1=(i2,false)) (h3:¬ kdB false (L.drop i2)=2) :
  Calls Tryz.prog 101 #[.pointer (some ⟨g,0,none⟩)] w fun e w'=>∃ ts i3 b3,PvR g L w (.mk 2 t.2.2.2.2 [] (ts.map (·.2.2.2.2)) 0 0 1 []) i3 b3 e w'∧∀ en,Mt en L (msL en 3 (L.drop i2)) ts i3 b3:=by
 have hg:=h.lt
 have hf4:=fld4
 have hf3:=fld3
 have hle:=h.le.2
 have H0:=hide (h.below (bel_zp w))
 have H1:=hide h1
 have H2:=hide h2
 obtain ⟨m,hm⟩:∃ m,kdB b1 (L.drop i1)=m:=⟨_,rfl⟩
 obtain ⟨m2,hm2⟩:∃ m2,kdB false (L.drop i2)=m2:=⟨_,rfl⟩
 have HM:=hide hm
 have HM2:=hide hm2
 have HS:=hide hs
 have bm:(m == 3)=false:=by rw [hm] at hk;simp [hk]
 have bm2:(m2 == 2)=false:=by rw [hm2] at h3;simp [h3]
 clear h h1 h2 h3 hk hs hm hm2
 go_enter Tryz.func101,Tryz.ntmps101
 go_wp2_with first
  | (go_at_call 123;refine (take_st (by decide) (uh H0) (uh H1)).mono ?_;rintro e w1 ⟨rfl,hx⟩;have P1:=hide (PS.start hg hx t.2.2.2.2);clear hx;unfold tkV)
  | (go_at_call 124;have tst:=uh P4;clear tst;refine (kind_r g L i2 false _ (uh P4).rx.1).mono ?_;rintro e w5 ⟨rfl,hb⟩;have P5:=hide ((uh P4).bel hb);obtain ⟨⟨k0,k1,k2,k3,k4,k5,kf,kl⟩,⟨r0,r1,r2,r3,r4,r5,rf,rl⟩,c1,c2,cf⟩:=(uh P5).cells;clear hb;rw [uh HM2])
  | (go_at_call 124;refine (kind_r g L i1 b1 _ (uh P1).rx.1).mono ?_;rintro e w2 ⟨rfl,hb⟩;have P2:=hide ((uh P1).bel hb);clear hb;rw [uh HM])
  | (go_at_call 57;refine (is_any g L i1 b1 _ _ (uh P2).rx.1).mono ?_;rintro e w3 ⟨rfl,hb⟩;have P3:=hide ((uh P2).bel hb);clear hb;rw [uh HS])
  | (go_at_call 100;refine (sign_st (uh P3).rx.1 (uh H2)).mono ?_;rintro e w4 ⟨rfl,hx⟩;have Q4:=hide ((uh P3).call hx);obtain ⟨⟨k0,k1,k2,k3,k4,k5,kf,kl⟩,⟨r0,r1,r2,r3,r4,r5,rf,rl⟩,c1,c2,cf⟩:=(uh Q4).cells;have P4:=hide ((uh Q4).st0 (.int .i64 2));clear hx)
 have P6:=hide (uh P5)
 obtain ⟨B,hB⟩:∃ B,w1.heap.size=B:=⟨_,rfl⟩
 rw [hB] at P6 ⊢
 clear H0 H1 H2 HM HM2 HS bm bm2 P1 P2 P3 Q4 P4 P5 k0 k1 k2 k3 k4 k5 kf kl r0 r1 r2 r3 r4 r5 rf rl c1 c2 cf
 have WS:=hide (show B + 1≤(w5).heap.size from (uh P6).cells.1.2.2.2.2.2.2.2)
 go_loopw [4] (fun v wr=>∃ (acc:List Tk) (j:Nat) (q:Option Addr) (c:Nat),v=.int .i64 acc.length∧acc.length≤64∧(∀ en,msL en 3 (L.drop i2)=nxP en 3 acc (L.drop j))∧PS w g L j false B (.int .i64 2) (.string t.2.2.2.2) (.slice none 0 0) (.slice q acc.length c) (.int .i64 0) (.int .i64 0) wr∧OwnK encS 9 1 (B + 1) wr q c (acc.map (·.2.2.2.2))) (fun v _=>65 - (intOf v).toNat)
 case atStart=>exact ⟨[],i2,none,0,rfl,by simp,fun en=>ms_nx en 3 _,uh P6,OwnK.nil _ _⟩
 case round =>
  clear P6 WS
  obtain ⟨acc,j,q,c,rfl,hal,hms,hps,hown⟩:=hrel
  have P6:=hide hps
  have OW:=hide hown
  have MS:=hide hms
  have hln:(acc.map (·.2.2.2.2)).length=acc.length:=by simp
  have HLN:=hide hln
  obtain ⟨⟨k0,k1,k2,k3,k4,k5,kf,kl⟩,⟨r0,r1,r2,r3,r4,r5,rf,rl⟩,c1,c2,cf⟩:=(uh P6).cells
  have KL:=hide kl
  clear hms hps hown hln
  by_cases h64:acc.length=64
  ·have b64:((acc.length:Int) == 64)=true:=by simp [h64]
   have HE:=hide (fun en=>(uh MS en).trans (nx_64 h64))
   have H3:=hide (show sgS L ⟨#[125]⟩ j true=(j,true) by obtain ⟨a,b,e⟩:∃ a b,sgS L ⟨#[125]⟩ j true=(a,b):=⟨_,_,rfl⟩;rw [e];obtain ⟨rfl,rfl⟩:=sg_stay rfl e;rfl)
   clear h64
   go_wp2_with (go_at_call 100;refine (sign_st ((uh P6).stB true).rx.1 (uh H3)).mono ?_;rintro e w6 ⟨rfl,hx⟩;have P7:=hide (((uh P6).stB true).call hx);have O7:=hide (own_far (own_far (uh OW) (grown_set1 wr g 2 (.bool true)) (by have:=(uh P6).lt;have:=(uh P6).lb;omega)) hx.2 (by have:=(uh P6).lt;have:=(uh P6).lb;omega));obtain ⟨⟨k0,k1,k2,k3,k4,k5,kf,kl⟩,⟨r0,r1,r2,r3,r4,r5,rf,rl⟩,c1,c2,cf⟩:=(uh P7).cells;clear hx)
   refine bodyPost_ret (v:=.agg #[.int .i64 2,.string t.2.2.2.2,.slice none 0 0,.slice q acc.length c,.int .i64 0,.int .i64 0]) (by simp [results,Tryz.results101,go_sem, *]) rfl ?_
   refine ⟨acc,j,true,(uh P7).fin (ints:=[]) (words:=acc.map (·.2.2.2.2)) (SlOf.none _) rfl no_from (uh O7).ls (uh HLN) (own_from (uh O7)),fun en=>?_⟩
   rw [uh HE en];exact ⟨rfl,rfl⟩
  ·have b64:((acc.length:Int) == 64)=false:=by simp;omega
   obtain ⟨x,j2,b2,ht⟩:∃ x j2 b2,tkS L 3 j false=(x,j2,b2):=⟨_,_,_,rfl⟩
   have HT:=hide ht
   have PV:=hide (fun V e1 e2 e3 e4=>(uh P6).like (W':=V) e1 e2 e3 e4)
   have PJ:=hide ((uh P6).rx.1.le)
   have h65:acc.length≤63:=by omega
   cases hs:isS ⟨#[44]⟩ b2 (L.drop j2) with
   | true =>
    obtain ⟨hb2,hn⟩:=nx_more (by decide) h64 ht hs
    subst hb2
    have HE:=hide (fun en=>(uh MS en).trans (hn en))
    have HS:=hide hs
    have hj2:j2 + 1≤L.length:=by
     obtain ⟨_,r,hr⟩:=isS_some hs
     have:=skL_len hr
     simp at this;omega
    have HJ:=hide hj2
    have a2:(j2:Int)≤4096:=by omega
    clear h64 ht hs hn hj2 hle
    go_upto_region 26 with (fail)
    go_region_law (first
     | (refine step_app rowS (by rfl) (.tmp 75) (.tmp 79) (by rfl) (B + 1) q c (acc.map (·.2.2.2.2)) (some ⟨w5.heap.size,0,none⟩) 1 [x.2.2.2.2] acc.length 1 (acc.length + 1) (uh HLN) rfl rfl (by rfl) (by rfl) (own_hp (by rfl) (uh O6)) (src_hp (by rfl) (uh S6)) (by unfold maxLen;omega) (by omega) (by have:=uh Z6;simp;omega) ?_;intro q5 c5 w6 o5 bl5 _ _;have O7:=hide o5;have P7:=hide ((uh PV6 _ (by rfl) (by rfl) (by rfl) (by rfl)).blw bl5);obtain ⟨⟨k0,k1,k2,k3,k4,k5,kf,kl⟩,⟨r0,r1,r2,r3,r4,r5,rf,rl⟩,c1,c2,cf⟩:=(uh P7).cells;clear o5 bl5)
     | (go_simp;go_at_call 123;refine (take_st (by decide) (uh PV _ (by rfl) (by rfl) (by rfl) (by rfl)).rx.1 (uh HT)).mono ?_;rintro e w5 ⟨rfl,hx⟩;have p5:=(uh PV _ (by rfl) (by rfl) (by rfl) (by rfl)).call hx;have P5:=hide p5;have o5:=own_far (own_hp (by rfl) (uh OW)) hx.2 (by have:=(uh P6).lt;have:=(uh P6).lb;omega);have O6:=hide (OwnK.below o5 ((RowKit.Below.refl w5.heap.size w5).alloc (Nat.le_refl _) (.cells #[.string x.2.2.2.2] 9)));have S6:=hide (oneS (w:=w5.alloc (.cells #[.string x.2.2.2.2] 9)) (b:=w5.heap.size) (x:=x.2.2.2.2) (by simp) (by go_simp));have PV6:=hide (fun V e1 e2 e3 e4=>(p5.al (.cells #[.string x.2.2.2.2] 9)).like (W':=V) e1 e2 e3 e4);have Z6:=hide (show B + 1≤w5.heap.size from p5.cells.1.2.2.2.2.2.2.2);obtain ⟨⟨k0,k1,k2,k3,k4,k5,kf,kl⟩,⟨r0,r1,r2,r3,r4,r5,rf,rl⟩,c1,c2,cf⟩:=(uh P5).cells;clear hx p5 o5;unfold tkV))
    all_goals
     have P8:=hide ((uh P7).st3 (.slice q5 (acc.length + 1) c5))
     have O8:=hide (own_pastj (uh O7) 3 (.slice q5 (acc.length + 1) c5))
     clear k0 k1 k2 k3 k4 k5 kf kl r0 r1 r2 r3 r4 r5 rf rl c1 c2 cf
     go_wp2_with (go_at_call 57;refine (is_any g L j2 false _ _ (uh P8).rx.1).mono ?_;rintro e w7 ⟨rfl,hb⟩;have P9:=hide ((uh P8).bel hb);have O9:=hide (OwnK.below (uh O8) hb);obtain ⟨⟨k0,k1,k2,k3,k4,k5,kf,kl⟩,⟨r0,r1,r2,r3,r4,r5,rf,rl⟩,c1,c2,cf⟩:=(uh P9).cells;clear hb;rw [uh HS])
     go_roundw
     case rel=>exact ⟨acc ++ [x],j2 + 1,q5,c5,by simp,(by rw [List.length_append];simp only [List.length_cons,List.length_nil];omega),uh HE,by rw [List.length_append];exact (uh P9).inc (uh HJ),by rw [List.map_append];exact own_far (uh O9) ((uh P9).rx.1.inc (uh HJ)).2 (by have:=(uh P6).lt;have:=(uh P6).lb;omega)⟩
     case measure=>simp [intOf] <;> omega
   | false =>
    obtain ⟨j3,b3,h3⟩:∃ j3 b3,sgS L ⟨#[125]⟩ j2 b2=(j3,b3):=⟨_,_,rfl⟩
    have HE:=hide (fun en=>nx_end (by decide) h64 ht hs h3 en)
    have HS:=hide hs
    have H3:=hide h3
    clear h64 ht hs h3 hle
    go_upto_region 26 with (fail)
    go_region_law (first
     | (refine step_app rowS (by rfl) (.tmp 75) (.tmp 79) (by rfl) (B + 1) q c (acc.map (·.2.2.2.2)) (some ⟨w5.heap.size,0,none⟩) 1 [x.2.2.2.2] acc.length 1 (acc.length + 1) (uh HLN) rfl rfl (by rfl) (by rfl) (own_hp (by rfl) (uh O6)) (src_hp (by rfl) (uh S6)) (by unfold maxLen;omega) (by omega) (by have:=uh Z6;simp;omega) ?_;intro q5 c5 w6 o5 bl5 _ _;have O7:=hide o5;have P7:=hide ((uh PV6 _ (by rfl) (by rfl) (by rfl) (by rfl)).blw bl5);obtain ⟨⟨k0,k1,k2,k3,k4,k5,kf,kl⟩,⟨r0,r1,r2,r3,r4,r5,rf,rl⟩,c1,c2,cf⟩:=(uh P7).cells;clear o5 bl5)
     | (go_simp;go_at_call 123;refine (take_st (by decide) (uh PV _ (by rfl) (by rfl) (by rfl) (by rfl)).rx.1 (uh HT)).mono ?_;rintro e w5 ⟨rfl,hx⟩;have p5:=(uh PV _ (by rfl) (by rfl) (by rfl) (by rfl)).call hx;have P5:=hide p5;have o5:=own_far (own_hp (by rfl) (uh OW)) hx.2 (by have:=(uh P6).lt;have:=(uh P6).lb;omega);have O6:=hide (OwnK.below o5 ((RowKit.Below.refl w5.heap.size w5).alloc (Nat.le_refl _) (.cells #[.string x.2.2.2.2] 9)));have S6:=hide (oneS (w:=w5.alloc (.cells #[.string x.2.2.2.2] 9)) (b:=w5.heap.size) (x:=x.2.2.2.2) (by simp) (by go_simp));have PV6:=hide (fun V e1 e2 e3 e4=>(p5.al (.cells #[.string x.2.2.2.2] 9)).like (W':=V) e1 e2 e3 e4);have Z6:=hide (show B + 1≤w5.heap.size from p5.cells.1.2.2.2.2.2.2.2);obtain ⟨⟨k0,k1,k2,k3,k4,k5,kf,kl⟩,⟨r0,r1,r2,r3,r4,r5,rf,rl⟩,c1,c2,cf⟩:=(uh P5).cells;clear hx p5 o5;unfold tkV))
    all_goals
     have P8:=hide ((uh P7).st3 (.slice q5 (acc.length + 1) c5))
     have O8:=hide (own_pastj (uh O7) 3 (.slice q5 (acc.length + 1) c5))
     clear k0 k1 k2 k3 k4 k5 kf kl r0 r1 r2 r3 r4 r5 rf rl c1 c2 cf
     go_wp2_with first
      | (go_at_call 57;refine (is_any g L j2 b2 _ _ (uh P8).rx.1).mono ?_;rintro e w7 ⟨rfl,hb⟩;have P9:=hide ((uh P8).bel hb);have O9:=hide (OwnK.below (uh O8) hb);clear hb;rw [uh HS])
      | (go_at_call 100;refine (sign_st (uh P9).rx.1 (uh H3)).mono ?_;rintro e w8 ⟨rfl,hx⟩;have P10:=hide ((uh P9).call hx);have O10:=hide (own_far (uh O9) hx.2 (by have:=(uh P6).lt;have:=(uh P6).lb;omega));obtain ⟨⟨k0,k1,k2,k3,k4,k5,kf,kl⟩,⟨r0,r1,r2,r3,r4,r5,rf,rl⟩,c1,c2,cf⟩:=(uh P10).cells;clear hx)
     refine bodyPost_ret (v:=.agg #[.int .i64 2,.string t.2.2.2.2,.slice none 0 0,.slice q5 (acc.length + 1) c5,.int .i64 0,.int .i64 0]) (by simp [results,Tryz.results101,go_sem, *]) rfl ?_
     refine ⟨acc ++ [x],j3,b3,(uh P10).fin (ints:=[]) (words:=(acc ++ [x]).map (·.2.2.2.2)) (SlOf.none _) rfl no_from (by rw [List.map_append];exact (uh O10).ls) (by simp) (own_from (uh O10)),fun en=>?_⟩
     rw [uh MS en];exact uh HE en
end Go.Proofs.YtencibjmiphinaaGreatDoor

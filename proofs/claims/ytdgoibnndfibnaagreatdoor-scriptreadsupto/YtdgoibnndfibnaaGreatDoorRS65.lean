/- The document's Parse. -/
import Derived.Test.YtdgoibnndfibnaaGreatDoorRZbb
import Derived.Deep.CutBlock
namespace Go.Proofs.YtdgoibnndfibnaaGreatDoor
open Go.RowKit Go.Sort
set_option maxHeartbeats 16000000 in
set_option maxRecDepth 100000 in
theorem refParseScr_any (text:ByteArray) (w:World) (hz:text.size<=1048576) :
  Calls Tryz.prog 19 #[.string text] w fun e w'=>ParseP w (Lb text) e w':=by
 have mixed:Tryz.prog.follows .mixedOrders=true:=by kernel_rfl
 obtain ⟨X,HX⟩:∃ X,w.alloc (.cells #[.int .i64 0,.int .i64 0,.int .i64 0,.int .i64 0,.int .i64 0,.int .i64 0,.int .i64 0,.int .i64 0,.slice none 0 0,.slice none 0 0] 29)=X:=⟨_,rfl⟩
 have bX:Below w.heap.size w X:=by rw [<- HX];exact (Below.refl _ _).alloc (Nat.le_refl _) _
 have hX:X.heap[w.heap.size]? = some (.cells #[.int .i64 0,.int .i64 0,.int .i64 0,.int .i64 0,.int .i64 0,.int .i64 0,.int .i64 0,.int .i64 0,.slice none 0 0,.slice none 0 0] 29 (0,0)):=by rw [<- HX];exact box_new _ _
 obtain ⟨Y,HY⟩:∃ Y,X.alloc (.cells #[.int .i64 0,.int .i64 0,.int .i64 0,.int .i64 0,.int .i64 0,.int .i64 0,.int .i64 0,.int .i64 0,.slice none 0 0,.slice none 0 0] 29)=Y:=⟨_,rfl⟩
 have bY:Below X.heap.size X Y:=by rw [<- HY];exact (Below.refl _ _).alloc (Nat.le_refl _) _
 have hY:Y.heap[X.heap.size]? = some (.cells #[.int .i64 0,.int .i64 0,.int .i64 0,.int .i64 0,.int .i64 0,.int .i64 0,.int .i64 0,.int .i64 0,.slice none 0 0,.slice none 0 0] 29 (0,0)):=by rw [<- HY];exact box_new _ _
 have hrs:w.heap.size < X.heap.size:=heap_lt hX
 have hwsb:w.heap.size<=X.heap.size:=Nat.le_of_lt hrs
 have HWX:=hide (below_sub bX bY)
 have HZ:=hide (blk_onS hX bY)
 have hI0:InB Y X.heap.size scr0:=⟨none,0,none,0,[],hY,OwnK.nil _ _,OwnK.nil _ _,rfl,fun j u o h1 _=>by simp at h1⟩
 have HI0:=hide hI0
 have a0:(text.size:Int)<=1048576:=by omega
 have HLN:=hide (lb_len text)
 have HMX:=hide hz
 clear bX bY hX hY hI0
 go_enter Tryz.func19,Tryz.ntmps19
 go_wp2
 go_loopw [6,7] (fun av nb wr=>∃ (k n:Nat) (s:Scr),av=.int .i64 (k:Int)/\nb=.int .i64 (n:Int)/\k<=text.size/\1<=n/\n<=k + 1/\Hid (n=1->k=0)/\Hid (readFrom n s ((Lb text).drop k)=readS (Lb text))/\Hid (n=1->s=scr0)/\Hid (n ≠ 1->ScrOk s)/\Hid (InB wr X.heap.size s)/\Hid (Below X.heap.size Y wr)) (fun av _ _=>text.size - (intOf av).toNat)
 case atStart=>exact ⟨0,1,scr0,rfl,rfl,by omega,by omega,by omega,hide (fun _=>rfl),hide rfl,hide (fun _=>rfl),hide (fun h=>absurd rfl h),HI0,hide (Below.refl _ _)⟩
 case round =>
  clear HI0
  obtain ⟨k,n,s,rfl,rfl,hkz,hn1,hnk,HK0,HRD,HS0,HOK,HI,HBL⟩:=hrel
  obtain ⟨U,rfl⟩:∃ U,U=wr:=⟨_,rfl⟩
  have HW1:=hide (below_tr (uh HWX) ((uh HBL).mono hwsb))
  have k0:(0:Int)<=(k:Int):=by omega
  by_cases hex:¬ k < text.size/\n ≠ 1
  ·obtain ⟨hx0,hx1⟩:=hex
   have hk0:k=text.size:=by omega
   have kn:((n:Int) == 1)=false:=by rw [beq_eq_false_iff_ne];omega
   have k1:¬ (k:Int) < (text.size:Int):=by omega
   have HR0:=hide (show readS (Lb text)=(0,some s) by
    have:=uh HRD
    rw [List.drop_eq_nil_of_le (by rw [uh HLN];omega),readFrom_end hx1] at this
    exact this.symm)
   obtain ⟨qa,ca,qo,co,us,hbx,hrw⟩:=uh HI
   obtain ⟨c0,c1,c2,c3,c4,c5,c6,c7,c8,c9,cf⟩:=of10z hbx
   have xr:=((uh HBL).block _ hrs).trans (uh HZ)
   obtain ⟨z0,z1,z2,z3,z4,z5,z6,z7,z8,z9,zf⟩:=of10z xr
   have HRW:=hide hrw
   have HXR:=hide xr
   have n3:¬ X.heap.size=w.heap.size:=by omega
   have n4:¬ w.heap.size=X.heap.size:=by omega
   clear hbx xr hrw hx1 hx0 hk0
   go_wp2
   refine bodyPost_ret (v:=.tuple #[.agg #[.int .i64 s.cfg.d,.int .i64 s.cfg.c,.int .i64 s.cfg.s,.int .i64 s.cfg.t,.int .i64 s.cfg.h,.int .i64 s.cfg.q,.int .i64 s.cfg.w,.int .i64 s.cfg.u,.slice qa s.attrs.length ca,.slice qo us.length co],.int .i64 0,.int .i64 0]) (by simp [results,Tryz.results19,go_sem,z0,z1,z2,z3,z4,z5,z6,z7,z8,z9]) rfl ⟨Or.inl ⟨s,uh HR0,qa,ca,qo,co,us,rfl, ?_⟩, ?_⟩
   ·exact Rows.mono ((uh HRW).ty (gr_set (gr_set (gr_set (gr_set (gr_set (gr_set (gr_set (gr_set (gr_set (gr_set (gr_refl _ _) 0 (.int .i64 s.cfg.d)) 1 (.int .i64 s.cfg.c)) 2 (.int .i64 s.cfg.s)) 3 (.int .i64 s.cfg.t)) 4 (.int .i64 s.cfg.h)) 5 (.int .i64 s.cfg.q)) 6 (.int .i64 s.cfg.w)) 7 (.int .i64 s.cfg.u)) 8 (.slice qa s.attrs.length ca)) 9 (.slice qo us.length co)) (uh HXR) (by decide) (by decide) (by decide) (by decide)) (by omega)
   ·exact below_none (gr_put (gr_put (gr_put (gr_put (gr_put (gr_put (gr_put (gr_put (gr_put (gr_put (gr_of (uh HW1) none) (Nat.le_refl _) _ _) (Nat.le_refl _) _ _) (Nat.le_refl _) _ _) (Nat.le_refl _) _ _) (Nat.le_refl _) _ _) (Nat.le_refl _) _ _) (Nat.le_refl _) _ _) (Nat.le_refl _) _ _) (Nat.le_refl _) _ _) (Nat.le_refl _) _ _)
  ·go_upto_region 4 with fail
   go_cut [26] from 19 to 25 (fun v V=>v=.bool true/\U=V)
   case first =>
    by_cases hkl:k < text.size
    ·have k1:(k:Int) < (text.size:Int):=by omega
     go_wp2
     go_meet
     exact ⟨rfl,rfl⟩
    ·have k1:¬ (k:Int) < (text.size:Int):=by omega
     have kn:((n:Int) == 1)=true:=by rw [beq_iff_eq];omega
     go_wp2
     go_meet
     exact ⟨rfl,rfl⟩
   case rest =>
    obtain ⟨rfl,rfl⟩:=hcut
    go_upto_block 2 with fail
    go_cut [8] from 30 to 41 (fun e V=>∃ j:Nat,e=.int .i64 (j:Int)/\k<=j/\j<=text.size/\Hid (NoE (Lb text) k j)/\Hid (j < text.size->(Lb text)[j]? = some (10:UInt8))/\U=V)
    case first =>
     go_wp2
     go_loopw [8] (fun e wr'=>∃ j:Nat,e=.int .i64 (j:Int)/\k<=j/\j<=text.size/\Hid (NoE (Lb text) k j)/\wr'=U) (fun e _=>text.size - (intOf e).toNat)
     case atStart=>exact ⟨k,rfl,Nat.le_refl _,hkz,hide (NoE.start _ _),rfl⟩
     case round =>
      obtain ⟨j,rfl,hkj,hjz,HNE,rfl⟩:=hrel
      have j0:(0:Int)<=(j:Int):=by omega
      by_cases hlt:j < text.size
      ·have j1:(j:Int) < (text.size:Int):=by omega
       have js:j < text.size:=hlt
       have hd:(Lb text)[j]? = some text[j]:=by
        rw [List.getElem?_eq_getElem (by rw [uh HLN];exact hlt)]
        rfl
       obtain ⟨c,hc⟩:∃ c,text[j]=c:=⟨_,rfl⟩
       rw [hc] at hd
       have e10:=u8_eq c 10 (by decide)
       by_cases h10:c=10
       ·have n10:((c.toNat:Int) == 10)=true:=by rw [h10];rfl
        have n10':((c.toNat:Int) != 10)=false:=by rw [bne,n10];rfl
        subst h10
        have HE:=hide (fun _:j < text.size=>hd)
        clear hd e10
        go_wp2
        go_meet
        exact ⟨j,rfl,hkj,hjz,HNE,HE,rfl⟩
       ·have n10:((c.toNat:Int) == 10)=false:=by rw [show ((c.toNat:Int) == 10)=decide (c=10) from e10];exact decide_eq_false h10
        have n10':((c.toNat:Int) != 10)=true:=by rw [bne,n10];rfl
        have HN2:=hide ((uh HNE).step hd h10)
        clear hd e10 h10
        go_wp2
        exact ⟨⟨j + 1,by go_num,by omega,by omega,HN2,by first | rfl | trivial⟩,by simp [intOf];omega⟩
      ·have j1:¬ (j:Int) < (text.size:Int):=by omega
       have HE:=hide (fun h:j < text.size=>absurd h hlt:j < text.size->(Lb text)[j]? = some (10:UInt8))
       go_wp2
       go_meet
       exact ⟨j,rfl,hkj,hjz,HNE,HE,rfl⟩
    case rest =>
     obtain ⟨j,rfl,hkj,hjz,HNE,HE,rfl⟩:=hcut
     have j0:(0:Int)<=(j:Int):=by omega
     have kj:(k:Int)<=(j:Int):=by omega
     have jz:(j:Int)<=(text.size:Int):=by omega
     obtain ⟨A,hA⟩:∃ A,text.extract k j=A:=⟨_,rfl⟩
     have hAl:Lb A=((Lb text).drop k).take (j - k):=by rw [<- hA,ext_str]
     have HAZ:=hide (show A.size<=1048576 by rw [<- lb_len,hAl,List.length_take,List.length_drop,uh HLN];have:=uh HMX;omega)
     obtain ⟨bo,hbo⟩:∃ b,decide (j < text.size)=b:=⟨_,rfl⟩
     have HCU:=hide (show cut10 ((Lb text).drop k)=if bo=true then some (Lb A,(Lb text).drop (j + 1)) else none by
      rw [<- hbo,hAl]
      by_cases hlt:j < text.size
      ·rw [if_pos (decide_eq_true hlt)]
       exact cut10_line (uh HNE) hkj (uh HE hlt)
      ·rw [if_neg (by rw [decide_eq_true_eq];exact hlt)]
       exact cut10_end (uh HNE) (by rw [uh HLN];omega))
     clear hAl
     go_upto_block 4 with fail
     go_cut [10] from 11 to 173 (fun v V=>∃ b:Bool,v=.bool b/\Hid (b=(bo && (addS s n (Lb A)).isSome))/\Hid (Below X.heap.size Y V)/\Hid (∀ s',addS s n (Lb A)=some s'->b=true->InB V X.heap.size s'))
     case first =>
      by_cases h1:n=1
      ·obtain rfl:=uh HS0 h1
       subst h1
       go_upto_region 18 with (first
        | (go_at_call 43;refine (refCut_any A _ (by have:=uh HAZ;omega)).mono ?_;rintro e w1 ⟨⟨q,cp,ws,rfl,hws,hown⟩,b1⟩;obtain ⟨x,rest,rfl⟩:=words_ne hws;obtain ⟨g,rfl⟩:=own_some hown;have hls:=hown.ls;have hlc:=hls.2.1;have n2:((rest.length:Int) + 1)<=(cp:Int):=(by simp at hlc;omega);obtain ⟨q5,HQ5⟩:∃ q5,(if cp=1 then (some ⟨g,0,none⟩:Option Addr) else some ⟨g,1,none⟩)=q5:=⟨_,rfl⟩;have HLT:=hide (by rw [<- HQ5];exact sl_tail hls:SlOf encS 1 w1 q5 (cp - 1) rest);have HLE:=hide (words_len hws);have HNU:=hide (show rest.map (fun s=>numR (Lb s))=(cutL (Lb A)).tail.map numR by rw [<- hws,List.map_cons,List.tail_cons,List.map_map];rfl);have I1:=hide ((uh HI).below b1);have B1:=hide (below_tr (uh HBL) (b1.mono (uh HI).le));have HXW:=hide (Nat.lt_of_lt_of_le (inb_lt (uh HI)) b1.size);clear hls hlc hown hws b1)
        | (go_at_call 42;refine (refNumbers_any q5 (cp - 1) rest w1 (by have:=(uh HLE).1;have:=uh HAZ;omega) (fun r hr=>by have:=(uh HLE).2 r (List.mem_cons_of_mem _ hr);have:=uh HAZ;omega) (uh HLT)).mono ?_;rintro e w3 ⟨⟨qn,cn,rfl,hon⟩,b3⟩;rw [uh HNU] at hon;have I3:=hide ((uh I1).below b3);have B3:=hide (below_tr (uh B1) (b3.mono (uh I1).le));have HON:=hide hon;clear hon b3))
       have hnl:((cutL (Lb A)).tail.map numR).length=rest.length:=by rw [<- uh HNU,List.length_map]
       obtain ⟨C,hC⟩:∃ C,cfgR (Lb A)=C:=⟨_,rfl⟩
       have HCC:=hide hC
       clear hC
       obtain ⟨b8,hb8⟩:∃ b,((rest.length:Int) == 8)=b:=⟨_,rfl⟩
       go_upto_if 90 with fail
       go_cut [] from 91 to 117 (fun V=>Hid (InB V X.heap.size ⟨C,scr0.attrs,scr0.ops⟩)/\Hid (Below X.heap.size Y V))
       case first =>
        cases b8 with
        | true =>
         have h8:rest.length=8:=by have:=beq_iff_eq.1 hb8;omega
         have i0n:0 < rest.length:=by omega
         have i0a:(0:Int) < (rest.length:Int):=by omega
         have i0b:¬ (rest.length:Int)<=0:=by omega
         have i1a:(1:Int) < (rest.length:Int):=by omega
         have i1b:¬ (rest.length:Int)<=1:=by omega
         have i2a:(2:Int) < (rest.length:Int):=by omega
         have i2b:¬ (rest.length:Int)<=2:=by omega
         have i3a:(3:Int) < (rest.length:Int):=by omega
         have i3b:¬ (rest.length:Int)<=3:=by omega
         have i4a:(4:Int) < (rest.length:Int):=by omega
         have i4b:¬ (rest.length:Int)<=4:=by omega
         have i5a:(5:Int) < (rest.length:Int):=by omega
         have i5b:¬ (rest.length:Int)<=5:=by omega
         have i6a:(6:Int) < (rest.length:Int):=by omega
         have i6b:¬ (rest.length:Int)<=6:=by omega
         have i7a:(7:Int) < (rest.length:Int):=by omega
         have i7b:¬ (rest.length:Int)<=7:=by omega
         have hon:=uh HON
         rw [cfgR_l (by omega),uh HCC] at hon
         have hon2:OwnK encI 3 1 w1.heap.size w3 qn cn [C.d,C.c,C.s,C.t,C.h,C.q,C.w,C.u]:=hon
         obtain ⟨gn,rfl⟩:=own_some hon2
         obtain ⟨hgn,_⟩:=own_lt hon2 gn rfl
         have hls:=hon2.ls
         obtain ⟨b0,o0,q0,_,d0⟩:=intAt hls (j:=0) rfl
         injection q0 with q0
         injection q0 with u0 v0
         subst u0 v0
         rw [Nat.zero_add] at d0
         obtain ⟨b1,o1,q1,_,d1⟩:=intAt hls (j:=1) rfl
         injection q1 with q1
         injection q1 with u1 v1
         subst u1 v1
         rw [Nat.zero_add] at d1
         obtain ⟨b2,o2,q2,_,d2⟩:=intAt hls (j:=2) rfl
         injection q2 with q2
         injection q2 with u2 v2
         subst u2 v2
         rw [Nat.zero_add] at d2
         obtain ⟨b3,o3,q3,_,d3⟩:=intAt hls (j:=3) rfl
         injection q3 with q3
         injection q3 with u3 v3
         subst u3 v3
         rw [Nat.zero_add] at d3
         obtain ⟨b4,o4,q4,_,d4⟩:=intAt hls (j:=4) rfl
         injection q4 with q4
         injection q4 with u4 v4
         subst u4 v4
         rw [Nat.zero_add] at d4
         obtain ⟨b5,o5,q5,_,d5⟩:=intAt hls (j:=5) rfl
         injection q5 with q5
         injection q5 with u5 v5
         subst u5 v5
         rw [Nat.zero_add] at d5
         obtain ⟨b6,o6,q6,_,d6⟩:=intAt hls (j:=6) rfl
         injection q6 with q6
         injection q6 with u6 v6
         subst u6 v6
         rw [Nat.zero_add] at d6
         obtain ⟨b7,o7,q7,_,d7⟩:=intAt hls (j:=7) rfl
         injection q7 with q7
         injection q7 with u7 v7
         subst u7 v7
         rw [Nat.zero_add] at d7
         have m5:¬ gn=X.heap.size:=by have:=uh HXW;omega
         have m6:¬ X.heap.size=gn:=fun e=>m5 e.symm
         obtain ⟨qa,ca,qo,co,us,hbx,hrw⟩:=uh I3
         obtain ⟨c0,c1,c2,c3,c4,c5,c6,c7,c8,c9,cf⟩:=of10z hbx
         have HBX:=hide hbx
         have HROW:=hide hrw
         clear hbx hrw hon hon2 hls hgn hnl h8
         go_upto_region 19 with fail
         go_region_held3 (fun w':World=>w'.cell? ⟨gn,0,none⟩=some (.int .i64 C.d)/\w'.cell? ⟨gn,1,none⟩=some (.int .i64 C.c)/\w'.cell? ⟨gn,2,none⟩=some (.int .i64 C.s)/\w'.cell? ⟨gn,3,none⟩=some (.int .i64 C.t)/\w'.cell? ⟨gn,4,none⟩=some (.int .i64 C.h)/\w'.cell? ⟨gn,5,none⟩=some (.int .i64 C.q)/\w'.cell? ⟨gn,6,none⟩=some (.int .i64 C.w)/\w'.cell? ⟨gn,7,none⟩=some (.int .i64 C.u)) (go_keep) (fail)
         go_wp2
         go_meet
         exact ⟨hide (inb_eight (uh HBX) (uh HROW)).1,hide (below_tr (uh B3) (below_gr (inb_eight (uh HBX) (uh HROW)).2 (heap_lt (uh HBX))))⟩
        | false =>
         have h8:¬ rest.length=8:=by have:=beq_eq_false_iff_ne.1 hb8;omega
         have HCN:=hide (show C=scr0.cfg by rw [<- uh HCC];exact cfgR_no (by omega))
         clear h8
         go_wp2
         go_meet
         exact ⟨by rw [uh HCN];exact I3,B3⟩
       case rest =>
        obtain ⟨I5,B5⟩:=hcut
        obtain ⟨qa,ca,qo,co,us,hbx,_⟩:=uh I5
        obtain ⟨c0,c1,c2,c3,c4,c5,c6,c7,c8,c9,cf⟩:=of10z hbx
        clear hbx
        cases bo with
        | false =>
         go_wp2
         go_meet
         exact ⟨false,rfl,hide (by simp),B5,hide (fun _ _ h=>by cases h)⟩
        | true =>
         obtain ⟨D,hD⟩:∃ D,(⟨(cfgB C).toArray⟩:ByteArray)=D:=⟨_,rfl⟩
         have hDl:Lb D=cfgB C:=by rw [<- hD,lb_mk]
         have HCF:=hide (fun W=>refConfig_any C W (by rw [<- uh HCC];exact cfgR_I _))
         rw [hD] at HCF
         obtain ⟨bl,hbl⟩:∃ b,(D.toList == A.toList)=b:=⟨_,rfl⟩
         have HDV:=hide (show addS scr0 1 (Lb A)=if bl=true then some ⟨C,scr0.attrs,scr0.ops⟩ else none by
          rw [addS_cfg,<- hbl]
          by_cases hv:cfgB (cfgR (Lb A))=Lb A
          ·rw [if_pos hv,if_pos (by
            rw [ByteArray.toList_eq,ByteArray.toList_eq]
            show (Lb D == Lb A)=true
            rw [hDl,<- uh HCC,hv]
            exact beq_self_eq_true _),uh HCC]
          ·rw [if_neg hv,if_neg (by
            rw [ByteArray.toList_eq,ByteArray.toList_eq,beq_iff_eq]
            show ¬ Lb D=Lb A
            rw [hDl,<- uh HCC]
            exact hv)])
         clear hD hDl
         go_wp2_with (go_at_call 30;refine (uh HCF _).mono ?_;rintro e w4 ⟨rfl,b4⟩;have I4:=hide ((uh I5).below b4);have B4:=hide (below_tr (uh B5) (b4.mono (uh I5).le));clear b4)
         go_meet
         exact ⟨bl,rfl,hide (by rw [uh HDV];cases bl <;> rfl),B4,hide (fun s' h hb=>by rw [uh HDV,if_pos hb] at h;injection h with h;rw [<- h];exact uh I4)⟩
      ·have kn:((n:Int) == 1)=false:=by rw [beq_eq_false_iff_ne];omega
       obtain ⟨qa,ca,qo,co,us,hbx,hrw⟩:=uh HI
       obtain ⟨c0,c1,c2,c3,c4,c5,c6,c7,c8,c9,cf⟩:=of10z hbx
       have HUL:=hide hrw.ops.1
       have HBX:=hide hbx
       have HROW:=hide hrw
       clear hbx hrw
       go_upto_region 21 with fail
       go_cut [126] from 127 to 134 (fun v V=>∃ bt:Bool,v=.bool bt/\Hid (bt=decide (begA (Lb A)=true/\s.ops.length=0))/\U=V)
       case first =>
        obtain ⟨ba,hba⟩:∃ b,begA (Lb A)=b:=⟨_,rfl⟩
        have HBG:=hide (refBegins_any A U (by have:=uh HAZ;omega))
        rw [hba] at HBG
        cases ba with
        | false =>
         have HV:=hide (show false=decide (begA (Lb A)=true/\s.ops.length=0) by rw [hba];simp)
         clear hba
         go_wp2_with (go_at_call 44;refine (uh HBG).mono ?_;rintro e w1 ⟨rfl,rfl⟩)
         go_meet
         exact ⟨false,rfl,HV,rfl⟩
        | true =>
         obtain ⟨bl,hbl⟩:∃ b,((us.length:Int) == 0)=b:=⟨_,rfl⟩
         have HV:=hide (show bl=decide (begA (Lb A)=true/\s.ops.length=0) by
          rw [hba,<- uh HUL,<- hbl]
          by_cases hl:us.length=0
          ·rw [hl];rfl
          ·rw [beq_eq_false_iff_ne.2 (by omega),decide_eq_false (fun h=>hl h.2)])
         clear hba
         go_wp2_with (go_at_call 44;refine (uh HBG).mono ?_;rintro e w1 ⟨rfl,rfl⟩)
         go_meet
         exact ⟨bl,rfl,HV,rfl⟩
       case rest =>
        obtain ⟨bt,rfl,HBT,rfl⟩:=hcut
        cases bt with
        | false =>
         have hno:¬ (begA (Lb A)=true/\s.ops.length=0):=of_decide_eq_false (uh HBT).symm
         have hdv:=addS_doc s n (Lb A) h1
         rw [if_neg hno] at hdv
         obtain ⟨o,ho⟩:∃ o,rfOp (Lb A)=o:=⟨_,rfl⟩
         have hI:SopI o:=by rw [<- ho];exact rfOp_I _
         have hln:=rfOp_len (Lb A)
         have HRD2:=hide (refReads_any A U (uh HAZ))
         rw [ho,lb_len] at hln
         rw [ho] at hdv HRD2
         have haz:=uh HAZ
         obtain ⟨LL,hLL⟩:∃ x,opL o=x:=⟨_,rfl⟩
         obtain ⟨EE,hEE⟩:∃ x,opE o=x:=⟨_,rfl⟩
         have HOPA:=hide (fun (u:Ou) (W:World) (h:OpIn W u o)=>refOp_any h hI (by omega) (by omega) (by omega))
         rw [hLL,hEE] at HOPA
         have HDV:=hide hdv
         have HLL:=hide hLL
         have HEE:=hide hEE
         have hsb:=inb_lt (uh HI)
         have hle:us.length<=4096:=by rw [uh HUL];exact (uh HOK h1).len
         clear hdv hln ho hI hLL hEE hno haz
         go_upto_region 14 with (first
          | (go_at_call 45;refine (uh HRD2).mono ?_;rintro e w1 ⟨⟨u,he,hu⟩,b1⟩;have he2:e=.returned (.agg #[.int .i64 u.kind,.int .i64 u.who,.int .i64 u.ck,.int .i64 u.id,.string u.text,.slice u.qe u.ne u.ce,.slice u.qn u.nn u.cn]):=he;clear he;subst he2;obtain ⟨Z,HZ1⟩:∃ Z,w1.alloc (.cells #[.int .i64 u.kind,.int .i64 u.who,.int .i64 u.ck,.int .i64 u.id,.string u.text,.slice u.qe u.ne u.ce,.slice u.qn u.nn u.cn] 42)=Z:=⟨_,rfl⟩;have bZ:Below w1.heap.size w1 Z:=(by rw [<- HZ1];exact (Below.refl _ _).alloc (Nat.le_refl _) _);have hZ:Z.heap[w1.heap.size]? = some (.cells #[.int .i64 u.kind,.int .i64 u.who,.int .i64 u.ck,.int .i64 u.id,.string u.text,.slice u.qe u.ne u.ce,.slice u.qn u.nn u.cn] 42 (0,0)):=(by rw [<- HZ1];exact box_new _ _);have hT:=below_sub b1 bZ;have P1:=hide (show AdS Y Z X.heap.size #[.int .i64 s.cfg.d,.int .i64 s.cfg.c,.int .i64 s.cfg.s,.int .i64 s.cfg.t,.int .i64 s.cfg.h,.int .i64 s.cfg.q,.int .i64 s.cfg.w,.int .i64 s.cfg.u,.slice qa s.attrs.length ca,.slice qo us.length co] w1.heap.size #[.int .i64 u.kind,.int .i64 u.who,.int .i64 u.ck,.int .i64 u.id,.string u.text,.slice u.qe u.ne u.ce,.slice u.qn u.nn u.cn] 42 qa ca qo co us s from ⟨below_tr (uh HBL) (hT.mono (Nat.le_of_lt hsb)),blk_onS (uh HBX) hT,hZ,(uh HROW).below hT⟩);have hwl:U.heap.size<=w1.heap.size:=b1.size;have UO:=hide ((hu.mono (Nat.succ_le_of_lt hsb)).below bZ);have HOP:=hide (fun W h=>uh HOPA u W h);have d1:¬ w1.heap.size=X.heap.size:=(by omega);have NE:=hide (show ∀ g,(Value.slice qo us.length co).ownBlock=some g->g ≠ w1.heap.size from fun g hg=>(by have:=(own_lt (uh HROW).op g hg).2;omega));clear c0 c1 c2 c3 c4 c5 c6 c7 c8 c9 cf;obtain ⟨c0,c1,c2,c3,c4,c5,c6,c7,c8,c9,cf⟩:=of10z (uh P1).box;obtain ⟨l0,l1,l2,l3,l4,l5,l6,lf⟩:=of7z (uh P1).loc;clear bZ hZ hT hwl hu b1)
          | (go_at_call 14;refine (uh HOP _ (uh UO).oin).mono ?_;rintro e w2 ⟨rfl,b2⟩;have P2:=hide ((uh P1).below b2);have UO2:=hide ((uh UO).below b2);clear c0 c1 c2 c3 c4 c5 c6 c7 c8 c9 cf l0 l1 l2 l3 l4 l5 l6 lf b2;obtain ⟨c0,c1,c2,c3,c4,c5,c6,c7,c8,c9,cf⟩:=of10z (uh P2).box;obtain ⟨l0,l1,l2,l3,l4,l5,l6,lf⟩:=of7z (uh P2).loc;have hw2s:X.heap.size < w2.heap.size:=heap_lt (uh P2).box;have hw2l:w1.heap.size < w2.heap.size:=heap_lt (uh P2).loc;have d3:¬ w2.heap.size=X.heap.size:=(by omega);have d4:¬ X.heap.size=w2.heap.size:=(by omega);have d5:¬ w2.heap.size=w1.heap.size:=(by omega);have d6:¬ w1.heap.size=w2.heap.size:=(by omega)))
         go_upto_region 15 with (at_builtin;refine wpList_app rowO rfl _ _ rfl (X.heap.size + 1) qo co us (some ⟨w2.heap.size,0,none⟩) 1 [u] us.length 1 (us.length + 1) rfl rfl rfl rfl rfl ((uh P2).rows.op.below (Below.alloc (Below.refl _ _) (Nat.le_refl _) _)) (one_op w2 u).src (by unfold maxLen;omega) (by omega) (by simp;omega) ?_;intro q5 c5' w5 o5 bl5 _ g5;have P7:=hide (((uh P2).below (Below.alloc (Below.refl _ _) (Nat.le_refl _) _)).appOp g5 o5 bl5 (uh NE) ((uh UO2).below (Below.alloc (Below.refl _ _) (Nat.le_refl _) _)));clear c0 c1 c2 c3 c4 c5 c6 c7 c8 c9 cf l0 l1 l2 l3 l4 l5 l6 lf o5 bl5 g5;obtain ⟨c0,c1,c2,c3,c4,c5,c6,c7,c8,c9,cf⟩:=of10z (uh P7).box)
         have P8:=hide ((uh P7).set9 d1 (.slice q5 (us.length + 1) c5'))
         cases bo with
         | false =>
          go_wp2
          go_meet
          exact ⟨false,rfl,hide (by simp),hide (uh P8).bl,hide (fun _ _ h=>by cases h)⟩
         | true =>
          by_cases hok:opOk o=true
          ·have kE:(EE == 0)=true:=by rw [<- uh HEE];unfold opE;rw [if_pos hok];rfl
           by_cases hl:lineB o=Lb A
           ·have kL:(LL.toList == A.toList)=true:=by
             rw [ByteArray.toList_eq,ByteArray.toList_eq]
             show (Lb LL == Lb A)=true
             rw [<- uh HLL]
             unfold opL
             rw [if_pos hok,lb_mk,hl]
             exact beq_self_eq_true _
            obtain ⟨b3,hb3⟩:∃ b,decide ((us.length:Int) + 1<=4096)=b:=⟨_,rfl⟩
            have HD2:=hide (show addS s n (Lb A)=if b3=true then some ⟨s.cfg,s.attrs,s.ops ++ [o]⟩ else none by
             rw [uh HDV,<- hb3]
             by_cases hc:us.length + 1<=4096
             ·rw [if_pos ⟨by rw [<- uh HUL];exact hc,hok,hl⟩,if_pos (decide_eq_true (by omega))]
             ·rw [if_neg (fun h=>hc (by rw [uh HUL];exact h.1)),if_neg (by rw [decide_eq_true_eq];omega)])
            clear hok hl
            go_wp2
            go_meet
            exact ⟨b3,rfl,hide (by rw [uh HD2];cases b3 <;> rfl),hide (uh P8).bl,hide (fun s' h hb=>by rw [uh HD2,if_pos hb] at h;injection h with h;rw [<- h];exact ⟨qa,ca,q5,c5',us ++ [u],by rw [show (us ++ [u]).length=us.length + 1 by simp];exact (uh P8).box,(uh P8).rows⟩)⟩
           ·have kL:(LL.toList == A.toList)=false:=by
             rw [ByteArray.toList_eq,ByteArray.toList_eq,beq_eq_false_iff_ne]
             show Lb LL ≠ Lb A
             rw [<- uh HLL]
             unfold opL
             rw [if_pos hok,lb_mk]
             exact hl
            have HD2:=hide (show addS s n (Lb A)=none by rw [uh HDV,if_neg (fun h=>hl h.2.2)])
            clear hok hl
            go_wp2
            go_meet
            exact ⟨false,rfl,hide (by rw [uh HD2];rfl),hide (uh P8).bl,hide (fun _ _ h=>by cases h)⟩
          ·have kE:(EE == 0)=false:=by rw [<- uh HEE];unfold opE;rw [if_neg hok];rfl
           have HD2:=hide (show addS s n (Lb A)=none by rw [uh HDV,if_neg (fun h=>hok h.2.1)])
           clear hok
           go_wp2
           go_meet
           exact ⟨false,rfl,hide (by rw [uh HD2];rfl),hide (uh P8).bl,hide (fun _ _ h=>by cases h)⟩
        | true =>
         have hbe:begA (Lb A)=true/\s.ops.length=0:=of_decide_eq_true (uh HBT).symm
         have hdv:=addS_doc s n (Lb A) h1
         rw [if_pos hbe] at hdv
         have HBA:=hide hbe.1
         have hsb:=inb_lt (uh HI)
         have hle:s.attrs.length<=64:=(uh HOK h1).attrs.1
         have HWS:=hide (show U.heap.size ≥ X.heap.size from Nat.le_of_lt hsb)
         clear hbe
         go_upto_region 23 with (go_at_call 43;refine (refCut_any A _ (by have:=uh HAZ;omega)).mono ?_;rintro e w1 ⟨⟨q,cp,ws,rfl,hws,hown⟩,b1⟩;obtain ⟨x,y,rest,rfl⟩:=words_two (uh HBA) hws;obtain ⟨g,rfl⟩:=own_some hown;obtain ⟨M,hM⟩:∃ M,(x :: y :: rest).length=M:=⟨_,rfl⟩;rw [hM];have hM2:rest.length + 2=M:=(by rw [<- hM];rfl);have m0:(1:Int) < (M:Int):=(by omega);have m1:¬ (M:Int)<=1:=(by omega);obtain ⟨_,_,q1,_,r1⟩:=strAt hown.ls (j:=1) rfl;injection q1 with q1;injection q1 with u1 v1;subst u1 v1;rw [Nat.zero_add] at r1;obtain ⟨Z,HZ1⟩:∃ Z,w1.alloc (.cells #[.string y,.int .i64 2] 62)=Z:=⟨_,rfl⟩;have bZ:Below w1.heap.size w1 Z:=(by rw [<- HZ1];exact (Below.refl _ _).alloc (Nat.le_refl _) _);have hZ:Z.heap[w1.heap.size]? = some (.cells #[.string y,.int .i64 2] 62 (0,0)):=(by rw [<- HZ1];exact box_new _ _);have hT:=below_sub b1 bZ;have P1:=hide (show AdS Y Z X.heap.size #[.int .i64 s.cfg.d,.int .i64 s.cfg.c,.int .i64 s.cfg.s,.int .i64 s.cfg.t,.int .i64 s.cfg.h,.int .i64 s.cfg.q,.int .i64 s.cfg.w,.int .i64 s.cfg.u,.slice qa s.attrs.length ca,.slice qo us.length co] w1.heap.size #[.string y,.int .i64 2] 62 qa ca qo co us s from ⟨below_tr (uh HBL) (hT.mono (Nat.le_of_lt hsb)),blk_onS (uh HBX) hT,hZ,(uh HROW).below hT⟩);have hwl:U.heap.size<=w1.heap.size:=b1.size;have d1:¬ w1.heap.size=X.heap.size:=(by omega);have HWL:=hide (show X.heap.size<=w1.heap.size by omega);have NE:=hide (show ∀ g,(Value.slice qa s.attrs.length ca).ownBlock=some g->g ≠ w1.heap.size from fun g hg=>(by have:=(own_lt (uh HROW).at' g hg).2;omega));have HLS:=hide (hown.ls.below bZ);have HAR:=hide (atR_ws hws);have HM:=hide hM2;clear c0 c1 c2 c3 c4 c5 c6 c7 c8 c9 cf;obtain ⟨c0,c1,c2,c3,c4,c5,c6,c7,c8,c9,cf⟩:=of10z (uh P1).box;obtain ⟨l0,l1,lf⟩:=of2z (uh P1).loc;clear bZ hZ hT hM hM2 hws hown)
         go_upto_region 24 with fail
         go_cut [149] from 141 to 148 (fun v V=>∃ bk:Bool,v=.bool bk/\Hid (bk=decide (rest.map Lb=[wInt]))/\Z=V)
         case first =>
          by_cases h3:M=3
          ·have e3:((M:Int) == 3)=true:=by rw [h3];rfl
           have m2:(2:Int) < (M:Int):=by omega
           have m3:¬ (M:Int)<=2:=by omega
           obtain ⟨z,rfl⟩:∃ z,rest=[z]:=by
            have:=uh HM
            match rest,this with
            | [z],_=>exact ⟨z,rfl⟩
            | [],h=>simp at h;omega
            | z :: z2 :: t,h=>simp at h;omega
           obtain ⟨_,_,q2,_,r2⟩:=strAt (uh HLS) (j:=2) rfl
           injection q2 with q2
           injection q2 with u2 v2
           subst u2 v2
           rw [Nat.zero_add] at r2
           obtain ⟨bz,hbz⟩:∃ b,(z.toList == [105,110,116])=b:=⟨_,rfl⟩
           have HV:=hide (show bz=decide ([z].map Lb=[wInt]) by rw [<- hbz];exact int_is)
           clear h3
           go_wp2
           go_meet
           exact ⟨bz,rfl,HV,rfl⟩
          ·have e3:((M:Int) == 3)=false:=by rw [beq_eq_false_iff_ne];omega
           have HV:=hide (show false=decide (rest.map Lb=[wInt]) from (decide_eq_false (fun h=>h3 (by have h4:=congrArg List.length h;rw [List.length_map] at h4;have:=uh HM;simp at h4;omega))).symm)
           clear h3
           go_wp2
           go_meet
           exact ⟨false,rfl,HV,rfl⟩
         case rest =>
          obtain ⟨bk,rfl,HBK,rfl⟩:=hcut
          go_upto_if 149 with fail
          go_cut [] from 150 to 150 (fun V=>∃ kd:Int,Hid (atR (Lb A)=(y,kd))/\Hid (AdS Y V X.heap.size #[.int .i64 s.cfg.d,.int .i64 s.cfg.c,.int .i64 s.cfg.s,.int .i64 s.cfg.t,.int .i64 s.cfg.h,.int .i64 s.cfg.q,.int .i64 s.cfg.w,.int .i64 s.cfg.u,.slice qa s.attrs.length ca,.slice qo us.length co] w1.heap.size #[.string y,.int .i64 kd] 62 qa ca qo co us s))
          case first =>
           cases bk with
           | false =>
            have HAK:=hide (show atR (Lb A)=(y,2) by rw [uh HAR,if_neg (of_decide_eq_false (uh HBK).symm)])
            go_wp2
            go_meet
            exact ⟨2,HAK,P1⟩
           | true =>
            have HAK:=hide (show atR (Lb A)=(y,1) by rw [uh HAR,if_pos (of_decide_eq_true (uh HBK).symm)])
            have P2:=hide ((uh P1).kind d1 (uh HWL) (by decide) (uh NE) (.int .i64 1))
            go_wp2
            go_meet
            exact ⟨1,HAK,P2⟩
          case rest =>
           obtain ⟨kd,HAK,P2⟩:=hcut
           clear c0 c1 c2 c3 c4 c5 c6 c7 c8 c9 cf l0 l1 lf P1 HBK
           obtain ⟨c0,c1,c2,c3,c4,c5,c6,c7,c8,c9,cf⟩:=of10z (uh P2).box
           obtain ⟨l0,l1,lf⟩:=of2z (uh P2).loc
           rw [uh HAK] at hdv
           obtain ⟨EE,hEE⟩:∃ x,newE (s.attrs ++ [(y,kd)])=x:=⟨_,rfl⟩
           have HNW:=hide (fun q c W h=>refNew_any3 q c (s.attrs ++ [(y,kd)]) (s.attrs.length + 1) (by simp) W (by omega) h EE hEE)
           have HDV:=hide hdv
           have HEE:=hide hEE
           clear hdv hEE
           have hws1:X.heap.size < wc.heap.size:=heap_lt (uh P2).box
           have hws2:w1.heap.size < wc.heap.size:=heap_lt (uh P2).loc
           have d3:¬ wc.heap.size=X.heap.size:=by omega
           have d4:¬ X.heap.size=wc.heap.size:=by omega
           have d5:¬ wc.heap.size=w1.heap.size:=by omega
           have d6:¬ w1.heap.size=wc.heap.size:=by omega
           go_upto_region 27 with (at_builtin;refine wpList_app rowAt rfl _ _ rfl (X.heap.size + 1) qa ca s.attrs (some ⟨wc.heap.size,0,none⟩) 1 [(y,kd)] s.attrs.length 1 (s.attrs.length + 1) rfl rfl rfl rfl rfl ((uh P2).rows.at'.below (Below.alloc (Below.refl _ _) (Nat.le_refl _) _)) (one_at wc (y,kd)).src (by unfold maxLen;omega) (by omega) (by simp;omega) ?_;intro q5 c5' w5 o5 bl5 _ g5;have P7:=hide (((uh P2).below (Below.alloc (Below.refl _ _) (Nat.le_refl _) _)).appAt g5 o5 bl5 (uh NE));clear c0 c1 c2 c3 c4 c5 c6 c7 c8 c9 cf l0 l1 lf o5 bl5 g5;obtain ⟨c0,c1,c2,c3,c4,c5,c6,c7,c8,c9,cf⟩:=of10z (uh P7).box;obtain ⟨l0,l1,lf⟩:=of2z (uh P7).loc)
           go_upto_region 28 with (go_at_call 29;have P8:=hide ((uh P7).set8 d1 (.slice q5 (s.attrs.length + 1) c5'));refine (uh HNW q5 c5' _ (ats_own (uh P8).rows.at')).mono ?_;rintro e w9 ⟨⟨qn,nn,cn,rfl⟩,b9⟩;have P9:=hide ((uh P8).below b9);clear c0 c1 c2 c3 c4 c5 c6 c7 c8 c9 cf l0 l1 lf b9;obtain ⟨c0,c1,c2,c3,c4,c5,c6,c7,c8,c9,cf⟩:=of10z (uh P9).box;obtain ⟨l0,l1,lf⟩:=of2z (uh P9).loc)
           cases bo with
           | false =>
            go_wp2
            go_meet
            exact ⟨false,rfl,hide (by simp),hide (uh P9).bl,hide (fun _ _ h=>by cases h)⟩
           | true =>
            by_cases hok:AtsOk (s.attrs ++ [(y,kd)])
            ·have kE:(EE == 0)=true:=by rw [<- uh HEE];unfold newE;rw [if_pos hok];rfl
             obtain ⟨D,hD⟩:∃ D,(⟨(attrB (y,kd)).toArray⟩:ByteArray)=D:=⟨_,rfl⟩
             have hDl:Lb D=attrB (y,kd):=by rw [<- hD,lb_mk]
             have HCA:=hide (fun W=>refAttr_any (y,kd) W (AtsOk.last hok))
             rw [hD] at HCA
             obtain ⟨bl,hbl⟩:∃ b,(D.toList == A.toList)=b:=⟨_,rfl⟩
             have HD2:=hide (show addS s n (Lb A)=if bl=true then some ⟨s.cfg,s.attrs ++ [(y,kd)],s.ops⟩ else none by
              rw [uh HDV,<- hbl]
              by_cases hl:attrB (y,kd)=Lb A
              ·rw [if_pos ⟨hok,hl⟩,if_pos (by
                rw [ByteArray.toList_eq,ByteArray.toList_eq]
                show (Lb D == Lb A)=true
                rw [hDl,hl]
                exact beq_self_eq_true _)]
              ·rw [if_neg (fun h=>hl h.2),if_neg (by
                rw [ByteArray.toList_eq,ByteArray.toList_eq,beq_iff_eq]
                show ¬ Lb D=Lb A
                rw [hDl]
                exact hl)])
             clear hok hD hDl
             go_wp2_with (go_at_call 31;refine (uh HCA _).mono ?_;rintro e w10 ⟨rfl,b10⟩;have PA:=hide ((uh P9).below b10);clear b10)
             go_meet
             exact ⟨bl,rfl,hide (by rw [uh HD2];cases bl <;> rfl),hide (uh PA).bl,hide (fun s' h hb=>by rw [uh HD2,if_pos hb] at h;injection h with h;rw [<- h];exact ⟨q5,c5',qo,co,us,by rw [show (s.attrs ++ [(y,(kd:Int))]).length=s.attrs.length + 1 by simp];exact (uh PA).box,(uh PA).rows⟩)⟩
            ·have kE:(EE == 0)=false:=by
              rw [<- uh HEE,beq_eq_false_iff_ne]
              unfold newE
              rw [if_neg hok]
              split <;> decide
             have HD2:=hide (show addS s n (Lb A)=none by rw [uh HDV,if_neg (fun h=>hok h.1)])
             clear hok
             go_wp2
             go_meet
             exact ⟨false,rfl,hide (by rw [uh HD2];rfl),hide (uh P9).bl,hide (fun _ _ h=>by cases h)⟩
     case rest =>
      obtain ⟨b,rfl,HB,HBV,HIV⟩:=hcut
      have xr:=((uh HBV).block _ hrs).trans (uh HZ)
      obtain ⟨z0,z1,z2,z3,z4,z5,z6,z7,z8,z9,zf⟩:=of10z xr
      clear xr
      cases b with
      | false =>
       have HR0:=hide (show readS (Lb text)=(n,none) by
        rw [<- uh HRD]
        have hb:=uh HB
        have hc:=uh HCU
        cases bo with
        | false=>exact readFrom_none (by rintro ⟨h1,h2⟩;exact hex ⟨by intro h;have:=congrArg List.length h2;rw [List.length_drop,uh HLN] at this;simp at this;omega,h1⟩) (by simpa using hc)
        | true =>
         rw [if_pos rfl] at hc
         cases ha:addS s n (Lb A) with
         | none=>exact readFrom_bad hc ha
         | some s'=>rw [ha] at hb;simp at hb)
       go_wp2
       exact bodyPost_ret (v:=.tuple #[.agg #[.int .i64 0,.int .i64 0,.int .i64 0,.int .i64 0,.int .i64 0,.int .i64 0,.int .i64 0,.int .i64 0,.slice none 0 0,.slice none 0 0],.int .i64 (n:Int),.int .i64 10]) (by simp [results,Tryz.results19,go_sem,z0,z1,z2,z3,z4,z5,z6,z7,z8,z9]) rfl ⟨Or.inr ⟨_,uh HR0,rfl⟩,below_none (gr_put (gr_put (gr_put (gr_put (gr_put (gr_put (gr_put (gr_put (gr_put (gr_put (gr_of (below_tr (uh HWX) ((uh HBV).mono hwsb)) none) (Nat.le_refl _) _ _) (Nat.le_refl _) _ _) (Nat.le_refl _) _ _) (Nat.le_refl _) _ _) (Nat.le_refl _) _ _) (Nat.le_refl _) _ _) (Nat.le_refl _) _ _) (Nat.le_refl _) _ _) (Nat.le_refl _) _ _) (Nat.le_refl _) _ _)⟩
      | true =>
       have hb:=uh HB
       have hbt:bo=true:=by cases bo with
        | false=>simp at hb
        | true=>rfl
       subst hbt
       have hjl:j < text.size:=of_decide_eq_true hbo
       obtain ⟨s',ha⟩:∃ s',addS s n (Lb A)=some s':=by
        cases ha:addS s n (Lb A) with
        | none=>rw [ha] at hb;simp at hb
        | some s'=>exact ⟨s',rfl⟩
       have HIS:=hide (uh HIV s' ha rfl)
       have hc:=uh HCU
       rw [if_pos rfl] at hc
       have HR0:=hide (show readFrom (n + 1) s' ((Lb text).drop (j + 1))=readS (Lb text) by rw [<- uh HRD,readFrom_step hc ha])
       have HOK2:=hide (show n + 1 ≠ 1->ScrOk s' from fun _=>ok_add (uh HS0) (uh HOK) ha)
       clear hb ha hc
       go_wp2
       exact ⟨⟨j + 1,n + 1,s',by go_num,by go_num,by omega,by omega,by omega,hide (fun h=>by omega),HR0,hide (fun h=>by omega),HOK2,HIS,HBV⟩,by simp [intOf];omega⟩
end Go.Proofs.YtdgoibnndfibnaaGreatDoor

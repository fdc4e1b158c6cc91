/- Parse of any text. -/
import Derived.Test.YtdgoibnndfibnaaGreatDoorRS27
namespace Go.Proofs.YtdgoibnndfibnaaGreatDoor
open Go.RowKit Go.Sort
theorem InB.below {w w':World} {sb:Nat} {s:Scr} (h:InB w sb s) (hb:Below w.heap.size w w'):InB w' sb s:=by
 obtain ⟨qa,ca,qo,co,us,h1,h2⟩:=h
 exact ⟨qa,ca,qo,co,us,blk_onS h1 hb,h2.below hb⟩
theorem InB.le {w:World} {sb:Nat} {s:Scr} (h:InB w sb s):sb<=w.heap.size:=by
 obtain ⟨qa,ca,qo,co,us,h1,h2⟩:=h
 exact Nat.le_of_lt (heap_lt h1)
theorem of10z {W:World} {b:Nat} {a0 a1 a2 a3 a4 a5 a6 a7 a8 a9:Value} {T:TypeId} (h:W.heap[b]? = some (.cells #[a0,a1,a2,a3,a4,a5,a6,a7,a8,a9] T (0,0))):W.cell? ⟨b,0,none⟩=some a0/\W.cell? ⟨b,1,none⟩=some a1/\W.cell? ⟨b,2,none⟩=some a2/\W.cell? ⟨b,3,none⟩=some a3/\W.cell? ⟨b,4,none⟩=some a4/\W.cell? ⟨b,5,none⟩=some a5/\W.cell? ⟨b,6,none⟩=some a6/\W.cell? ⟨b,7,none⟩=some a7/\W.cell? ⟨b,8,none⟩=some a8/\W.cell? ⟨b,9,none⟩=some a9/\∀ o,W.frozen? ⟨b,o,none⟩=false:=by
 obtain ⟨x0,x1,x2,x3,x4,x5,x6,x7⟩:=of8a h
 obtain ⟨x8,x9,xf⟩:=of10s h
 exact ⟨x0,x1,x2,x3,x4,x5,x6,x7,x8,x9,xf⟩
/-- Any line is added. -/
theorem add_any (w0:World) (hG:G w0) (sb:Nat) (s:Scr) (L:Bs) (w:World) (hw:Below w0.heap.size w0 w) (h0:w0.heap.size<=sb) (hs:InB w sb s) (hz:L.length<=100000000000) (line:ByteArray) (hl:line=⟨L.toArray⟩) (n:Nat) (m:Int) (hm:m=(n:Int)) (ha:s.attrs.length<=64) (ho:s.ops.length<=4096) :
    Calls Tryz.prog 41 #[.pointer (some ⟨sb,0,none⟩),.int .i64 m,.string line] w fun e w'=>AddP w sb s n L e w':=by
  by_cases hn:n=1
  · subst hn;subst hm
    exact add_1 w0 hG sb s L w hw h0 hs (by omega) line hl _ rfl
  · have hm1:(m == 1)=false:=by rw [beq_eq_false_iff_ne];omega
    obtain ⟨qa,ca,qo,co,us,hbx,hrw⟩:=hs
    have hul:=hrw.ops.1
    by_cases hk:(nextW L).1=wAttr
    · cases us with
      | cons u us'=>exact add_atA sb s L w qa ca qo co (u :: us') hbx hrw (by omega) line hl m hm1 n hn hk ha _ rfl (by rw [beq_eq_false_iff_ne,List.length_cons];omega)
      | nil =>
        by_cases hE:newE (s.attrs ++ [rdAttr (nextW L).2])=0
        · exact add_atC sb s L w qa ca qo co hbx hrw (by omega) line hl m hm1 n hn hk ha hE _ rfl
        · exact add_atB sb s L w qa ca qo co hbx hrw (by omega) line hl m hm1 n hn hk ha _ rfl (by rw [beq_eq_false_iff_ne];exact hE)
    · have hle:us.length<=4096:=by rw [hul];exact ho
      by_cases hc:us.length + 1<=4096
      · cases hok:opOk (rdOp (nextW L).1 (nextW L).2) with
        | true=>exact add_opC w0 hG sb s L w hw h0 qa ca qo co us hbx hrw hz line hl m hm1 n hn hk hle hc hok _ rfl
        | false=>exact add_opB w0 hG sb s L w hw h0 qa ca qo co us hbx hrw hz line hl m hm1 n hn hk hle hc hok
      · exact add_opA w0 hG sb s L w hw h0 qa ca qo co us hbx hrw hz line hl m hm1 n hn hk hle hc
/-- What Parse answers. -/
def ParseP (w:World) (L:Bs) (e:Ending) (w':World):Prop :=
  ((∃ s:Scr,readS L=(0,some s)/\∃ (qa:Option Addr) (ca:Nat) (qo:Option Addr) (co:Nat) (us:List Ou),e=.returned (.tuple #[.agg #[.int .i64 s.cfg.d,.int .i64 s.cfg.c,.int .i64 s.cfg.s,.int .i64 s.cfg.t,.int .i64 s.cfg.h,.int .i64 s.cfg.q,.int .i64 s.cfg.w,.int .i64 s.cfg.u,.slice qa s.attrs.length ca,.slice qo us.length co],.int .i64 0,.int .i64 0])/\Rows w.heap.size w' qa ca qo co us s) ∨
   (∃ n:Nat,readS L=(n,none)/\e=.returned (.tuple #[.agg #[.int .i64 0,.int .i64 0,.int .i64 0,.int .i64 0,.int .i64 0,.int .i64 0,.int .i64 0,.int .i64 0,.slice none 0 0,.slice none 0 0],.int .i64 (n:Int),.int .i64 10])))/\Below w.heap.size w w'
theorem Rows.mono {B B':Nat} {w:World} {qa:Option Addr} {ca:Nat} {qo:Option Addr} {co:Nat} {us:List Ou} {s:Scr} (h:Rows B w qa ca qo co us s) (hb:B'<=B):Rows B' w qa ca qo co us s:=⟨h.1.mono hb,h.2.mono hb,h.3.1,fun j u o h1 h2=>(h.3.2 j u o h1 h2).mono hb⟩
set_option maxHeartbeats 16000000 in
set_option maxRecDepth 100000 in
theorem parseScr_any (L:Bs) (w:World) (hG:G w) (hz:L.length<=100000000000) (text:ByteArray) (hl:text=⟨L.toArray⟩) :
  Calls Tryz.prog 18 #[.string text] w fun e w'=>ParseP w L e w':=by
 obtain ⟨X,HX⟩:∃ X,w.alloc (.cells #[.int .i64 0,.int .i64 0,.int .i64 0,.int .i64 0,.int .i64 0,.int .i64 0,.int .i64 0,.int .i64 0,.slice none 0 0,.slice none 0 0] 29)=X:=⟨_,rfl⟩
 have bX:Below w.heap.size w X:=by rw [<- HX];exact (Below.refl _ _).alloc (Nat.le_refl _) _
 have hX:X.heap[w.heap.size]? = some (.cells #[.int .i64 0,.int .i64 0,.int .i64 0,.int .i64 0,.int .i64 0,.int .i64 0,.int .i64 0,.int .i64 0,.slice none 0 0,.slice none 0 0] 29 (0,0)):=by rw [<- HX];exact box_new _ _
 obtain ⟨Y,HY⟩:∃ Y,X.alloc (.cells #[.int .i64 0,.int .i64 0,.int .i64 0,.int .i64 0,.int .i64 0,.int .i64 0,.int .i64 0,.int .i64 0,.slice none 0 0,.slice none 0 0] 29)=Y:=⟨_,rfl⟩
 have bY:Below X.heap.size X Y:=by rw [<- HY];exact (Below.refl _ _).alloc (Nat.le_refl _) _
 have hY:Y.heap[X.heap.size]? = some (.cells #[.int .i64 0,.int .i64 0,.int .i64 0,.int .i64 0,.int .i64 0,.int .i64 0,.int .i64 0,.int .i64 0,.slice none 0 0,.slice none 0 0] 29 (0,0)):=by rw [<- HY];exact box_new _ _
 have hrs:w.heap.size < X.heap.size:=heap_lt hX
 have hwsb:w.heap.size<=X.heap.size:=Nat.le_of_lt hrs
 have h0:=hwsb
 have HWX:=hide (below_sub bX bY)
 have HW0:=hide (below_sub bX bY)
 have HZ:=hide (blk_onS hX bY)
 have HG:=hide hG
 have hI0:InB Y X.heap.size scr0:=⟨none,0,none,0,[],hY,OwnK.nil _ _,OwnK.nil _ _,rfl,fun j u o h1 _=>by simp at h1⟩
 have HI0:=hide hI0
 have HL0:=hide hl
 clear bX bY hX hY hI0 hG hl
 go_enter Tryz.func18,Tryz.ntmps18
 go_wp2
 go_loopw [0,6] (fun tx nb wr=>∃ (t:ByteArray) (T:Bs) (n:Nat) (s:Scr),tx=.string t/\Hid (t=⟨T.toArray⟩)/\nb=.int .i64 (n:Int)/\1<=n/\n + T.length<=L.length + 1/\Hid (readFrom n s T=readS L)/\Hid (n=1->s=scr0)/\Hid (n ≠ 1->ScrOk s)/\Hid (InB wr X.heap.size s)/\Hid (Below X.heap.size Y wr)) (fun tx _ _=>strSz tx)
 case atStart=>exact ⟨text,L,1,scr0,rfl,HL0,rfl,by omega,by omega,hide rfl,hide (fun _=>rfl),hide (fun h=>absurd rfl h),HI0,hide (Below.refl _ _)⟩
 case round =>
  clear HI0
  obtain ⟨t,T,n,s,rfl,HT,rfl,hn1,hnl,HRD,HS0,HOK,HI,HBL⟩:=hrel
  have HW1:=hide (below_tr (uh HWX) ((uh HBL).mono hwsb))
  have ht0:t.size=T.length:=by rw [uh HT,ba_size]
  have htl:Lb t=T:=by rw [uh HT,lb_mk]
  by_cases hex:n ≠ 1/\T=[]
  ·obtain ⟨hx1,rfl⟩:=hex
   obtain rfl:t=⟨#[]⟩:=uh HT
   have kn:((n:Int) == 1)=false:=by rw [beq_eq_false_iff_ne];omega
   have HR0:=hide (show readS L=(0,some s) by rw [<- uh HRD,readFrom_end hx1])
   obtain ⟨qa,ca,qo,co,us,hbx,hrw⟩:=uh HI
   obtain ⟨c0,c1,c2,c3,c4,c5,c6,c7,c8,c9,cf⟩:=of10z hbx
   have xr:=((uh HBL).block _ hrs).trans (uh HZ)
   obtain ⟨z0,z1,z2,z3,z4,z5,z6,z7,z8,z9,zf⟩:=of10z xr
   have HRW:=hide hrw
   have HXR:=hide xr
   have n3:¬ X.heap.size=w.heap.size:=by omega
   clear hbx xr hrw hx1 ht0 htl
   go_wp2
   refine bodyPost_ret (v:=.tuple #[.agg #[.int .i64 s.cfg.d,.int .i64 s.cfg.c,.int .i64 s.cfg.s,.int .i64 s.cfg.t,.int .i64 s.cfg.h,.int .i64 s.cfg.q,.int .i64 s.cfg.w,.int .i64 s.cfg.u,.slice qa s.attrs.length ca,.slice qo us.length co],.int .i64 0,.int .i64 0]) (by simp [results,Tryz.results18,go_sem,z0,z1,z2,z3,z4,z5,z6,z7,z8,z9]) rfl ⟨Or.inl ⟨s,uh HR0,qa,ca,qo,co,us,rfl, ?_⟩, ?_⟩
   ·exact Rows.mono ((uh HRW).ty (gr_set (gr_set (gr_set (gr_set (gr_set (gr_set (gr_set (gr_set (gr_set (gr_set (gr_refl _ _) 0 (.int .i64 s.cfg.d)) 1 (.int .i64 s.cfg.c)) 2 (.int .i64 s.cfg.s)) 3 (.int .i64 s.cfg.t)) 4 (.int .i64 s.cfg.h)) 5 (.int .i64 s.cfg.q)) 6 (.int .i64 s.cfg.w)) 7 (.int .i64 s.cfg.u)) 8 (.slice qa s.attrs.length ca)) 9 (.slice qo us.length co)) (uh HXR) (by decide) (by decide) (by decide) (by decide)) (by omega)
   ·exact below_none (gr_put (gr_put (gr_put (gr_put (gr_put (gr_put (gr_put (gr_put (gr_put (gr_put (gr_of (uh HW1) none) (Nat.le_refl _) _ _) (Nat.le_refl _) _ _) (Nat.le_refl _) _ _) (Nat.le_refl _) _ _) (Nat.le_refl _) _ _) (Nat.le_refl _) _ _) (Nat.le_refl _) _ _) (Nat.le_refl _) _ _) (Nat.le_refl _) _ _) (Nat.le_refl _) _ _)
  ·obtain ⟨la,hla⟩:∃ a,cutA 10 t=a:=⟨_,rfl⟩
   obtain ⟨lz,hlz⟩:∃ a,cutZ 10 t=a:=⟨_,rfl⟩
   have hcut:=fun W=>cut_any t 10 W (by omega)
   rw [hla,hlz,htl,cutB_10] at hcut
   unfold cutA at hla
   unfold cutZ at hlz
   rw [htl,cutB_10] at hla hlz
   cases hc:cut10 T with
   | none =>
    rw [hc] at hcut
    have HCUT:=hide hcut
    have HR0:=hide (show readS L=(n,none) by rw [<- uh HRD,readFrom_none hex hc])
    have xr:=((uh HBL).block _ hrs).trans (uh HZ)
    have HXR:=hide xr
    clear hcut hla hlz xr hc
    by_cases h1:n=1
    ·subst h1
     clear hex ht0 htl
     go_wp2_with (go_at_call 40;refine (uh HCUT _).mono ?_;rintro e w1 ⟨rfl,b1⟩;have I1:=hide ((uh HI).below b1);have B1:=hide (below_tr (uh HBL) (b1.mono (uh HI).le));have xr:=((uh B1).block _ hrs).trans (uh HZ);obtain ⟨z0,z1,z2,z3,z4,z5,z6,z7,z8,z9,zf⟩:=of10z xr;clear b1 xr)
     exact bodyPost_ret (v:=.tuple #[.agg #[.int .i64 0,.int .i64 0,.int .i64 0,.int .i64 0,.int .i64 0,.int .i64 0,.int .i64 0,.int .i64 0,.slice none 0 0,.slice none 0 0],.int .i64 (1:Int),.int .i64 10]) (by simp [results,Tryz.results18,go_sem,z0,z1,z2,z3,z4,z5,z6,z7,z8,z9]) rfl ⟨Or.inr ⟨_,uh HR0,rfl⟩,below_none (gr_put (gr_put (gr_put (gr_put (gr_put (gr_put (gr_put (gr_put (gr_put (gr_put (gr_of (below_tr (uh HWX) ((uh B1).mono hwsb)) none) (Nat.le_refl _) _ _) (Nat.le_refl _) _ _) (Nat.le_refl _) _ _) (Nat.le_refl _) _ _) (Nat.le_refl _) _ _) (Nat.le_refl _) _ _) (Nat.le_refl _) _ _) (Nat.le_refl _) _ _) (Nat.le_refl _) _ _) (Nat.le_refl _) _ _)⟩
    ·have kt:(t.toList == [])=false:=by rw [beq_eq_false_iff_ne];intro h;exact hex ⟨h1,by rw [<- htl,ba_ext (h.trans (show []=ByteArray.toList ⟨#[]⟩ by first | rfl | decide | simp))];rfl⟩
     have kn:((n:Int) == 1)=false:=by rw [beq_eq_false_iff_ne];omega
     clear hex ht0 htl h1
     go_wp2_with (go_at_call 40;refine (uh HCUT _).mono ?_;rintro e w1 ⟨rfl,b1⟩;have I1:=hide ((uh HI).below b1);have B1:=hide (below_tr (uh HBL) (b1.mono (uh HI).le));have xr:=((uh B1).block _ hrs).trans (uh HZ);obtain ⟨z0,z1,z2,z3,z4,z5,z6,z7,z8,z9,zf⟩:=of10z xr;clear b1 xr)
     exact bodyPost_ret (v:=.tuple #[.agg #[.int .i64 0,.int .i64 0,.int .i64 0,.int .i64 0,.int .i64 0,.int .i64 0,.int .i64 0,.int .i64 0,.slice none 0 0,.slice none 0 0],.int .i64 (n:Int),.int .i64 10]) (by simp [results,Tryz.results18,go_sem,z0,z1,z2,z3,z4,z5,z6,z7,z8,z9]) rfl ⟨Or.inr ⟨_,uh HR0,rfl⟩,below_none (gr_put (gr_put (gr_put (gr_put (gr_put (gr_put (gr_put (gr_put (gr_put (gr_put (gr_of (below_tr (uh HWX) ((uh B1).mono hwsb)) none) (Nat.le_refl _) _ _) (Nat.le_refl _) _ _) (Nat.le_refl _) _ _) (Nat.le_refl _) _ _) (Nat.le_refl _) _ _) (Nat.le_refl _) _ _) (Nat.le_refl _) _ _) (Nat.le_refl _) _ _) (Nat.le_refl _) _ _) (Nat.le_refl _) _ _)⟩
   | some x =>
    rw [hc] at hcut hla hlz
    simp only at hla hlz
    obtain ⟨ec,_⟩:=cut10_len hc
    have hlen:T.length=x.1.length + (x.2.length + 1):=by rw [ec];simp
    have HCUT:=hide hcut
    have hadd:=fun W hW hIn m hm=>add_any w (uh HG) X.heap.size s x.1 W hW hwsb hIn (by omega) la hla.symm n m hm (if h:n=1 then (by rw [uh HS0 h];simp [scr0]) else (by exact (uh HOK h).attrs.1)) (if h:n=1 then (by rw [uh HS0 h];simp [scr0]) else (by exact (uh HOK h).len))
    clear hcut ec
    cases ha:addS s n x.1 with
    | none =>
     have HADD:=hide (show ∀ W,Below w.heap.size w W->InB W X.heap.size s->∀ m:Int,m=(n:Int)->Calls Tryz.prog 41 #[.pointer (some ⟨X.heap.size,0,none⟩),.int .i64 m,.string la] W fun e w'=>e=.returned (.bool false)/\Below X.heap.size W w' from fun W h1 h2 m hm=>(hadd W h1 h2 m hm).mono (by rintro e w' ⟨h3,h4,_⟩;rw [ha] at h3;exact ⟨h3,h4⟩))
     have HR0:=hide (show readS L=(n,none) by rw [<- uh HRD,readFrom_bad hc ha])
     clear hla hlz hc ha hadd
     by_cases h1:n=1
     ·subst h1
      clear hex ht0 htl
      go_wp2_with (first
       | (go_at_call 40;refine (uh HCUT _).mono ?_;rintro e w1 ⟨rfl,b1⟩;have I1:=hide ((uh HI).below b1);have B1:=hide (below_tr (uh HBL) (b1.mono (uh HI).le));have xr:=((uh B1).block _ hrs).trans (uh HZ);obtain ⟨z0,z1,z2,z3,z4,z5,z6,z7,z8,z9,zf⟩:=of10z xr;clear b1 xr)
       | (go_at_call 41;refine (uh HADD _ (below_tr (uh HW0) ((uh B1).mono hwsb)) (uh I1) _ (by first | rfl | simp)).mono ?_;rintro e w2 ⟨rfl,b2⟩;have B2:=hide (below_tr (uh B1) b2);have xr:=((uh B2).block _ hrs).trans (uh HZ);clear z0 z1 z2 z3 z4 z5 z6 z7 z8 z9 zf;obtain ⟨z0,z1,z2,z3,z4,z5,z6,z7,z8,z9,zf⟩:=of10z xr;clear b2 xr))
      exact bodyPost_ret (v:=.tuple #[.agg #[.int .i64 0,.int .i64 0,.int .i64 0,.int .i64 0,.int .i64 0,.int .i64 0,.int .i64 0,.int .i64 0,.slice none 0 0,.slice none 0 0],.int .i64 (1:Int),.int .i64 10]) (by simp [results,Tryz.results18,go_sem,z0,z1,z2,z3,z4,z5,z6,z7,z8,z9]) rfl ⟨Or.inr ⟨_,uh HR0,rfl⟩,below_none (gr_put (gr_put (gr_put (gr_put (gr_put (gr_put (gr_put (gr_put (gr_put (gr_put (gr_of (below_tr (uh HWX) ((uh B2).mono hwsb)) none) (Nat.le_refl _) _ _) (Nat.le_refl _) _ _) (Nat.le_refl _) _ _) (Nat.le_refl _) _ _) (Nat.le_refl _) _ _) (Nat.le_refl _) _ _) (Nat.le_refl _) _ _) (Nat.le_refl _) _ _) (Nat.le_refl _) _ _) (Nat.le_refl _) _ _)⟩
     ·have kt:(t.toList == [])=false:=by rw [beq_eq_false_iff_ne];intro h;exact hex ⟨h1,by rw [<- htl,ba_ext (h.trans (show []=ByteArray.toList ⟨#[]⟩ by first | rfl | decide | simp))];rfl⟩
      have kn:((n:Int) == 1)=false:=by rw [beq_eq_false_iff_ne];omega
      clear hex ht0 htl h1
      go_wp2_with (first
       | (go_at_call 40;refine (uh HCUT _).mono ?_;rintro e w1 ⟨rfl,b1⟩;have I1:=hide ((uh HI).below b1);have B1:=hide (below_tr (uh HBL) (b1.mono (uh HI).le));have xr:=((uh B1).block _ hrs).trans (uh HZ);obtain ⟨z0,z1,z2,z3,z4,z5,z6,z7,z8,z9,zf⟩:=of10z xr;clear b1 xr)
       | (go_at_call 41;refine (uh HADD _ (below_tr (uh HW0) ((uh B1).mono hwsb)) (uh I1) _ (by first | rfl | simp)).mono ?_;rintro e w2 ⟨rfl,b2⟩;have B2:=hide (below_tr (uh B1) b2);have xr:=((uh B2).block _ hrs).trans (uh HZ);clear z0 z1 z2 z3 z4 z5 z6 z7 z8 z9 zf;obtain ⟨z0,z1,z2,z3,z4,z5,z6,z7,z8,z9,zf⟩:=of10z xr;clear b2 xr))
      exact bodyPost_ret (v:=.tuple #[.agg #[.int .i64 0,.int .i64 0,.int .i64 0,.int .i64 0,.int .i64 0,.int .i64 0,.int .i64 0,.int .i64 0,.slice none 0 0,.slice none 0 0],.int .i64 (n:Int),.int .i64 10]) (by simp [results,Tryz.results18,go_sem,z0,z1,z2,z3,z4,z5,z6,z7,z8,z9]) rfl ⟨Or.inr ⟨_,uh HR0,rfl⟩,below_none (gr_put (gr_put (gr_put (gr_put (gr_put (gr_put (gr_put (gr_put (gr_put (gr_put (gr_of (below_tr (uh HWX) ((uh B2).mono hwsb)) none) (Nat.le_refl _) _ _) (Nat.le_refl _) _ _) (Nat.le_refl _) _ _) (Nat.le_refl _) _ _) (Nat.le_refl _) _ _) (Nat.le_refl _) _ _) (Nat.le_refl _) _ _) (Nat.le_refl _) _ _) (Nat.le_refl _) _ _) (Nat.le_refl _) _ _)⟩
    | some s' =>
     have HADD:=hide (show ∀ W,Below w.heap.size w W->InB W X.heap.size s->∀ m:Int,m=(n:Int)->Calls Tryz.prog 41 #[.pointer (some ⟨X.heap.size,0,none⟩),.int .i64 m,.string la] W fun e w'=>e=.returned (.bool true)/\Below X.heap.size W w'/\InB w' X.heap.size s' from fun W h1 h2 m hm=>(hadd W h1 h2 m hm).mono (by rintro e w' ⟨h3,h4,h5⟩;rw [ha] at h3;exact ⟨h3,h4,h5 s' ha⟩))
     have HR0:=hide (show readFrom (n + 1) s' x.2=readS L by rw [<- uh HRD,readFrom_step hc ha])
     have HOK2:=hide (show n + 1 ≠ 1->ScrOk s' from fun _=>ok_add (uh HS0) (uh HOK) ha)
     have hsz:lz.size=x.2.length:=by rw [<- hlz,ba_size]
     have HLZ:=hide hlz.symm
     clear hla hlz hc ha hadd
     have hlt:lz.size < t.size:=by omega
     by_cases h1:n=1
     ·subst h1
      clear hex htl
      go_wp2_with (first
       | (go_at_call 40;refine (uh HCUT _).mono ?_;rintro e w1 ⟨rfl,b1⟩;have I1:=hide ((uh HI).below b1);have B1:=hide (below_tr (uh HBL) (b1.mono (uh HI).le));have xr:=((uh B1).block _ hrs).trans (uh HZ);obtain ⟨z0,z1,z2,z3,z4,z5,z6,z7,z8,z9,zf⟩:=of10z xr;clear b1 xr)
       | (go_at_call 41;refine (uh HADD _ (below_tr (uh HW0) ((uh B1).mono hwsb)) (uh I1) _ (by first | rfl | simp)).mono ?_;rintro e w2 ⟨rfl,b2,i2⟩;have B2:=hide (below_tr (uh B1) b2);have I2:=hide i2;clear b2 i2))
      exact ⟨⟨lz,x.2,1 + 1,s',rfl,HLZ,by go_num,by omega,by omega,HR0,hide (fun h=>by omega),HOK2,I2,B2⟩,by simp [strSz];omega⟩
     ·have kt:(t.toList == [])=false:=by rw [beq_eq_false_iff_ne];intro h;exact hex ⟨h1,by rw [<- htl,ba_ext (h.trans (show []=ByteArray.toList ⟨#[]⟩ by first | rfl | decide | simp))];rfl⟩
      have kn:((n:Int) == 1)=false:=by rw [beq_eq_false_iff_ne];omega
      clear hex htl h1
      go_wp2_with (first
       | (go_at_call 40;refine (uh HCUT _).mono ?_;rintro e w1 ⟨rfl,b1⟩;have I1:=hide ((uh HI).below b1);have B1:=hide (below_tr (uh HBL) (b1.mono (uh HI).le));have xr:=((uh B1).block _ hrs).trans (uh HZ);obtain ⟨z0,z1,z2,z3,z4,z5,z6,z7,z8,z9,zf⟩:=of10z xr;clear b1 xr)
       | (go_at_call 41;refine (uh HADD _ (below_tr (uh HW0) ((uh B1).mono hwsb)) (uh I1) _ (by first | rfl | simp)).mono ?_;rintro e w2 ⟨rfl,b2,i2⟩;have B2:=hide (below_tr (uh B1) b2);have I2:=hide i2;clear b2 i2))
      exact ⟨⟨lz,x.2,n + 1,s',rfl,HLZ,by go_num,by omega,by omega,HR0,hide (fun h=>by omega),HOK2,I2,B2⟩,by simp [strSz];omega⟩
end Go.Proofs.YtdgoibnndfibnaaGreatDoor

/- The document's Parse. -/
import Derived.Test.YtencibjmiphinaaGreatDoorEPaR9
import Derived.Test.YtencibjmiphinaaGreatDoorEZas
import Derived.Test.YtencibjmiphinaaGreatDoorEZba
import Derived.Test.YtencibjmiphinaaGreatDoorEZae
import Derived.Test.YtencibjmiphinaaGreatDoorEZah
import Derived.Test.YtencibjmiphinaaGreatDoorESameNode
import Derived.Test.YtencibjmiphinaaGreatDoorEZav
import Derived.Test.YtencibjmiphinaaGreatDoorEZaw
namespace Go.Proofs.YtencibjmiphinaaGreatDoor
open Go.RowKit Go.Sort

theorem one_r (g:Nat) (L:List Tk):∀ (n:Nat),n≤1000000→∀ (i:Nat) (w:World),(L.drop i).length < n→Rd w g L i false →
    Calls Tryz.prog 56 #[.pointer (some ⟨g,0,none⟩)] w fun e w'=>NdA g L i oneP w e w'
  | 0,_,i,w,hl,_=>by omega
  | n + 1,hn,i,w,hl,hp=>by
    have ih:=one_r g L n (by omega)
    have hd:∀ s,isS s false (L.drop i)=true→(L.drop (i + 1)).length < n:=fun s hs=>by
      obtain ⟨_,r,hr⟩:=isS_some hs
      have:=skL_len hr
      simp at this hl ⊢;omega
    cases h1:isS ⟨#[33]⟩ false (L.drop i) with
    | true=>exact one_nt g L i w hp h1 fun W hW=>ih (i + 1) W (hd _ h1) hW
    | false =>
      cases h2:isS ⟨#[40]⟩ false (L.drop i) with
      | true =>
        have h3:=hd _ h2
        exact one_pr g L i w hp h1 h2 fun W hW=>chain4 g L (n - 1) (by omega) (fun j W' hj hW'=>chain3 g L (n - 1) (by omega) (fun k W2 hk hW2=>ih k W2 (by omega) hW2) (fun en=>oneP_dec en) j hj W' hW') (fun en=>chL_dec (oneP_dec en)) (i + 1) (by omega) W hW
      | false=>exact one_pd g L i w hp h1 h2
theorem or_r (g:Nat) (L:List Tk) (n:Nat) (hn:n≤1000000) (i:Nat) (w:World) (hl:(L.drop i).length < n) (h:Rd w g L i false) :
    Calls Tryz.prog 27 #[.pointer (some ⟨g,0,none⟩),.int .i64 4] w fun e w'=>NdA g L i orP w e w' :=
  chain4 g L (n - 1) (by omega) (fun j W' hj hW'=>chain3 g L (n - 1) (by omega) (fun k W2 hk hW2=>one_r g L n hn k W2 (by omega) hW2) (fun en=>oneP_dec en) j hj W' hW') (fun en=>chL_dec (oneP_dec en)) i (by omega) w h
theorem rd_new {B cap:Nat} {w:World} {q:Option Addr} {l:List Tk} (h:Lx.OwnK Lx.encT 56 5 B w q cap l) (hl:l.length≤4096):Rd (w.alloc (.cells #[.slice q l.length cap,.int .i64 0,.bool false] 70)) w.heap.size l 0 false:=by
  refine ⟨q,cap,box_nw w _,Nat.zero_le _,hl,fun h0=>?_⟩
  obtain ⟨b,off,hq,hb,ht⟩:=h.tks.1 h0
  exact ⟨b,off,hq,hb,ht.below ((RowKit.Below.refl w.heap.size w).alloc (Nat.le_refl _) _) hb⟩
set_option maxRecDepth 100000 in
set_option maxHeartbeats 8000000 in
theorem refParse_any (s:ByteArray) (w:World) :
    Calls Tryz.prog 11 #[.string s] w fun e w'=>PrR w (parL s) e w':=by
  by_cases hs:4096 < s.size
  · have hx:parL s=.bad 4096:=by unfold parL;rw [if_pos hs]
    rw [hx]
    have hc:=Lx.refTokens_long s (w.alloc (.cells #[.int .i64 0,.string ⟨#[]⟩,.slice none 0 0,.slice none 0 0,.int .i64 0,.int .i64 0,.int .i64 0,.slice none 0 0] 29)) hs
    clear hx hs
    go_enter Tryz.func11,Tryz.ntmps11
    go_wp2_with (go_at_call 26;refine hc.mono ?_;rintro e w1 ⟨rfl,rfl⟩)
    refine bodyPost_ret (v:=.tuple #[zVal,.int .i64 4096,.int .i64 10]) (by simp [results,Tryz.results11,go_sem,zVal]) rfl ⟨rfl, ?_⟩
    exact bel_z w
  · have hc:=Lx.refTokens_any s (w.alloc (.cells #[.int .i64 0,.string ⟨#[]⟩,.slice none 0 0,.slice none 0 0,.int .i64 0,.int .i64 0,.int .i64 0,.slice none 0 0] 29)) (by omega)
    have hf:=toksL_fit 4096 s.data.toList 0 (by simp;omega) (Nat.le_refl _)
    cases ht:(Lx.toksL s.data.toList 0).2 with
    | some p =>
      have hx:parL s=.bad p:=by unfold parL;rw [if_neg hs,ht]
      rw [hx]
      have HT:=hide ht
      clear hx hs hf ht
      go_enter Tryz.func11,Tryz.ntmps11
      go_wp2_with (go_at_call 26;refine hc.mono ?_;rintro e w1 ⟨h1,hb⟩;obtain ⟨p',h2,rfl⟩ | ⟨h2,_⟩:=h1 <;> rw [uh HT] at h2 <;> cases h2;have HB:=hide hb;clear hb;obtain ⟨z1,⟨q0,q1,q2,q3,q4,q5,q6,q7⟩,qf⟩:=boxR (uh HB))
      refine bodyPost_ret (v:=.tuple #[zVal,.int .i64 p,.int .i64 10]) (by simp [results,Tryz.results11,go_sem,zVal, *]) rfl ⟨rfl, ?_⟩
      exact set8_below (below_sub (bel_z w) (uh HB)) (Nat.le_refl _) _ _ _ _ _ _ _ _
    | none =>
      obtain ⟨l,hl⟩:∃ l,(Lx.toksL s.data.toList 0).1=l:=⟨_,rfl⟩
      have hx:parL s=whL s.size l:=by unfold parL;rw [if_neg hs,ht,hl]
      rw [hx]
      have HT:=hide ht
      rw [hl] at hf
      have hll:l.length≤4096:=by have:=hf.1;simp at this;omega
      have HL:=hide hl
      clear hx hs hf ht hl
      go_enter Tryz.func11,Tryz.ntmps11
      go_upto_region 6 with (first
          | (go_at_call 26;refine hc.mono ?_;rintro e w1 ⟨h1,hb⟩;obtain ⟨p',h2,_⟩ | ⟨_,q,cap,rfl,ho⟩:=h1;(rw [uh HT] at h2;cases h2);rw [uh HL] at ho;have R0:=hide (rd_new ho hll);have HO:=hide ho.tks.1;have HOF:=hide ho;have HB:=hide hb;clear hb ho;rw [uh HL])
          | (go_at_call 27;refine (or_r w1.heap.size l 5000 (by omega) 0 _ (by simp;omega) (uh R0)).mono ?_;rintro e w3 ⟨x,i,b,⟨v,rfl,hv,hr⟩,hm⟩;have HV:=hide hv;have HR:=hide hr;have HM:=hide hm;clear hv hr hm;unfold Nv.val))
      obtain ⟨u1,u2,u3⟩:=res_far (uh HB) (uh HR).2
      have u7:w1.heap.size < w3.heap.size:=by have:=(uh HR).2.size;simp at this;omega
      have u8:w.heap.size < w1.heap.size:=by have:=(uh HB).size;simp at this;omega
      have u9:RowKit.Below w1.heap.size w1 (w3.alloc (.cells #[.int .i64 v.kind,.string v.attr,.slice v.qi v.ni v.ci,.slice v.qw v.nw v.cw,.int .i64 v.lo,.int .i64 v.hi,.int .i64 v.op,.slice v.qk v.nk v.ck] 29)):=(((RowKit.Below.refl w1.heap.size w1).alloc (Nat.le_refl _) (.cells #[.slice q l.length cap,.int .i64 0,.bool false] 70)).grown (uh HR).2 (by simp) (fun k e=>by cases e;exact Nat.le_refl _)).alloc (by omega) _
      have rb:=(uh HR).1.below ((RowKit.Below.refl w3.heap.size w3).alloc (Nat.le_refl _) (.cells #[.int .i64 v.kind,.string v.attr,.slice v.qi v.ni v.ci,.slice v.qw v.nw v.cw,.int .i64 v.lo,.int .i64 v.hi,.int .i64 v.op,.slice v.qk v.nk v.ck] 29))
      have u4:=(u3.alloc (by omega) (.cells #[.int .i64 v.kind,.string v.attr,.slice v.qi v.ni v.ci,.slice v.qw v.nw v.cw,.int .i64 v.lo,.int .i64 v.hi,.int .i64 v.op,.slice v.qk v.nk v.ck] 29))
      have u5:=((RowKit.Below.refl w3.heap.size w3).alloc (Nat.le_refl _) (.cells #[.int .i64 v.kind,.string v.attr,.slice v.qi v.ni v.ci,.slice v.qw v.nw v.cw,.int .i64 v.lo,.int .i64 v.hi,.int .i64 v.op,.slice v.qk v.nk v.ck] 29)).block w.heap.size (by omega)
      rw [u1] at u5
      have u6:=box_nw w3 (.cells #[.int .i64 v.kind,.string v.attr,.slice v.qi v.ni v.ci,.slice v.qw v.nw v.cw,.int .i64 v.lo,.int .i64 v.hi,.int .i64 v.op,.slice v.qk v.nk v.ck] 29)
      have hm0:=uh HM s.size
      have HVW:=hide ((uh HV).up (SameUp.of ((RowKit.Below.refl w3.heap.size w3).alloc (Nat.le_refl _) (.cells #[.int .i64 v.kind,.string v.attr,.slice v.qi v.ni v.ci,.slice v.qw v.nw v.cw,.int .i64 v.lo,.int .i64 v.hi,.int .i64 v.op,.slice v.qk v.nk v.ck] 29))))
      obtain ⟨W,EW⟩:∃ W,w3.alloc (.cells #[.int .i64 v.kind,.string v.attr,.slice v.qi v.ni v.ci,.slice v.qw v.nw v.cw,.int .i64 v.lo,.int .i64 v.hi,.int .i64 v.op,.slice v.qk v.nk v.ck] 29)=W:=⟨_,rfl⟩
      obtain ⟨M,EM⟩:∃ M,w3.heap.size=M:=⟨_,rfl⟩
      have mw:w.heap.size < M:=by omega
      rw [EM] at u6 ⊢
      rw [EW] at rb u4 u5 u6 u9 HVW ⊢
      obtain ⟨k0,k1,k2,k3,k4,k5,k6,k7⟩:=of8' u5
      have kf:∀ o,W.frozen? ⟨w.heap.size,o,none⟩=false:=fun o=>frozen_free u5
      obtain ⟨q',c',_,_,_,_,d1,d2,df,_,_⟩:=rb.cells
      have U9:=hide u9
      have U8:=hide u8
      have HRL:=hide rb.le
      have U4:=hide u4
      have WL:=hide (show (w1.alloc (.cells #[.slice q l.length cap,.int .i64 0,.bool false] 70)).heap.size≤W.heap.size by rw [← EW];have:=(uh HR).2.size;simp at this ⊢;omega)
      have W1:=hide (show w.heap.size < (w1.alloc (.cells #[.slice q l.length cap,.int .i64 0,.bool false] 70)).heap.size by have:=(uh HB).size;simp at this ⊢;omega)
      clear u1 u2 u3 u4 u5 u7 u8 u9 rb HM HR R0 HB hc HV
      have hpl:∀ p,whL s.size l=.bad p→True:=fun _ _=>trivial
      cases hd:l.drop i with
      | nil =>
        have h1:=drop_nil hd
        have b1:((i:Int) < (l.length:Int))=False:=by simp;omega
        have b2:¬ (i:Int) < (l.length:Int):=by omega
        cases b with
        | true =>
          have HE:=hide (show whL s.size l=.bad s.size by
            rw [whL_P]
            simp only [List.drop_zero] at hm0
            cases e:orP (s.size:Int) l with
            | bad p=>rw [e] at hm0;have h9:=hm0.2;rw [hd] at h9;exact congrArg _ h9.symm
            | ok x r=>rw [e] at hm0;exact absurd hm0.1 (by decide))
          clear hd h1 hm0 hpl b1
          go_wp2
          refine bodyPost_ret (v:=.tuple #[zVal,.int .i64 s.size,.int .i64 10]) (by simp [results,Tryz.results11,go_sem,zVal, *]) rfl ?_
          rw [uh HE]
          exact ⟨rfl,set8_below (uh U4) (Nat.le_refl _) _ _ _ _ _ _ _ _⟩
        | false =>
          have HE:=hide (show whL s.size l=.ok x [] by
            rw [whL_P]
            simp only [List.drop_zero] at hm0
            cases e:orP (s.size:Int) l with
            | bad p=>rw [e] at hm0;exact absurd hm0.1 (by decide)
            | ok x r=>rw [e] at hm0;obtain ⟨_,rfl,h3⟩:=hm0;rw [hd] at h3;subst h3;rfl)
          clear hd h1 hm0 hpl b1
          obtain ⟨m0,m1,m2,m3,m4,m5,m6,m7⟩:=of8' u6
          go_wp2
          refine bodyPost_ret (v:=.tuple #[v.val,.int .i64 0,.int .i64 0]) (by simp [results,Tryz.results11,go_sem,Nv.val, *]) rfl ?_
          rw [uh HE]
          exact ⟨⟨v,rfl,((uh HVW).up (set8_up _ (uh W1) _ _ _ _ _ _ _ _)).mono (Nat.le_of_lt (uh W1))⟩,set8_below (uh U4) (Nat.le_refl _) _ _ _ _ _ _ _ _⟩
      | cons t r =>
        have hi:i < l.length:=by
          have:=congrArg List.length hd
          simp at this;omega
        obtain ⟨b0,off,rfl,hb0,ht0⟩:=(uh HO) (by omega)
        have n5:w.heap.size + 1≤b0:=by have:=(World.ownsRow.lt (uh HOF) b0 rfl).1;simpa using this
        have n1:¬ b0=w.heap.size:=by omega
        have n2:¬ w.heap.size=b0:=by omega
        have n3:¬ w1.heap.size=w.heap.size:=by have:=uh U8;omega
        have n4:¬ w.heap.size=w1.heap.size:=by have:=uh U8;omega
        obtain ⟨s0,s1,_,_,_⟩:=(ht0.below (uh U9) hb0) i t (by have:=congrArg (fun l=>l[0]?) hd;simpa using this)
        have b2:(i:Int) < (l.length:Int):=by omega
        have b3:(0:Int)≤(i:Int):=by omega
        have HE:=hide (show whL s.size l=.bad t.2.1 by
          rw [whL_P]
          simp only [List.drop_zero] at hm0
          cases e:orP (s.size:Int) l with
          | bad p=>rw [e] at hm0;have h9:=hm0.2;rw [hd] at h9;exact congrArg _ h9.symm
          | ok x r=>rw [e] at hm0;obtain ⟨_,rfl,h3⟩:=hm0;rw [hd] at h3;subst h3;rfl)
        have mixed:Tryz.prog.follows .mixedOrders=true:=by kernel_rfl
        clear hd hm0 hpl
        cases b with
        | true =>
          go_wp2
          go_region_held3 (fun X=>X.cell? ⟨w1.heap.size,1,none⟩=some (.int .i64 (i:Int))∧X.cell? ⟨b0,off + i * 5 + 1,none⟩=some (.int .i64 t.2.1)) (go_keep) (fail)
          all_goals
            go_wp2
            refine bodyPost_ret (v:=.tuple #[zVal,.int .i64 t.2.1,.int .i64 10]) (by simp [results,Tryz.results11,go_sem,zVal, *]) rfl ?_
            rw [uh HE]
            exact ⟨rfl,(set8_below (uh U4) (Nat.le_refl _) _ _ _ _ _ _ _ _).drew⟩
        | false =>
          go_wp2
          go_region_held3 (fun X=>X.cell? ⟨w1.heap.size,1,none⟩=some (.int .i64 (i:Int))∧X.cell? ⟨b0,off + i * 5 + 1,none⟩=some (.int .i64 t.2.1)) (go_keep) (fail)
          all_goals
            go_wp2
            refine bodyPost_ret (v:=.tuple #[zVal,.int .i64 t.2.1,.int .i64 10]) (by simp [results,Tryz.results11,go_sem,zVal, *]) rfl ?_
            rw [uh HE]
            exact ⟨rfl,(set8_below (uh U4) (Nat.le_refl _) _ _ _ _ _ _ _ _).drew⟩
end Go.Proofs.YtencibjmiphinaaGreatDoor
namespace Go.Proofs.YtencibjmiphinaaGreatDoor
open Go.RowKit Go.Sort

set_option maxRecDepth 100000 in
set_option maxHeartbeats 4000000 in
theorem refDepth_any:∀ (t:Nd) (v:Nv) (w:World),NdIn w v t→sizeN t≤1000000000 →
    Calls Tryz.prog 37 #[v.val] w fun e w'=>e=.returned (.int .i64 (depN t))∧Below w.heap.size w w':=by
  intro t
  induction t using Nd.ind with
  | h kind attr ints words lo hi op kids ih =>
    intro v w hin hsz
    obtain ⟨qi,ci,qw,cw,qk,ck,rfl,hi1,hw1,hk⟩:=hin.parts
    simp only [sizeN] at hsz
    have hlen:=len_size kids
    have a0:(kids.length:Int)≤1000000000:=by omega
    have hd2:=depL_size kids
    obtain ⟨X,HX⟩:∃ X,w.alloc (.cells #[.int .i64 kind,.string attr,.slice qi ints.length ci,.slice qw words.length cw,.int .i64 lo,.int .i64 hi,.int .i64 op,.slice qk kids.length ck] 29)=X:=⟨_,rfl⟩
    have hX0:X.heap[w.heap.size]? = some (.cells #[.int .i64 kind,.string attr,.slice qi ints.length ci,.slice qw words.length cw,.int .i64 lo,.int .i64 hi,.int .i64 op,.slice qk kids.length ck] 29 (0,0)):=by rw [← HX];exact box_nw _ _
    have hwX:Below w.heap.size w X:=by rw [← HX];exact (Below.refl _ _).alloc (Nat.le_refl _) _
    obtain ⟨x0,x1,x2,x3,x4,x5,x6,x7⟩:=of8' hX0
    have hz0:=heap_lt hX0
    have HX0:=hide hX0
    have HWX:=hide hwX
    have HK:=hide (hk.below hwX)
    have IH:=hide ih
    clear ih hk hin hi1 hw1 hX0 hwX
    simp only [Nv.val]
    go_enter Tryz.func37,Tryz.ntmps37
    go_wp2
    go_loopw [3,4] (fun d i wr=>∃ k:Nat,k≤kids.length∧i=.int .i64 k∧d=.int .i64 (depL (kids.take k):Nat)∧Below X.heap.size X wr) (fun _ i _=>kids.length - (intOf i).toNat)
    case atStart=>exact ⟨0,by omega,rfl,rfl,Below.refl _ _⟩
    case round =>
      obtain ⟨k,hkk,rfl,rfl,hbel⟩:=hrel
      have hd1:=depL_take kids k
      obtain ⟨t0,t1,t2,t3,t4,t5,t6,t7⟩:=of8' ((hbel.block _ hz0).trans (uh HX0))
      by_cases hlt:k < kids.length
      · obtain ⟨x,hx,hxd⟩:=get_at hlt
        clear hxd
        obtain ⟨b,off,v',hq,hin,g0,g1,g2,g3,g4,g5,g6,g7⟩:=(uh HK).on hx hbel
        subst hq
        have hxm:x ∈ kids:=List.mem_of_getElem? hx
        have hxs:=sizeL_mem hxm
        have hdx:=dep_le x
        have ki0:(0:Int)≤(k:Int):=by omega
        have ki1:(k:Int) < (kids.length:Int):=by omega
        have HS:=hide (depL_snoc hx)
        have hsn:=depL_take kids (k + 1)
        rw [uh HS] at hsn
        have hC:=uh IH x hxm v' wr hin (by omega)
        simp only [Nv.val] at hC
        have HB:=hide hbel
        clear hin hx hbel hxm
        go_wp2_with (go_at_call 37;refine hC.mono ?_;rintro e w1 ⟨rfl,hb1⟩)
        exact ⟨⟨k + 1,by omega,by go_num,congrArg (Value.int .i64) (by rw [uh HS];omega),below_sub (uh HB) hb1⟩,by simp [intOf];omega⟩
      · have ki1:¬ (k:Int) < (kids.length:Int):=by omega
        have HE:=hide (List.take_of_length_le (l:=kids) (i:=k) (by omega))
        have HB:=hide hbel
        clear hbel
        go_wp2
        go_ret
        exact ⟨ret_int (by rw [uh HE];simp only [depN];omega),below_sub (uh HWX) (uh HB)⟩
end Go.Proofs.YtencibjmiphinaaGreatDoor
namespace Go.Proofs.YtencibjmiphinaaGreatDoor
open Go.RowKit

set_option maxHeartbeats 4000000 in
theorem refExpr_any (p:Option Addr) (cap:Nat) (ats:List (ByteArray × Int)) (hm:ats.length≤140737488355328) (d:Int) (s:ByteArray) (w:World) (hS:Sc.AtsOf w p ats) :
    Calls Tryz.prog 16 #[.slice p ats.length cap,.int .i64 d,.string s] w fun e w'=>ExR w (exL ats d s) e w':=by
  have hc:=refParse_any s (w.alloc (.cells #[.int .i64 0,.string ⟨#[]⟩,.slice none 0 0,.slice none 0 0,.int .i64 0,.int .i64 0,.int .i64 0,.slice none 0 0] 29))
  have HS:=hide (hS.below (bel_z w))
  clear hS
  cases ep:parL s with
  | bad pp =>
    have hx:exL ats d s=.bad 10:=by simp only [exL,ep]
    rw [hx]
    have EP:=hide ep
    clear ep hx
    go_enter Tryz.func16,Tryz.ntmps16
    go_wp2_with (go_at_call 11;refine hc.mono ?_;rintro e w1 hq;obtain ⟨rfl,hb⟩:=hq.bad (uh EP);obtain ⟨y1,y2⟩:=res_on hb;obtain ⟨q0,q1,q2,q3,q4,q5,q6,q7⟩:=of8' y1;have qf:∀ o,w1.frozen? ⟨w.heap.size,o,none⟩=false:=fun o=>frozen_free y1;have HB:=hide hb;clear hb hq y1;unfold zVal)
    refine bodyPost_ret (v:=.tuple #[zVal,.int .i64 10]) (by simp [results,Tryz.results16,go_sem,zVal, *]) rfl ⟨rfl, ?_⟩
    have h9:=(set8_below (below_sub (bel_z w) (uh HB)) (Nat.le_refl w.heap.size) (.int .i64 0) (.string ⟨#[]⟩) (.slice none 0 0) (.slice none 0 0) (.int .i64 0) (.int .i64 0) (.int .i64 0) (.slice none 0 0))
    exact h9.alloc (by have:=h9.size;omega) _
  | ok t r =>
    have hwt:=parL_wt ep
    have hsz:sizeN t≤1000000000:=Nat.le_trans (size_wt t) hwt
    have EP:=hide ep
    have hdp:=fun v W (h:NdIn W v t)=>refDepth_any t v W h hsz
    have hkd:=fun v W (h:NdIn W v t) (h2:Sc.AtsOf W p ats)=>refKinds_any p cap ats hm t v W h h2 hwt
    unfold Nv.val at hdp hkd
    have HD:=hide hdp
    have HK:=hide hkd
    clear hdp hkd
    by_cases hd:d < (depN t:Int)
    · have hx:exL ats d s=.bad 11:=by simp only [exL,ep,if_pos hd]
      rw [hx]
      clear ep hx
      go_enter Tryz.func16,Tryz.ntmps16
      go_wp2_with first
        | (go_at_call 11;refine hc.mono ?_;rintro e w1 hq;obtain ⟨⟨v,rfl,hv⟩,hb⟩:=hq.ok (uh EP);obtain ⟨y1,y2⟩:=res_on hb;have HB:=hide hb;have HV:=hide hv;have HB1:=hide (below_sub hb ((Below.refl w1.heap.size w1).alloc (Nat.le_refl _) (.cells #[.int .i64 v.kind,.string v.attr,.slice v.qi v.ni v.ci,.slice v.qw v.nw v.cw,.int .i64 v.lo,.int .i64 v.hi,.int .i64 v.op,.slice v.qk v.nk v.ck] 29)));clear hb hv hq y1;unfold Nv.val)
        | (go_at_call 37;refine (uh HD v _ ((uh HV).toIn.keep ((Below.refl _ _).alloc (Nat.le_refl _) (.cells #[.int .i64 v.kind,.string v.attr,.slice v.qi v.ni v.ci,.slice v.qw v.nw v.cw,.int .i64 v.lo,.int .i64 v.hi,.int .i64 v.op,.slice v.qk v.nk v.ck] 29)))).mono ?_;rintro e w2 ⟨rfl,hb⟩;have HB2:=hide (below_sub (uh HB1) hb);obtain ⟨y1,y3⟩:=res_on (uh HB2);obtain ⟨q0,q1,q2,q3,q4,q5,q6,q7⟩:=of8' y1;have qf:∀ o,w2.frozen? ⟨w.heap.size,o,none⟩=false:=fun o=>frozen_free y1;clear hb y1)
      refine bodyPost_ret (v:=.tuple #[zVal,.int .i64 11]) (by simp [results,Tryz.results16,go_sem,zVal, *]) rfl ⟨rfl, ?_⟩
      exact set8_below (below_sub (bel_z w) (uh HB2)) (Nat.le_refl _) _ _ _ _ _ _ _ _
    · obtain ⟨k,hk⟩:∃ k,kndE ats t=k:=⟨_,rfl⟩
      rw [hk] at HK
      by_cases h0:k=0
      · have hx:exL ats d s=.ok t []:=by simp only [exL,ep,if_neg hd,hk,h0,if_true]
        rw [hx]
        subst h0
        clear ep hx hk
        go_enter Tryz.func16,Tryz.ntmps16
        go_wp2_with first
          | (go_at_call 11;refine hc.mono ?_;rintro e w1 hq;obtain ⟨⟨v,rfl,hv⟩,hb⟩:=hq.ok (uh EP);obtain ⟨y1,y2⟩:=res_on hb;have HB:=hide hb;have HV:=hide hv;have HB1:=hide (below_sub hb ((Below.refl w1.heap.size w1).alloc (Nat.le_refl _) (.cells #[.int .i64 v.kind,.string v.attr,.slice v.qi v.ni v.ci,.slice v.qw v.nw v.cw,.int .i64 v.lo,.int .i64 v.hi,.int .i64 v.op,.slice v.qk v.nk v.ck] 29)));clear hb hv hq y1;unfold Nv.val)
          | (go_at_call 37;refine (uh HD v _ ((uh HV).toIn.keep ((Below.refl _ _).alloc (Nat.le_refl _) (.cells #[.int .i64 v.kind,.string v.attr,.slice v.qi v.ni v.ci,.slice v.qw v.nw v.cw,.int .i64 v.lo,.int .i64 v.hi,.int .i64 v.op,.slice v.qk v.nk v.ck] 29)))).mono ?_;rintro e w2 ⟨rfl,hb⟩;have HB2:=hide (below_sub (uh HB1) hb);have HX2:=hide (below_sub ((Below.refl w1.heap.size w1).alloc (Nat.le_refl _) (.cells #[.int .i64 v.kind,.string v.attr,.slice v.qi v.ni v.ci,.slice v.qw v.nw v.cw,.int .i64 v.lo,.int .i64 v.hi,.int .i64 v.op,.slice v.qk v.nk v.ck] 29)) hb);have y5:=(hb.block w1.heap.size (by simp)).trans (box_nw w1 (.cells #[.int .i64 v.kind,.string v.attr,.slice v.qi v.ni v.ci,.slice v.qw v.nw v.cw,.int .i64 v.lo,.int .i64 v.hi,.int .i64 v.op,.slice v.qk v.nk v.ck] 29));obtain ⟨p0,p1,p2,p3,p4,p5,p6,p7⟩:=of8' y5;have Y5:=hide y5;clear hb y5)
          | (go_at_call 19;refine (uh HK v _ ((uh HV).toIn.keep (uh HX2)) ((uh HS).below (uh HB2))).mono ?_;rintro e w3 ⟨rfl,hb⟩;have HB3:=hide (below_sub (uh HB2) hb);have HX3:=hide (below_sub (uh HX2) hb);have y6:=(hb.block w1.heap.size (Array.getElem?_eq_some_iff.1 (uh Y5)).1).trans (uh Y5);obtain ⟨r0,r1,r2,r3,r4,r5,r6,r7⟩:=of8' y6;obtain ⟨y1,y3⟩:=res_on (uh HB3);obtain ⟨q0,q1,q2,q3,q4,q5,q6,q7⟩:=of8' y1;have qf:∀ o,w3.frozen? ⟨w.heap.size,o,none⟩=false:=fun o=>frozen_free y1;clear hb y1 y6)
        refine bodyPost_ret (v:=.tuple #[v.val,.int .i64 0]) (by simp [results,Tryz.results16,go_sem,Nv.val, *]) rfl ⟨⟨v,rfl, ?_⟩,set8_below (below_sub (bel_z w) (uh HB3)) (Nat.le_refl _) _ _ _ _ _ _ _ _⟩
        have h9:=(uh HV).keep (uh HX3)
        simp at h9
        exact (h9.up (set8_up _ (Nat.lt_succ_self _) _ _ _ _ _ _ _ _)).mono (Nat.le_succ _)
      · have hx:exL ats d s=.bad k:=by simp only [exL,ep,if_neg hd,hk,if_neg h0]
        rw [hx]
        clear ep hx hk
        go_enter Tryz.func16,Tryz.ntmps16
        go_wp2_with first
          | (go_at_call 11;refine hc.mono ?_;rintro e w1 hq;obtain ⟨⟨v,rfl,hv⟩,hb⟩:=hq.ok (uh EP);obtain ⟨y1,y2⟩:=res_on hb;have HB:=hide hb;have HV:=hide hv;have HB1:=hide (below_sub hb ((Below.refl w1.heap.size w1).alloc (Nat.le_refl _) (.cells #[.int .i64 v.kind,.string v.attr,.slice v.qi v.ni v.ci,.slice v.qw v.nw v.cw,.int .i64 v.lo,.int .i64 v.hi,.int .i64 v.op,.slice v.qk v.nk v.ck] 29)));clear hb hv hq y1;unfold Nv.val)
          | (go_at_call 37;refine (uh HD v _ ((uh HV).toIn.keep ((Below.refl _ _).alloc (Nat.le_refl _) (.cells #[.int .i64 v.kind,.string v.attr,.slice v.qi v.ni v.ci,.slice v.qw v.nw v.cw,.int .i64 v.lo,.int .i64 v.hi,.int .i64 v.op,.slice v.qk v.nk v.ck] 29)))).mono ?_;rintro e w2 ⟨rfl,hb⟩;have HB2:=hide (below_sub (uh HB1) hb);have HX2:=hide (below_sub ((Below.refl w1.heap.size w1).alloc (Nat.le_refl _) (.cells #[.int .i64 v.kind,.string v.attr,.slice v.qi v.ni v.ci,.slice v.qw v.nw v.cw,.int .i64 v.lo,.int .i64 v.hi,.int .i64 v.op,.slice v.qk v.nk v.ck] 29)) hb);have y5:=(hb.block w1.heap.size (by simp)).trans (box_nw w1 (.cells #[.int .i64 v.kind,.string v.attr,.slice v.qi v.ni v.ci,.slice v.qw v.nw v.cw,.int .i64 v.lo,.int .i64 v.hi,.int .i64 v.op,.slice v.qk v.nk v.ck] 29));obtain ⟨p0,p1,p2,p3,p4,p5,p6,p7⟩:=of8' y5;have Y5:=hide y5;clear hb y5)
          | (go_at_call 19;refine (uh HK v _ ((uh HV).toIn.keep (uh HX2)) ((uh HS).below (uh HB2))).mono ?_;rintro e w3 ⟨rfl,hb⟩;have HB3:=hide (below_sub (uh HB2) hb);obtain ⟨y1,y3⟩:=res_on (uh HB3);obtain ⟨q0,q1,q2,q3,q4,q5,q6,q7⟩:=of8' y1;have qf:∀ o,w3.frozen? ⟨w.heap.size,o,none⟩=false:=fun o=>frozen_free y1;clear hb y1)
        refine bodyPost_ret (v:=.tuple #[zVal,.int .i64 k]) (by simp [results,Tryz.results16,go_sem,zVal, *]) rfl ⟨rfl, ?_⟩
        exact set8_below (below_sub (bel_z w) (uh HB3)) (Nat.le_refl _) _ _ _ _ _ _ _ _
end Go.Proofs.YtencibjmiphinaaGreatDoor

/- conj.must: the first loop. -/
import Derived.Test.YtimklglliffpcaaGreatQZai
import Derived.Deep.RegionHeld3
import Derived.Deep.CutBlock
namespace Go.Proofs.YtimklglliffpcaaGreat
open Go.RowKit Go.Sort Go.Shelf Go.Maps
theorem tl {B C:Nat} {w:World} {q:Option Addr} {c n:Nat} {ls:List Pd} (h:GrowD B w q c n ls) (hC:C<=B):GrowD C w q c n ls:=by
 obtain ⟨h1,us,h2,h3,h4⟩:=h
 refine ⟨h1,us,h2,⟨h3.1, ?_⟩,fun x hs hc j u l hu hl=>?_⟩
 ·rcases h3.2 with h0 | ⟨g,cp,cur,hv,hB,hr⟩
  ·exact Or.inl h0
  ·exact Or.inr ⟨g,cp,cur,hv,Nat.le_trans hC hB,hr⟩
 ·have:=h4 x hs (fun b o hb hlt hne=>hc b o (Nat.le_trans hC hb) hlt hne) j u l hu hl
  exact ⟨this.1,fun a e=>Nat.le_trans hC (this.2.1 a e),fun a e=>Nat.le_trans hC (this.2.2 a e)⟩
def Ck (ls:List Lt):Prop:=∀ l ∈ ls,l.attr.size<=maxLen
set_option maxHeartbeats 4000000 in
set_option maxRecDepth 100000 in
/-- conj.must. -/
theorem Vh (q:Option Addr) (c:Nat) (ls:List Lt) (w:World) (h:LitsOf w q c ls) (hs:SmallL ls) (hf:Ck ls) (hl:ls.length<=100000000) :
    Calls Tryz.prog 74 #[.slice q ls.length c] w fun e w'=>(∃ q' n' c',e=.returned (.tuple #[.slice q' n' c',.bool (Qp ls).isSome])/\GrowD w.heap.size w' q' c' n' ((Qp ls).getD []))/\Below w.heap.size w w':=by
  have mixed:Tryz.prog.follows .mixedOrders=true:=by kernel_rfl
  have hmm:=@run_makeMap Tryz.prog
  have i9:(ls.length:Int)<=100000000:=by omega
  have HH:=d9 h
  have HS:=d9 hs
  have HF:=d9 hf
  obtain ⟨X,HX⟩:∃ X,w.alloc (.map #[] 0)=X:=⟨_,rfl⟩
  have bX:Below w.heap.size w X:=by rw [<- HX];exact (Below.refl _ _).alloc (Nat.le_refl _) _
  have HM0:=d9 (show MM w w.heap.size X 0 (tx (ls.take 0)) by rw [<- HX];exact MM.made w)
  have BX:=d9 bX
  clear h hs bX hf
  go_enter Tryz.func74,Tryz.ntmps74
  go_wp2
  go_loopw [15] (fun iv wr=>∃ k:Nat,k<=ls.length/\iv=.int .i64 k/\Hid (MM w w.heap.size wr k (tx (ls.take k)))/\Hid (Below w.heap.size w wr)) (fun iv _=>ls.length - (intOf iv).toNat)
  case atStart=>exact ⟨0,Nat.zero_le _,rfl,HM0,BX⟩
  case round =>
    obtain ⟨k,hk,rfl,HG,HB⟩:=hrel
    by_cases hlt:k < ls.length
    · obtain ⟨l,hx,_⟩:=je hlt
      obtain ⟨b,off,u,hq,hbb,hin,c0,c1',c2,c3,c4,c5,c6⟩:=(uh HH).at hx
      subst hq
      have g0:=((uh HB).cell (p:=⟨b,_,none⟩) hbb).trans c0
      have g1:=((uh HB).cell (p:=⟨b,_,none⟩) hbb).trans c1'
      have g2:=((uh HB).cell (p:=⟨b,_,none⟩) hbb).trans c2
      have g3:=((uh HB).cell (p:=⟨b,_,none⟩) hbb).trans c3
      have g4:=((uh HB).cell (p:=⟨b,_,none⟩) hbb).trans c4
      have g5:=((uh HB).cell (p:=⟨b,_,none⟩) hbb).trans c5
      have g6:=((uh HB).cell (p:=⟨b,_,none⟩) hbb).trans c6
      have ki0:(0:Int)<=(k:Int):=by omega
      have ki1:(k:Int) < (ls.length:Int):=by omega
      obtain ⟨G,hG⟩:∃ G,u.neg=G:=⟨_,rfl⟩
      rw [hG] at g6
      have hneg:l.neg=G:=by rw [<- hG];exact hin.2.2.2.2.2.2.1.symm
      obtain ⟨Z,HZ⟩:∃ Z,wr.alloc (.cells #[.int .i64 u.kind,.string u.attr,.slice u.qi u.ni u.ci,.slice u.qw u.nw u.cw,.int .i64 u.lo,.int .i64 u.hi,.bool G] 64)=Z:=⟨_,rfl⟩
      have bZ:Below wr.heap.size wr Z:=by rw [<- HZ];exact (Below.refl _ _).alloc (Nat.le_refl _) _
      have zk:Z.heap[wr.heap.size]? = some (.cells #[.int .i64 u.kind,.string u.attr,.slice u.qi u.ni u.ci,.slice u.qw u.nw u.cw,.int .i64 u.lo,.int .i64 u.hi,.bool G] 64 (0,0)):=by rw [<- HZ];exact jf _ _
      have BZ:=d9 bZ
      obtain ⟨z0,z1,z2,z3,z4,z5,z6⟩:=Xp zk
      go_upto_region 5 with (fail)
      clear HZ g0 g1 g2 g3 g4 g5 g6
      cases G with
      | true =>
        have HT:=d9 (R9 hx hneg)
        clear bZ hin c0 c1' c2 c3 c4 c5 c6 zk hG hneg hx
        go_wp2
        go_roundw
        case rel=>exact ⟨k + 1,by omega,by go_num,d9 (by rw [uh HT];obtain ⟨f,m1,m2⟩:=(uh HG).below (uh BZ);exact ⟨f,(by obtain ⟨D,d1,d2⟩:=m1;exact ⟨D,d1.mono (Nat.le_succ _),d2⟩),m2⟩),d9 (d8 (uh HB) (uh BZ))⟩
        case measure=>simp [intOf];omega
      | false =>
        have hat:u.attr=l.attr:=hin.2.1
        have hup:PdIn w u.pv (Aq l):=hin.pd
        have hfit:u.attr.size<=maxLen:=by rw [hat];exact uh HF l (List.mem_of_getElem? hx)
        obtain ⟨q1,c1,us,e1,e2,e3⟩:=(uh HG).step u.attr hfit (by unfold maxLen;omega) (Aq l) u.pv hup
        have HT:=d9 (show tx (ls.take (k + 1))=Zs (tx (ls.take k)) u.attr (Aq l) by rw [hat];exact Qx hx hneg)
        obtain ⟨n,hn⟩:∃ n,(tx (ls.take k) u.attr).length=n:=⟨_,rfl⟩
        have hn0:n<=100000000:=by have:=Nk (ls.take k) u.attr;rw [hn,List.length_take] at this;omega
        rw [hn] at e1 e2 e3
        have bA:Below wr.heap.size wr (Z.alloc (.cells #[.int .i64 u.kind,.string u.attr,.slice u.qi u.ni u.ci,.slice u.qw u.nw u.cw,.int .i64 u.lo,.int .i64 u.hi] 26)):=bZ.alloc bZ.size _
        have lk0:=(e2 Z bZ).1
        have lk1:=(e2 Z.drew bZ.drew).1
        have lk2:=(e2 _ bA).1
        have lk3:=(e2 _ bA.drew).1
        have ownA:=(e2 _ bA).2
        have hcell:∀ V:World,V.heap[wr.heap.size]? = Z.heap[wr.heap.size]?->V.cell? ⟨wr.heap.size,0,none⟩=some (.int .i64 u.kind)/\V.cell? ⟨wr.heap.size,1,none⟩=some (.string u.attr)/\V.cell? ⟨wr.heap.size,2,none⟩=some (.slice u.qi u.ni u.ci)/\V.cell? ⟨wr.heap.size,3,none⟩=some (.slice u.qw u.nw u.cw)/\V.cell? ⟨wr.heap.size,4,none⟩=some (.int .i64 u.lo)/\V.cell? ⟨wr.heap.size,5,none⟩=some (.int .i64 u.hi):=fun V hV=>by
          obtain ⟨y0,y1,y2,y3,y4,y5,_⟩:=Xp (hV.trans zk)
          exact ⟨y0,y1,y2,y3,y4,y5⟩
        have hzlt:wr.heap.size < Z.heap.size:=(Array.getElem?_eq_some_iff.1 zk).1
        have hmlt:=(uh HG).lt
        have hobl:∀ bb,(Value.slice q1 n c1).ownBlock=some bb->bb < wr.heap.size:=fun bb e=>(World.ownsRow.lt (e2 wr (Below.refl _ _)).2 bb (by rw [e1];exact e)).2
        have hfin:∀ (q9:Option Addr) (c9:Nat) (w9:World),OwnK sc 26 6 (w.heap.size + 1) w9 q9 c9 (us ++ [u.pv])->(Z.alloc (.cells #[.int .i64 u.kind,.string u.attr,.slice u.qi u.ni u.ci,.slice u.qw u.nw u.cw,.int .i64 u.lo,.int .i64 u.hi] 26)).grownBy w9 (Value.slice q1 n c1).ownBlock->((Value.slice q9 (n + 1) c9).ownBlock=(Value.slice q1 n c1).ownBlock ∨ (Value.slice q9 (n + 1) c9).ownBlock=some (Z.alloc (.cells #[.int .i64 u.kind,.string u.attr,.slice u.qi u.ni u.ci,.slice u.qw u.nw u.cw,.int .i64 u.lo,.int .i64 u.hi] 26)).heap.size)->w9.heap[wr.heap.size]? = Z.heap[wr.heap.size]?/\∃ w',(Instr.mapUpdate 144 (.map (some w.heap.size)) (.string u.attr) (.slice q9 (n + 1) c9)).run Tryz.prog w9=.ok () w'/\w'.heap[wr.heap.size]? = Z.heap[wr.heap.size]?/\MM w w.heap.size w' (k + 1) (tx (ls.take (k + 1)))/\Below w.heap.size w w':=fun q9 c9 w9 h1 h2 h3=>by
          obtain ⟨w',r1,r2,r3⟩:=e3 _ bA q9 c9 w9 h1 h2 h3
          have hz2:wr.heap.size < (Z.alloc (.cells #[.int .i64 u.kind,.string u.attr,.slice u.qi u.ni u.ci,.slice u.qw u.nw u.cw,.int .i64 u.lo,.int .i64 u.hi] 26)).heap.size:=by rw [jl];omega
          have p1:w9.heap[wr.heap.size]? = Z.heap[wr.heap.size]?:=(h2.block _ hz2 (fun e=>by have:=hobl _ e.symm;omega)).trans (((Below.refl Z.heap.size Z).alloc (Nat.le_refl _) _).block _ hzlt)
          refine ⟨p1,w',r1,(r3.block _ (Nat.lt_of_lt_of_le hz2 h2.size) (fun e=>by injection e with e;omega)).trans p1,by rw [uh HT];exact r2, ?_⟩
          have hb1:Below w.heap.size w (Z.alloc (.cells #[.int .i64 u.kind,.string u.attr,.slice u.qi u.ni u.ci,.slice u.qw u.nw u.cw,.int .i64 u.lo,.int .i64 u.hi] 26)):=d8 (uh HB) bA
          have q0:w.heap.size<=wr.heap.size:=(uh HB).size
          exact ⟨r3.os.trans (h2.os.trans hb1.os),r3.tape.trans (h2.tape.trans hb1.tape),r3.output.trans (h2.output.trans hb1.output),Nat.le_trans hb1.size (Nat.le_trans h2.size r3.size),fun j hj=>(r3.block j (Nat.lt_of_lt_of_le (Nat.lt_of_lt_of_le hj hb1.size) h2.size) (fun e=>by injection e with e;omega)).trans ((h2.block j (Nat.lt_of_lt_of_le hj hb1.size) (fun e=>by
            have:=(World.ownsRow.lt (e2 wr (Below.refl _ _)).2 j (by rw [e1];exact e.symm)).1
            omega)).trans (hb1.block j hj))⟩
        have HC:=d9 hcell
        have HFIN:=d9 hfin
        have OWN:=d9 ownA
        have SRC:=d9 (Gv (W:=Z) u.pv rfl)
        have E1:=d9 e1
        have s0:=(uh HB).size
        have s1:=bA.size
        have BAD:=d9 (show w.heap.size + 1<=(Z.alloc (.cells #[.int .i64 u.kind,.string u.attr,.slice u.qi u.ni u.ci,.slice u.qw u.nw u.cw,.int .i64 u.lo,.int .i64 u.hi] 26)).heap.size by omega)
        obtain ⟨y0,y1,y2,y3,y4,y5⟩:=hcell Z rfl
        clear bZ hin c0 c1' c2 c3 c4 c5 c6 zk hG hneg hx e1 e2 e3 hcell hfin ownA hup hat hfit hn bA hobl s1 hzlt hmlt
        go_wp2
        go_region_held3 (fun V=>V.cell? ⟨wr.heap.size,0,none⟩=some (.int .i64 u.kind)/\V.cell? ⟨wr.heap.size,1,none⟩=some (.string u.attr)/\V.cell? ⟨wr.heap.size,2,none⟩=some (.slice u.qi u.ni u.ci)/\V.cell? ⟨wr.heap.size,3,none⟩=some (.slice u.qw u.nw u.cw)/\V.cell? ⟨wr.heap.size,4,none⟩=some (.int .i64 u.lo)/\V.cell? ⟨wr.heap.size,5,none⟩=some (.int .i64 u.hi))
          (first | exact uh HC _ (by first | rfl | exact (uh K10) | exact (uh K9)) | exact uh HC _ (((Below.refl Z.heap.size Z).alloc (Nat.le_refl _) _).block _ (Nat.lt_of_lt_of_le (Nat.lt_succ_self _) (uh BZL))) | go_keep)
          (first
            | (refine qb zby (by rfl) (.tmp 30) (.tmp 33) (by rfl) (w.heap.size + 1) q1 c1 us ⟨Z.heap.size,0,none⟩ 1 [u.pv] n 1 (n + 1) (uh E1) rfl rfl (by rfl) (by rfl) (Ag (by rfl) (uh OWN)) (An (by rfl) (uh SRC)) (by unfold maxLen;omega) (by omega) (uh BAD) ?_;intro q9 c9 w9 ho9 _ hg9 hor9;obtain ⟨k9,w10,r10,k10,m10,b10⟩:=uh HFIN q9 c9 w9 ho9 (Mx (by rfl) (by rfl) (by rfl) (by rfl) hg9) hor9;have K9:=d9 k9;have K10:=d9 k10;have M10:=d9 m10;have B10:=d9 b10;clear k9 k10 m10 b10 ho9 hg9 hor9))
        all_goals
          go_wp2
          go_roundw
          case rel=>exact ⟨k + 1,by omega,by go_num,M10,B10⟩
          case measure=>simp [intOf];omega
    · have ki1:¬ (k:Int) < (ls.length:Int):=by omega
      obtain ⟨wo,hwo⟩:∃ wo,wo=wr:=⟨_,rfl⟩
      subst hwo
      obtain rfl:k=ls.length:=by omega
      have hM:=uh HG
      rw [List.take_length] at hM
      obtain ⟨f,hSM,hNU⟩:=Rv hM
      obtain ⟨D,hown,hsz⟩:=hSM.len
      obtain ⟨cur,hcs,hmk⟩:=za3 (Maps.size D) (by omega)
      obtain ⟨Y,HY⟩:∃ Y,wo.alloc (.cells cur 26)=Y:=⟨_,rfl⟩
      have bY:Below wo.heap.size wo Y:=by rw [<- HY];exact (Below.refl _ _).alloc (Nat.le_refl _) _
      have SY:=d9 (show Y.heap.size=wo.heap.size + 1 by rw [<- HY];simp)
      have HG0:=d9 (show GrowD wo.heap.size Y (some ⟨wo.heap.size,0,none⟩) (Maps.size D) 0 [] by rw [<- HY];exact GrowD.made (by unfold maxLen;omega) hcs)
      have hK:=Rg w.heap.size Y
      have hS:=Ks (hSM.below bY) (by omega)
      have HMM:=d9 hM
      have HNU:=d9 hNU
      have BY:=d9 bY
      clear hM hNU hSM hcs bY HG
      go_upto_region 9 with (at_len;refine wpList_len_own _ rfl _ 144 rfl 9 22 Tryz.underlying144 _ w.heap.size ls.length D rfl hown ?_)
      clear hmk hown
      go_upto_block 2 with (first
        | (go_at_call 125;refine hK.mono ?_;rintro e w2 ⟨rfl,rfl⟩)
        | (go_at_call 120;refine hS.mono ?_;rintro e w3 ⟨⟨qN,cN,nm,rfl,hO3,hN3,hL3⟩,b3⟩;have O3:=d9 hO3;have N3:=d9 hN3;have B3:=d9 b3;clear hO3 hN3 b3))
      have hnm:=uh HNU nm (uh N3)
      subst hnm
      obtain ⟨nl,hnl⟩:∃ nl,(qd ls).length=nl:=⟨_,rfl⟩
      have b3':Below Y.heap.size Y w3:=d8 ((Below.refl Y.heap.size Y).alloc (Nat.le_refl _) _) ((uh B3).mono (by simp))
      have hfar:∀ a,qN=some a->wo.heap.size + 1 < a.block:=fun a e=>by have:=(uh O3).from a e;have:=uh SY;omega
      have HR0:=d9 (show SlOf jy 1 w3 qN cN (qd ls) from (uh O3).ls)
      have HG1:=d9 ((uh HG0).below b3')
      have HB1:=d9 (d8 (uh BY) b3')
      have HFR:=d9 hfar
      have hcur:w3.heap.size=w3.heap.size:=rfl
      have HLT:=d9 (show ∀ a,qN=some a->0 < (qd ls).length->a.block < w3.heap.size from fun a e h0=>by
        obtain ⟨b4,o4,e4,l4,_⟩:=(uh HR0).2.2.2 h0
        rw [e] at e4
        cases e4
        exact l4)
      have HNL:=d9 hnl
      rw [hnl] at hL3 ⊢
      clear b3' hfar hS hK hnl
      go_wp2
      go_loopw [7,43] (fun sv2 iv wr=>∃ (k:Nat) (q1:Option Addr) (c1:Nat) (d:List Pd),k<=nl/\iv=.int .i64 k/\sv2=.slice q1 k c1/\Hid (yg ls ((qd ls).take k)=some d)/\Hid (GrowD wo.heap.size wr q1 c1 k d)/\Hid (Below wo.heap.size wo wr)/\Hid (SlOf jy 1 wr qN cN (qd ls))/\Hid (∀ a b,qN=some a->0 < nl->(Value.slice q1 k c1).ownBlock=some b->a.block ≠ b)) (fun _ iv _=>nl - (intOf iv).toNat)
      case atStart=>exact ⟨0,some ⟨wo.heap.size,0,none⟩,Maps.size D,[],Nat.zero_le _,rfl,rfl,d9 rfl,HG1,HB1,HR0,d9 (fun a b e _ e2=>by have:=uh HFR a e;cases e2;simp only;omega)⟩
      case round =>
        obtain ⟨k,q1,c1,d,hk2,rfl,rfl,HD,HG,HBI,HR,HAP⟩:=hrel
        by_cases hlt2:k < nl
        · obtain ⟨a,ha,_⟩:=je (l:=qd ls) (k:=k) (by rw [uh HNL];exact hlt2)
          obtain ⟨bn,on,hqn,hbn,gn⟩:=j6 (uh HR) ha
          subst hqn
          have k0:(0:Int)<=(k:Int):=by omega
          have k1:(k:Int) < (nl:Int):=by omega
          have hain:=((mj ((Qh ls).map Pd.attr)).1 a).1 (List.mem_of_getElem? ha)
          have hfit:a.size<=maxLen:=by
            obtain ⟨p,hp,rfl⟩:=List.mem_map.1 hain
            obtain ⟨l,hl2,hn2⟩:=List.mem_filterMap.1 hp
            split at hn2
            · cases hn2
            · cases hn2;exact uh HF l hl2
          obtain ⟨q2,c2,hlook,hrow⟩:=((uh HMM).below (uh HBI)).look a hfit
          have hgl:=Nk ls a
          have hMt:=Dc q2 c2 (tx ls a) wr (hrow.preds (d8 (uh HB) (uh HBI))) (Pj (uh HS) a) (by omega)
          have HA:=d9 ha
          have hps:=Kx ls _ a (uh HD)
          rw [<- jh ha] at hps
          obtain ⟨gl,hgl2⟩:∃ gl,(tx ls a).length=gl:=⟨_,rfl⟩
          rw [hgl2] at hMt hlook
          cases hm:kz (tx ls a) with
          | none =>
            rw [hm] at hMt
            have HNO:=d9 (show Qp ls=none by
              unfold Qp
              rw [<- List.take_append_drop k (qd ls),List.drop_eq_getElem_cons (by rw [uh HNL];exact hlt2)]
              refine Ki ls _ _ _ ?_
              have:(qd ls)[k]'(by rw [uh HNL];exact hlt2)=a:=by
                have:=uh HA
                rw [List.getElem?_eq_getElem (by rw [uh HNL];exact hlt2)] at this
                injection this
              rw [this]
              exact hm)
            clear hps hrow hgl hgl2 hm ha hain hfit
            go_upto_region 13 with (go_at_call 14;refine hMt.mono ?_;rintro e w5 ⟨⟨v,rfl,ho5⟩,b5⟩;have B5:=d9 b5;clear b5 ho5)
            go_wp2
            refine bodyPost_ret (v:=.tuple #[.slice none 0 0,.bool false]) (by simp [results,Tryz.results74,go_sem, *]) rfl ?_
            refine ⟨⟨none,0,0,by rw [uh HNO];rfl,by rw [uh HNO];exact GrowD.nil _ _⟩, ?_⟩
            exact (d8 (uh HB) (d8 (uh HBI) ((uh B5).alloc (uh B5).size _)))
          | some m =>
            rw [hm] at hMt hps
            rw [Option.map_some] at hps
            have HPS:=d9 hps
            clear hps hrow hgl hgl2 hm ha hain hfit
            go_upto_region 13 with (go_at_call 14;refine hMt.mono ?_;rintro e w5 ⟨⟨v,rfl,ho5⟩,b5⟩;have B5:=d9 b5;have O5:=d9 ho5;clear b5 ho5)
            obtain ⟨V,HV⟩:∃ V,w5.alloc (.cells #[.int .i64 v.kind,.string v.attr,.slice v.qi v.ni v.ci,.slice v.qw v.nw v.cw,.int .i64 v.lo,.int .i64 v.hi] 26)=V:=⟨_,rfl⟩
            have bV:Below w5.heap.size w5 V:=by rw [<- HV];exact (Below.refl _ _).alloc (Nat.le_refl _) _
            have v8:V.heap[w5.heap.size]? = some (.cells #[.int .i64 v.kind,.string v.attr,.slice v.qi v.ni v.ci,.slice v.qw v.nw v.cw,.int .i64 v.lo,.int .i64 v.hi] 26 (0,0)):=by rw [<- HV];exact World.alloc_heap_new _ _
            rw [HV]
            obtain ⟨y0,y1,y2,y3,y4,y5⟩:=kq v8
            obtain ⟨hl1,us,hn1,ho1,hof1⟩:=uh HG
            have BV:=d9 (d8 (uh B5) bV)
            have LF:=d9 (show PdFrom V wr.heap.size v m from ((uh O5).from (Nat.le_refl _)).below bV)
            have HO:=d9 ho1
            have HOF:=d9 hof1
            have HL1:=d9 hl1
            have HN1:=d9 hn1
            have hB0:=(uh HBI).size
            have hB1:=(uh BV).size
            have HOB:=d9 (uh HAP _ · rfl (Nat.lt_of_le_of_lt (Nat.zero_le _) hlt2))
            clear v8 hl1 hn1 ho1 hof1 HV hMt hlook
            go_wp2_with (at_builtin;refine nr zby rfl _ _ rfl wo.heap.size q1 c1 us ⟨V.heap.size,0,none⟩ 1 [v] k 1 (k + 1) (uh HN1) rfl rfl rfl rfl ((uh HO).below ((uh BV).alloc hB1 _)) (Gv v rfl) (by unfold maxLen;omega) (by omega) (by simp only [jl];omega) ?_;intro q9 c9 w9 ho9 hb9 hg9 hor9;have HR9:=d9 (Kk ((uh HR).below ((uh BV).alloc hB1 _)) hg9 (fun p e e2=>by cases e;exact uh HOB _ e2.symm rfl));have HOR:=d9 hor9;have HE:=d9 (GrowD.snoc (uh HL1) (uh HN1) (uh HO) (uh HOF) (uh BV) (uh LF) ho9 hb9 hg9 hor9 hB0);clear ho9 hb9 hg9 hor9)
            go_roundw
            case rel=>exact ⟨k + 1,q9,c9,d ++ [m],by omega,by go_num,rfl,HPS,d9 (uh HE).1,d9 ((uh HBI).trans (uh HE).2),HR9,d9 (fun a2 b2 e e0 e2=>by
              cases e
              rcases uh HOR with h9 | h9
              · exact uh HAP _ _ rfl e0 (h9 ▸ e2)
              · rw [h9] at e2
                cases e2
                simp only [jl]
                omega)⟩
            case measure=>simp [intOf];omega
        · have k1:¬ (k:Int) < (nl:Int):=by omega
          have HPD:=d9 (show Qp ls=some d by
            have:=uh HD
            rw [List.take_of_length_le (by rw [uh HNL];omega)] at this
            exact this)
          go_wp2
          refine bodyPost_ret (v:=.tuple #[.slice q1 k c1,.bool true]) (by simp [results,Tryz.results74,go_sem, *]) rfl ?_
          refine ⟨⟨q1,k,c1,by rw [uh HPD];rfl, ?_⟩,d8 (uh HB) (uh HBI)⟩
          rw [uh HPD]
          exact tl (uh HG) (uh HB).size
end Go.Proofs.YtimklglliffpcaaGreat

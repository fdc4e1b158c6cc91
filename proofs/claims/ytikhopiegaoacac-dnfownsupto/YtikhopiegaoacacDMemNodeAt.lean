/- trommelmem.Node of any tree. -/
import Derived.Test.YtikhopiegaoacacDMemNode
namespace Go.Proofs.Ytikhopiegaoacac
open Go.RowKit Go.Sort

set_option maxRecDepth 100000 in
set_option maxHeartbeats 8000000 in
theorem node_at (kind:Int) (attr:ByteArray) (qi:Option Addr) (ci:Nat) (ints:List Int) (qw:Option Addr) (cw:Nat) (words:List ByteArray) (lo hi op:Int) (qk:Option Addr) (ck:Nat) (kids:List Nd) (w:World) (h1:SlOf encI 1 w qi ci ints) (h2:SlOf encS 1 w qw cw words) (hk:NdsOf w qk ck kids) (ih:∀ x ∈ kids,NodeP x) (l1:ints.length≤1000000000) (l2:words.length≤1000000000) (l3:wtL kids≤1000000000) :
    Calls Try.prog 5 #[.agg #[.int .i64 kind,.string attr,.slice qi ints.length ci,.slice qw words.length cw,.int .i64 lo,.int .i64 hi,.int .i64 op,.slice qk kids.length ck]] w fun e w'=>(∃ v',e=.returned v'.val∧SpIn w' w.heap.size v' (.mk kind attr ints words lo hi op kids))∧Below w.heap.size w w':=by
  have hlen:=Nat.le_trans (Nat.le_trans (len_size kids) (sizeL_wt kids)) l3
  have a0:(kids.length:Int)≤1000000000:=by omega
  obtain ⟨X,HX⟩:∃ X,(w.alloc (.cells #[.int .i64 kind,.string attr,.slice qi ints.length ci,.slice qw words.length cw,.int .i64 lo,.int .i64 hi,.int .i64 op,.slice qk kids.length ck] 28)).alloc (.cells #[.int .i64 0,.string ⟨#[]⟩,.slice none 0 0,.slice none 0 0,.int .i64 0,.int .i64 0,.int .i64 0,.slice none 0 0] 28)=X:=⟨_,rfl⟩
  obtain ⟨x8,xz,bX,sX⟩:=twoM HX
  obtain ⟨cur,hcs,hmk⟩:=makeV (kids.length + 1) (by omega)
  have hmk2:∀ W:World,(Instr.makeSlice 26 (.int .i64 0) (.int .i64 ((kids.length:Int) + 1))).run Try.prog W=.ok (.slice (some ⟨W.heap.size,0,none⟩) 0 (kids.length + 1)) (W.alloc (.cells cur 28)):=fun W=>by have:=hmk W;rwa [Int.natCast_add] at this
  have hmk3:∀ W:World,(Instr.makeSlice 26 (.int .i64 0) (.int .i64 (IntKind.i64.wrap ((kids.length:Int) + 1)))).run Try.prog W=.ok (.slice (some ⟨W.heap.size,0,none⟩) 0 (kids.length + 1)) (W.alloc (.cells cur 28)):=fun W=>by rw [wrap_i _ (by omega) (by omega)];exact hmk2 W
  clear hmk2
  have HKX:=hide (hk.below bX)
  have IH:=hide ih
  have H1:=hide h1
  have H2:=hide h2
  have X8:=hide x8
  have XZ:=hide xz
  have BX:=hide bX
  have KS:∀ W,Below X.heap.size X W→(fun w'=>w'.cell? ⟨w.heap.size,0,none⟩=some (.int .i64 kind)∧w'.cell? ⟨w.heap.size,1,none⟩=some (.string attr)∧w'.cell? ⟨w.heap.size,2,none⟩=some (.slice qi ints.length ci)∧w'.cell? ⟨w.heap.size,3,none⟩=some (.slice qw words.length cw)∧w'.cell? ⟨w.heap.size,4,none⟩=some (.int .i64 lo)∧w'.cell? ⟨w.heap.size,5,none⟩=some (.int .i64 hi)∧w'.cell? ⟨w.heap.size,6,none⟩=some (.int .i64 op)∧w'.cell? ⟨w.heap.size,7,none⟩=some (.slice qk kids.length ck)) W:=fun W hb=>by
    obtain ⟨a0,a1,a2,a3,a4,a5,a6,a7⟩:=of8' ((hb.block _ (heap_lt (uh X8))).trans (uh X8))
    exact ⟨a0,a1,a2,a3,a4,a5,a6,a7⟩
  obtain ⟨c0,c1,c2,c3,c4,c5,c6,c7⟩:=KS X (Below.refl _ _)
  have bal:∀ W (ob:Obj),Below X.heap.size X W→Below X.heap.size X (W.alloc ob):=fun W ob hb=>hb.alloc hb.size _
  have dX:Below X.heap.size X X.drew:=(Below.refl _ _).drew
  have SX:=hide sX
  clear hk ih h1 h2 x8 xz bX hmk sX
  go_enter Try.func5,Try.ntmps5
  go_wp2
  go_region_held3 (fun w'=>w'.cell? ⟨w.heap.size,0,none⟩=some (.int .i64 kind)∧w'.cell? ⟨w.heap.size,1,none⟩=some (.string attr)∧w'.cell? ⟨w.heap.size,2,none⟩=some (.slice qi ints.length ci)∧w'.cell? ⟨w.heap.size,3,none⟩=some (.slice qw words.length cw)∧w'.cell? ⟨w.heap.size,4,none⟩=some (.int .i64 lo)∧w'.cell? ⟨w.heap.size,5,none⟩=some (.int .i64 hi)∧w'.cell? ⟨w.heap.size,6,none⟩=some (.int .i64 op)∧w'.cell? ⟨w.heap.size,7,none⟩=some (.slice qk kids.length ck))
    (first | with_reducible exact KS _ dX | with_reducible exact KS _ R2 | with_reducible exact KS _ (bal _ _ R2) | with_reducible exact KS _ (bal _ _ (bal _ _ R2)) | with_reducible exact KS _ (bal _ _ dX) | with_reducible exact KS _ (bal _ _ (bal _ _ dX)) | with_reducible exact KS _ (bal _ _ (Below.refl _ _)).drew | with_reducible exact KS _ (bal _ _ (bal _ _ (Below.refl _ _))).drew | with_reducible exact KS _ (set8_below R2 (by omega) _ _ _ _ _ _ _ _) | with_reducible exact KS _ (bal _ _ (set8_below R2 (by omega) _ _ _ _ _ _ _ _)) | with_reducible exact KS _ (bal _ _ (set8_below (bal _ _ R2) (by first | omega | (have:=R2.size;omega)) _ _ _ _ _ _ _ _)) | with_reducible exact KS _ (set8_below (bal _ _ R2) (by first | omega | (have:=R2.size;omega)) _ _ _ _ _ _ _ _) | with_reducible exact KS _ (set8_below (bal _ _ (bal _ _ R2)) (by first | omega | (have:=R2.size;omega)) _ _ _ _ _ _ _ _) | go_keep)
    (first
      | (go_at_call 20;refine name_worldM ?_;intro Y hY;have bY:Below X.heap.size X Y:=(by rw [hY];first | with_reducible exact dX | with_reducible exact (bal _ _ (Below.refl _ _)).drew | with_reducible exact (bal _ _ (bal _ _ (Below.refl _ _))).drew);refine (memPred2 kind attr ints words lo hi qi ci qw cw Y ((uh H1).below (below_sub (uh BX) bY)) ((uh H2).below (below_sub (uh BX) bY)) (by omega) (by omega)).mono ?_;rintro e w1 ⟨⟨g1,k1,g2,k2,rfl,s1,r1,z1,t1,r2,z2,f1,f2⟩,hb1⟩;have R2:Below X.heap.size X w1:=below_sub bY hb1;(first | (have y5:Y.heap[X.heap.size + 1]? = some (.cells #[.int .i64 0,.string ⟨#[]⟩,.slice none 0 0,.slice none 0 0,.int .i64 0,.int .i64 0,.int .i64 0,.slice none 0 0] 28):=(by rw [hY,drew_heap];with_reducible exact (twoM (w:=X) (o1:=.cells cur 28) (o2:=(.cells #[.int .i64 0,.string ⟨#[]⟩,.slice none 0 0,.slice none 0 0,.int .i64 0,.int .i64 0,.int .i64 0,.slice none 0 0] 28)) rfl).2.1);have hm1:w1.heap[X.heap.size + 1]? = some (.cells #[.int .i64 0,.string ⟨#[]⟩,.slice none 0 0,.slice none 0 0,.int .i64 0,.int .i64 0,.int .i64 0,.slice none 0 0] 28):=(hb1.block _ (heap_lt y5)).trans y5;have fz:∀ o,w1.frozen? ⟨X.heap.size + 1,o,none⟩=false:=(fun o=>frozen_free hm1);obtain ⟨p0,p1,p2,p3,p4,p5,p6,p7⟩:=of8' hm1;have lt1:X.heap.size + 1 < w1.heap.size:=heap_lt hm1;have HM1:=hide hm1;clear hm1;have F5:=hide trivial) | (have y5:Y.heap[X.heap.size]? = some (.cells #[.int .i64 0,.string ⟨#[]⟩,.slice none 0 0,.slice none 0 0,.int .i64 0,.int .i64 0,.int .i64 0,.slice none 0 0] 28):=(by rw [hY,drew_heap];with_reducible exact (twoM (w:=X) (o1:=(.cells #[.int .i64 0,.string ⟨#[]⟩,.slice none 0 0,.slice none 0 0,.int .i64 0,.int .i64 0,.int .i64 0,.slice none 0 0] 28)) (o2:=.cells cur 28) rfl).1);have hm1:w1.heap[X.heap.size]? = some (.cells #[.int .i64 0,.string ⟨#[]⟩,.slice none 0 0,.slice none 0 0,.int .i64 0,.int .i64 0,.int .i64 0,.slice none 0 0] 28):=(hb1.block _ (heap_lt y5)).trans y5;have fz:∀ o,w1.frozen? ⟨X.heap.size,o,none⟩=false:=(fun o=>frozen_free hm1);obtain ⟨p0,p1,p2,p3,p4,p5,p6,p7⟩:=of8' hm1;have lt1:X.heap.size < w1.heap.size:=heap_lt hm1;have HM1:=hide hm1;clear hm1;have F6:=hide trivial) | (have y5:Y.heap[X.heap.size]? = some (.cells #[.int .i64 0,.string ⟨#[]⟩,.slice none 0 0,.slice none 0 0,.int .i64 0,.int .i64 0,.int .i64 0,.slice none 0 0] 28):=(by rw [hY,drew_heap];with_reducible exact box_nw X (.cells #[.int .i64 0,.string ⟨#[]⟩,.slice none 0 0,.slice none 0 0,.int .i64 0,.int .i64 0,.int .i64 0,.slice none 0 0] 28));have hm1:w1.heap[X.heap.size]? = some (.cells #[.int .i64 0,.string ⟨#[]⟩,.slice none 0 0,.slice none 0 0,.int .i64 0,.int .i64 0,.int .i64 0,.slice none 0 0] 28):=(hb1.block _ (heap_lt y5)).trans y5;have fz:∀ o,w1.frozen? ⟨X.heap.size,o,none⟩=false:=(fun o=>frozen_free hm1);obtain ⟨p0,p1,p2,p3,p4,p5,p6,p7⟩:=of8' hm1;have lt1:X.heap.size < w1.heap.size:=heap_lt hm1;have HM1:=hide hm1;clear hm1;have F4:=hide trivial) | (have y5:Y.heap[X.heap.size]? = some (.cells cur 28):=(by rw [hY,drew_heap];with_reducible exact box_nw X _);have F3:=hide trivial) | (have F1:=hide trivial))))
  all_goals go_wp2
  · have zr:=R2.size
    have zs:=hb1.size
    have ug1:g1 < w1.heap.size:=by obtain ⟨b,off,hq,hB,_⟩:=s1.1 (by simp [spI]);cases hq;exact hB
    have ug2:g2 < w1.heap.size:=by obtain ⟨b,off,hq,hB,_⟩:=t1.1 (by simp [spS]);cases hq;exact hB
    have zY:Y.heap.size=X.heap.size + 0:=by rw [hY,drew_heap];rfl
    have hvo:OwnK encV 28 8 X.heap.size ((w1.alloc (.cells cur 28)).alloc (.cells #[.int .i64 kind,.string attr,.slice (some ⟨g1,0,none⟩) ints.length k1,.slice (some ⟨g2,0,none⟩) words.length k2,.int .i64 lo,.int .i64 hi,.int .i64 op,.slice (some ⟨w1.heap.size,0,none⟩) 0 (kids.length + 1)] 28)) (some ⟨w1.heap.size,0,none⟩) (kids.length + 1) []:=((ownV (B:=X.heap.size) (w:=w1) zr (by unfold maxLen;omega) hcs).below ((Below.refl _ _).alloc (Nat.le_refl _) _))
    have hvb:Below X.heap.size X ((w1.alloc (.cells cur 28)).alloc (.cells #[.int .i64 kind,.string attr,.slice (some ⟨g1,0,none⟩) ints.length k1,.slice (some ⟨g2,0,none⟩) words.length k2,.int .i64 lo,.int .i64 hi,.int .i64 op,.slice (some ⟨w1.heap.size,0,none⟩) 0 (kids.length + 1)] 28)):=bal _ _ (bal _ _ R2)
    have hvi:LsB encI 3 1 ((w1.alloc (.cells cur 28)).alloc (.cells #[.int .i64 kind,.string attr,.slice (some ⟨g1,0,none⟩) ints.length k1,.slice (some ⟨g2,0,none⟩) words.length k2,.int .i64 lo,.int .i64 hi,.int .i64 op,.slice (some ⟨w1.heap.size,0,none⟩) 0 (kids.length + 1)] 28)) g1 k1 (ints ++ spI):=(s1.below (((Below.refl _ _).alloc (Nat.le_refl _) _).alloc (by simp) _))
    have hvw:LsB encS 9 1 ((w1.alloc (.cells cur 28)).alloc (.cells #[.int .i64 kind,.string attr,.slice (some ⟨g1,0,none⟩) ints.length k1,.slice (some ⟨g2,0,none⟩) words.length k2,.int .i64 lo,.int .i64 hi,.int .i64 op,.slice (some ⟨w1.heap.size,0,none⟩) 0 (kids.length + 1)] 28)) g2 k2 (words ++ spS):=(t1.below (((Below.refl _ _).alloc (Nat.le_refl _) _).alloc (by simp) _))
    have hm:((w1.alloc (.cells cur 28)).alloc (.cells #[.int .i64 kind,.string attr,.slice (some ⟨g1,0,none⟩) ints.length k1,.slice (some ⟨g2,0,none⟩) words.length k2,.int .i64 lo,.int .i64 hi,.int .i64 op,.slice (some ⟨w1.heap.size,0,none⟩) 0 (kids.length + 1)] 28)).heap[w1.heap.size + 1]? = some (.cells #[.int .i64 kind,.string attr,.slice (some ⟨g1,0,none⟩) ints.length k1,.slice (some ⟨g2,0,none⟩) words.length k2,.int .i64 lo,.int .i64 hi,.int .i64 op,.slice (some ⟨w1.heap.size,0,none⟩) 0 (kids.length + 1)] 28):=by have:=box_nw (w1.alloc (.cells cur 28)) (.cells #[.int .i64 kind,.string attr,.slice (some ⟨g1,0,none⟩) ints.length k1,.slice (some ⟨g2,0,none⟩) words.length k2,.int .i64 lo,.int .i64 hi,.int .i64 op,.slice (some ⟨w1.heap.size,0,none⟩) 0 (kids.length + 1)] 28);rwa [size_al] at this
    obtain ⟨v0,v1,v2,v3,v4,v5,v6,v7⟩:=of8' hm
    have vf:∀ o,((w1.alloc (.cells cur 28)).alloc (.cells #[.int .i64 kind,.string attr,.slice (some ⟨g1,0,none⟩) ints.length k1,.slice (some ⟨g2,0,none⟩) words.length k2,.int .i64 lo,.int .i64 hi,.int .i64 op,.slice (some ⟨w1.heap.size,0,none⟩) 0 (kids.length + 1)] 28)).frozen? ⟨w1.heap.size + 1,o,none⟩=false:=fun o=>frozen_free hm
    have sv:w1.heap.size + 1 < ((w1.alloc (.cells cur 28)).alloc (.cells #[.int .i64 kind,.string attr,.slice (some ⟨g1,0,none⟩) ints.length k1,.slice (some ⟨g2,0,none⟩) words.length k2,.int .i64 lo,.int .i64 hi,.int .i64 op,.slice (some ⟨w1.heap.size,0,none⟩) 0 (kids.length + 1)] 28)).heap.size∧w1.heap.size < ((w1.alloc (.cells cur 28)).alloc (.cells #[.int .i64 kind,.string attr,.slice (some ⟨g1,0,none⟩) ints.length k1,.slice (some ⟨g2,0,none⟩) words.length k2,.int .i64 lo,.int .i64 hi,.int .i64 op,.slice (some ⟨w1.heap.size,0,none⟩) 0 (kids.length + 1)] 28)).heap.size∧w1.heap.size≤((w1.alloc (.cells cur 28)).alloc (.cells #[.int .i64 kind,.string attr,.slice (some ⟨g1,0,none⟩) ints.length k1,.slice (some ⟨g2,0,none⟩) words.length k2,.int .i64 lo,.int .i64 hi,.int .i64 op,.slice (some ⟨w1.heap.size,0,none⟩) 0 (kids.length + 1)] 28)).heap.size:=by refine ⟨?_, ?_, ?_⟩ <;> simp <;> omega
    obtain ⟨V,hV⟩:∃ V,((w1.alloc (.cells cur 28)).alloc (.cells #[.int .i64 kind,.string attr,.slice (some ⟨g1,0,none⟩) ints.length k1,.slice (some ⟨g2,0,none⟩) words.length k2,.int .i64 lo,.int .i64 hi,.int .i64 op,.slice (some ⟨w1.heap.size,0,none⟩) 0 (kids.length + 1)] 28))=V:=⟨_,rfl⟩
    obtain ⟨mb,hmb⟩:∃ mb,w1.heap.size + 1=mb:=⟨_,rfl⟩
    obtain ⟨gm,hgm⟩:∃ gm,w1.heap.size=gm:=⟨_,rfl⟩
    have hne1:mb ≠ gm:=by omega
    have hne2:X.heap.size≤mb:=by omega
    have hne3:X.heap.size≤gm:=by omega
    obtain ⟨sv1,sv2,_⟩:=sv
    have hg1n:g1 ≠ mb∧g1 ≠ gm∧g2 ≠ mb∧g2 ≠ gm:=(by refine ⟨?_, ?_, ?_, ?_⟩ <;> omega)
    have hgX:X.heap.size≤g1∧X.heap.size≤g2:=by omega
    rw [hV] at hvo hvb hvi hvw v0 v1 v2 v3 v4 v5 v6 v7 vf sv1 sv2
    rw [hV]
    rw [hmb] at v0 v1 v2 v3 v4 v5 v6 v7 vf sv1
    rw [hmb]
    rw [hgm] at hvo v7 sv2
    rw [hgm]
    have HX8:=hide (uh X8)
    clear hV hmb hgm s1 t1 hb1 R2 bY hY zr zs zY KS c0 c1 c2 c3 c4 c5 c6 c7 dX hmk3
    go_loopw [21] (fun i wr=>∃ (k:Nat) (us:List Nv),k≤kids.length∧i=.int .i64 k∧us.length=k∧Below X.heap.size X wr∧V.heap.size≤wr.heap.size∧(wr.cell? ⟨mb,0,none⟩=some (.int .i64 kind)∧wr.cell? ⟨mb,1,none⟩=some (.string attr)∧wr.cell? ⟨mb,2,none⟩=some (.slice (some ⟨g1,0,none⟩) ints.length k1)∧wr.cell? ⟨mb,3,none⟩=some (.slice (some ⟨g2,0,none⟩) words.length k2)∧wr.cell? ⟨mb,4,none⟩=some (.int .i64 lo)∧wr.cell? ⟨mb,5,none⟩=some (.int .i64 hi)∧wr.cell? ⟨mb,6,none⟩=some (.int .i64 op)∧wr.cell? ⟨mb,7,none⟩=some (.slice (some ⟨gm,0,none⟩) k (kids.length + 1)))∧(∀ o,wr.frozen? ⟨mb,o,none⟩=false)∧OwnK encV 28 8 X.heap.size wr (some ⟨gm,0,none⟩) (kids.length + 1) us∧LsB encI 3 1 wr g1 k1 (ints ++ spI)∧LsB encS 9 1 wr g2 k2 (words ++ spS)∧∀ (j:Nat) (v:Nv) (x:Nd),us[j]? = some v→kids[j]? = some x→SpIn wr V.heap.size v x) (fun i _=>kids.length - (intOf i).toNat)
    case atStart=>exact ⟨0,[],by omega,rfl,rfl,hvb,Nat.le_refl _,⟨v0,v1,v2,v3,v4,v5,v6,v7⟩,vf,OwnK.mono hvo (by omega),hvi,hvw,fun j v x h=>by simp at h⟩
    case round =>
      obtain ⟨k,us,hkk,rfl,hus,hbel,hVs,⟨c0,c1,c2,c3,c4,c5,c6,c7⟩,hcf,hown,hi1,hw1,hsp⟩:=hrel
      clear v0 v1 v2 v3 v4 v5 v6 v7 vf hvo hvi hvw
      by_cases hlt:k < kids.length
      · obtain ⟨x,hx,hd⟩:=get_at hlt
        clear hd
        obtain ⟨b,off,v,hq,hin,e0,e1,e2,e3,e4,e5,e6,e7⟩:=(uh HKX).on hx hbel
        subst hq
        have hxm:x ∈ kids:=List.mem_of_getElem? hx
        have ki0:(0:Int)≤(k:Int):=by omega
        have ki1:(k:Int) < (kids.length:Int):=by omega
        have HOWN:=hide hown
        have HI1:=hide hi1
        have HW1:=hide hw1
        have HSP:=hide hsp
        have HIN:=hide hin
        have HXX:=hide hx
        have HUS:=hide hus
        have HB:=hide hbel
        have hTT:=uh IH x hxm v
        have hwx:=Nat.le_trans (wtL_mem hxm) l3
        clear hown hi1 hw1 hsp hin hx hus hxm hbel
        go_wp2
        obtain ⟨Z,hZ⟩:∃ Z,wr.alloc (.cells #[.int .i64 v.kind,.string v.attr,.slice v.qi v.ni v.ci,.slice v.qw v.nw v.cw,.int .i64 v.lo,.int .i64 v.hi,.int .i64 v.op,.slice v.qk v.nk v.ck] 28)=Z:=⟨_,rfl⟩
        rw [hZ]
        have zk:Z.heap[wr.heap.size]? = some (.cells #[.int .i64 v.kind,.string v.attr,.slice v.qi v.ni v.ci,.slice v.qw v.nw v.cw,.int .i64 v.lo,.int .i64 v.hi,.int .i64 v.op,.slice v.qk v.nk v.ck] 28 (0,0)):=by rw [← hZ];exact box_nw _ _
        have bZ:Below wr.heap.size wr Z:=by rw [← hZ];exact (Below.refl _ _).alloc (Nat.le_refl _) _
        have sZ:Z.heap.size=wr.heap.size + 1:=by rw [← hZ];simp
        have hmr:mb < wr.heap.size:=by omega
        have hgr:gm < wr.heap.size:=by omega
        have q7:Z.cell? ⟨mb,7,none⟩=some (.slice (some ⟨gm,0,none⟩) k (kids.length + 1)):=(bZ.cell (p:=⟨mb,7,none⟩) (by exact hmr)).trans c7
        have qf:∀ o,Z.frozen? ⟨mb,o,none⟩=false:=fun o=>(bZ.frozen (by exact hmr)).trans (hcf o)
        have KS2:∀ W:World,(∀ o,W.cell? ⟨wr.heap.size,o,none⟩=Z.cell? ⟨wr.heap.size,o,none⟩)→(fun w'=>w'.cell? ⟨wr.heap.size,0,none⟩=some (.int .i64 v.kind)∧w'.cell? ⟨wr.heap.size,1,none⟩=some (.string v.attr)∧w'.cell? ⟨wr.heap.size,2,none⟩=some (.slice v.qi v.ni v.ci)∧w'.cell? ⟨wr.heap.size,3,none⟩=some (.slice v.qw v.nw v.cw)∧w'.cell? ⟨wr.heap.size,4,none⟩=some (.int .i64 v.lo)∧w'.cell? ⟨wr.heap.size,5,none⟩=some (.int .i64 v.hi)∧w'.cell? ⟨wr.heap.size,6,none⟩=some (.int .i64 v.op)∧w'.cell? ⟨wr.heap.size,7,none⟩=some (.slice v.qk v.nk v.ck)) W:=fun W hb=>by
          obtain ⟨a0,a1,a2,a3,a4,a5,a6,a7⟩:=of8' zk
          exact ⟨(hb 0).trans a0,(hb 1).trans a1,(hb 2).trans a2,(hb 3).trans a3,(hb 4).trans a4,(hb 5).trans a5,(hb 6).trans a6,(hb 7).trans a7⟩
        have E0:∀ o,Z.drew.cell? ⟨wr.heap.size,o,none⟩=Z.cell? ⟨wr.heap.size,o,none⟩:=fun o=>rfl
        obtain ⟨f0,f1,f2,f3,f4,f5,f6,f7⟩:=KS2 Z (fun o=>rfl)
        have hNd:=hTT Z.drew ((uh HIN).keep bZ.drew) hwx
        simp only [Nv.val] at hNd
        have ZK:=hide zk
        have HO2:=hide ((uh HOWN).below bZ)
        have hnn:¬ wr.heap.size=mb:=by omega
        clear e0 e1 e2 e3 e4 e5 e6 e7 zk hTT hwx
        refine wp_region_held_drew (S:=fun w'=>w'.cell? ⟨wr.heap.size,0,none⟩=some (.int .i64 v.kind)∧w'.cell? ⟨wr.heap.size,1,none⟩=some (.string v.attr)∧w'.cell? ⟨wr.heap.size,2,none⟩=some (.slice v.qi v.ni v.ci)∧w'.cell? ⟨wr.heap.size,3,none⟩=some (.slice v.qw v.nw v.cw)∧w'.cell? ⟨wr.heap.size,4,none⟩=some (.int .i64 v.lo)∧w'.cell? ⟨wr.heap.size,5,none⟩=some (.int .i64 v.hi)∧w'.cell? ⟨wr.heap.size,6,none⟩=some (.int .i64 v.op)∧w'.cell? ⟨wr.heap.size,7,none⟩=some (.slice v.qk v.nk v.ck)) (by kernel_rfl) (KS2 _ E0) (fun hHeld=>?_)
        refine wpAnyH_take (i:=0) (oi:=⟨some 25,.fieldAddr 28 (.tmp 3) 2,_,_,_,none⟩) (v:=?_) rfl (by kernel_rfl) (by kernel_rfl) (by kernel_rfl) (fun _ _ _ h=>h) (Or.inl ⟨by rfl, ?_⟩) (by assumption) ?_
        rotate_left
        · intro w hSw
          go_simp
          with_reducible rfl
        simp only [Act.put,List.setIfInBounds_toArray,List.set_cons_zero,List.set_cons_succ]
        refine wpAnyH_take (i:=2) (oi:=⟨some 27,.load 28 (.tmp 5),_,_,_,none⟩) (v:=?_) rfl (by kernel_rfl) (by kernel_rfl) (by kernel_rfl) (fun _ _ _ h=>h) (Or.inl ⟨by rfl, ?_⟩) (by assumption) ?_
        rotate_left
        · intro w hSw
          go_simp
          with_reducible rfl
        simp only [Act.put,List.setIfInBounds_toArray,List.set_cons_zero,List.set_cons_succ]
        refine wpAnyH_ready (rs:=[1,3]) (by kernel_rfl) (by simp) ?_
        refine AllReadyH.cons (o:=⟨some 26,.load 26 (.tmp 25),_,_,_,none⟩) rfl (fun K hK=>?_) ?_
        · go_simp
          refine hK.out _ _ (KS2 _ E0) (fun hHeld=>?_)
          clear hK K
          skip
          refine wpAnyH_ready (rs:=[3]) (by kernel_rfl) (by simp) ?_
          refine AllReadyH.cons (o:=⟨some 28,.call { callee:=.value (.func 5),args:=#[.tmp 27],argTypes:=#[28] },_,_,_,none⟩) rfl (fun K hK=>?_) ?_
          · go_simp
            refine hNd.mono ?_
            rintro e w2 ⟨⟨u,rfl,hu⟩,hb2⟩
            simp only
            have R3:Below Z.heap.size Z w2:=below_undrewM hb2
            have s2:=R3.size
            have E2:∀ o,w2.cell? ⟨wr.heap.size,o,none⟩=Z.cell? ⟨wr.heap.size,o,none⟩:=fun o=>R3.cell (p:=⟨wr.heap.size,o,none⟩) (by simp only;omega)
            have m7:w2.cell? ⟨mb,7,none⟩=some (.slice (some ⟨gm,0,none⟩) k (kids.length + 1)):=(R3.cell (p:=⟨mb,7,none⟩) (by simp only;omega)).trans q7
            have mf:∀ o,w2.frozen? ⟨mb,o,none⟩=false:=fun o=>(R3.frozen (by simp only;omega)).trans (qf o)
            have lm2:mb < w2.heap.size:=by omega
            have nm2:¬ mb=w2.heap.size:=by omega
            have E2a:∀ o,(w2.alloc (.cells #[.int .i64 u.kind,.string u.attr,.slice u.qi u.ni u.ci,.slice u.qw u.nw u.cw,.int .i64 u.lo,.int .i64 u.hi,.int .i64 u.op,.slice u.qk u.nk u.ck] 28)).cell? ⟨wr.heap.size,o,none⟩=Z.cell? ⟨wr.heap.size,o,none⟩:=fun o=>(((Below.refl w2.heap.size w2).alloc (Nat.le_refl _) _).cell (p:=⟨wr.heap.size,o,none⟩) (by simp only;omega)).trans (E2 o)
            have HU:=hide hu
            clear hu hb2
            refine hK.out _ _ (KS2 _ E2) (fun hHeld=>?_)
            clear hK K
            skip
            refine wpAnyH_ready (rs:=[4]) (by kernel_rfl) (by simp) ?_
            refine AllReadyH.cons (o:=⟨some 29,.buildSlice 26 1 #[(0,.tmp 28)],_,_,_,none⟩) rfl (fun K hK=>?_) ?_
            · go_simp
              refine hK.out _ _ (KS2 _ E2a) (fun hHeld=>?_)
              clear hK K
              skip
              refine wpAnyH_ready (rs:=[5]) (by kernel_rfl) (by simp) ?_
              refine AllReadyH.cons (o:=⟨some 30,.call { callee:=.builtin .append,args:=#[.tmp 26,.tmp 29],argTypes:=#[26,26] },_,_,_,none⟩) rfl (fun K hK=>?_) ?_
              · refine step_fit rowV (by rfl) (.tmp 26) (.tmp 29) (by rfl) X.heap.size gm (kids.length + 1) us ⟨w2.heap.size,0,none⟩ 1 [u] k 1 (k + 1) (uh HUS) rfl rfl (by rfl) (by rfl) (((uh HO2).below R3).below ((Below.refl _ _).alloc (Nat.le_refl _) _)) (node_src (box_nw _ _)) (by omega) ?_
                intro w3 hown3 hg3
                have s3:=hg3.size
                simp only [size_al] at s3
                have E3:∀ o,w3.cell? ⟨wr.heap.size,o,none⟩=Z.cell? ⟨wr.heap.size,o,none⟩:=fun o=>(World.cell?_of_block (w:=w2.alloc (.cells #[.int .i64 u.kind,.string u.attr,.slice u.qi u.ni u.ci,.slice u.qw u.nw u.cw,.int .i64 u.lo,.int .i64 u.hi,.int .i64 u.op,.slice u.qk u.nk u.ck] 28)) (a:=⟨wr.heap.size,o,none⟩) (hg3.block wr.heap.size (by simp only [size_al];omega) (fun e=>by cases e;omega))).trans (E2a o)
                have n7:w3.cell? ⟨mb,7,none⟩=some (.slice (some ⟨gm,0,none⟩) k (kids.length + 1)):=(World.cell?_of_block (w:=w2.alloc (.cells #[.int .i64 u.kind,.string u.attr,.slice u.qi u.ni u.ci,.slice u.qw u.nw u.cw,.int .i64 u.lo,.int .i64 u.hi,.int .i64 u.op,.slice u.qk u.nk u.ck] 28)) (a:=⟨mb,7,none⟩) (hg3.block mb (by simp only [size_al];omega) (fun e=>by cases e;omega))).trans ((((Below.refl w2.heap.size w2).alloc (Nat.le_refl _) _).cell (p:=⟨mb,7,none⟩) (by exact lm2)).trans m7)
                have nf:∀ o,w3.frozen? ⟨mb,o,none⟩=false:=fun o=>frz hg3 (by simp only [size_al];omega) (by omega) ((((Below.refl w2.heap.size w2).alloc (Nat.le_refl _) _).frozen (by exact lm2)).trans (mf o))
                have HO3:=hide hown3
                have HG3:=hide hg3
                clear hown3 hg3
                refine hK.out _ _ (KS2 _ E3) (fun hHeld=>?_)
                clear hK K
                simp only [Act.put,List.setIfInBounds_toArray,List.set_cons_zero,List.set_cons_succ]
                refine wpAnyH_take (i:=6) (oi:=⟨some 31,.fieldAddr 28 (.tmp 3) 2,_,_,_,none⟩) (v:=?_) rfl (by kernel_rfl) (by kernel_rfl) (by kernel_rfl) (fun _ _ _ h=>h) (Or.inl ⟨by rfl, ?_⟩) (by assumption) ?_
                rotate_left
                · intro w hSw
                  go_simp
                  with_reducible rfl
                simp only [Act.put,List.setIfInBounds_toArray,List.set_cons_zero,List.set_cons_succ]
                refine wpAnyH_ready (rs:=[7]) (by kernel_rfl) (by simp) ?_
                refine AllReadyH.cons (o:=⟨none,.store 26 (.tmp 31) (.tmp 30),_,_,_,none⟩) rfl (fun K hK=>?_) ?_
                · go_simp
                  refine hK.out _ _ (KS2 _ (fun o=>(set_other _ (by omega) o 7 _).trans (E3 o))) (fun hHeld=>?_)
                  clear hK K
                  skip
                  refine wpAnyH_done (by kernel_rfl) ?_ _
                  have P4:=hide (node_round (V:=V) (uh HB) bZ R3 (uh HG3) hne1 hne2 hne3 hg1n sv1 sv2 hVs sZ c0 c1 c2 c3 c4 c5 c6 n7 nf (uh HO3) (uh HI1) (uh HW1) (uh HSP) (uh HU) (uh HUS) (uh HXX))
                  have hl4:(us ++ [u]).length=k + 1:=by rw [List.length_append,uh HUS];rfl
                  go_wp2
                  go_roundw
                  case rel=>exact ⟨k + 1,us ++ [u],by omega,by go_num,hl4,uh P4⟩
                  case measure=>simp [intOf];omega
                exact AllReadyH.nil
              exact AllReadyH.nil
            exact AllReadyH.nil
          exact AllReadyH.nil
        refine AllReadyH.cons (o:=⟨some 28,.call { callee:=.value (.func 5),args:=#[.tmp 27],argTypes:=#[28] },_,_,_,none⟩) rfl (fun K hK=>?_) ?_
        · go_simp
          refine hNd.mono ?_
          rintro e w2 ⟨⟨u,rfl,hu⟩,hb2⟩
          simp only
          have R3:Below Z.heap.size Z w2:=below_undrewM hb2
          have s2:=R3.size
          have E2:∀ o,w2.cell? ⟨wr.heap.size,o,none⟩=Z.cell? ⟨wr.heap.size,o,none⟩:=fun o=>R3.cell (p:=⟨wr.heap.size,o,none⟩) (by simp only;omega)
          have m7:w2.cell? ⟨mb,7,none⟩=some (.slice (some ⟨gm,0,none⟩) k (kids.length + 1)):=(R3.cell (p:=⟨mb,7,none⟩) (by simp only;omega)).trans q7
          have mf:∀ o,w2.frozen? ⟨mb,o,none⟩=false:=fun o=>(R3.frozen (by simp only;omega)).trans (qf o)
          have lm2:mb < w2.heap.size:=by omega
          have nm2:¬ mb=w2.heap.size:=by omega
          have E2a:∀ o,(w2.alloc (.cells #[.int .i64 u.kind,.string u.attr,.slice u.qi u.ni u.ci,.slice u.qw u.nw u.cw,.int .i64 u.lo,.int .i64 u.hi,.int .i64 u.op,.slice u.qk u.nk u.ck] 28)).cell? ⟨wr.heap.size,o,none⟩=Z.cell? ⟨wr.heap.size,o,none⟩:=fun o=>(((Below.refl w2.heap.size w2).alloc (Nat.le_refl _) _).cell (p:=⟨wr.heap.size,o,none⟩) (by simp only;omega)).trans (E2 o)
          have HU:=hide hu
          clear hu hb2
          refine hK.out _ _ (KS2 _ E2) (fun hHeld=>?_)
          clear hK K
          skip
          refine wpAnyH_ready (rs:=[1,4]) (by kernel_rfl) (by simp) ?_
          refine AllReadyH.cons (o:=⟨some 26,.load 26 (.tmp 25),_,_,_,none⟩) rfl (fun K hK=>?_) ?_
          · go_simp
            refine hK.out _ _ (KS2 _ E2) (fun hHeld=>?_)
            clear hK K
            skip
            refine wpAnyH_ready (rs:=[4]) (by kernel_rfl) (by simp) ?_
            refine AllReadyH.cons (o:=⟨some 29,.buildSlice 26 1 #[(0,.tmp 28)],_,_,_,none⟩) rfl (fun K hK=>?_) ?_
            · go_simp
              refine hK.out _ _ (KS2 _ E2a) (fun hHeld=>?_)
              clear hK K
              skip
              refine wpAnyH_ready (rs:=[5]) (by kernel_rfl) (by simp) ?_
              refine AllReadyH.cons (o:=⟨some 30,.call { callee:=.builtin .append,args:=#[.tmp 26,.tmp 29],argTypes:=#[26,26] },_,_,_,none⟩) rfl (fun K hK=>?_) ?_
              · refine step_fit rowV (by rfl) (.tmp 26) (.tmp 29) (by rfl) X.heap.size gm (kids.length + 1) us ⟨w2.heap.size,0,none⟩ 1 [u] k 1 (k + 1) (uh HUS) rfl rfl (by rfl) (by rfl) (((uh HO2).below R3).below ((Below.refl _ _).alloc (Nat.le_refl _) _)) (node_src (box_nw _ _)) (by omega) ?_
                intro w3 hown3 hg3
                have s3:=hg3.size
                simp only [size_al] at s3
                have E3:∀ o,w3.cell? ⟨wr.heap.size,o,none⟩=Z.cell? ⟨wr.heap.size,o,none⟩:=fun o=>(World.cell?_of_block (w:=w2.alloc (.cells #[.int .i64 u.kind,.string u.attr,.slice u.qi u.ni u.ci,.slice u.qw u.nw u.cw,.int .i64 u.lo,.int .i64 u.hi,.int .i64 u.op,.slice u.qk u.nk u.ck] 28)) (a:=⟨wr.heap.size,o,none⟩) (hg3.block wr.heap.size (by simp only [size_al];omega) (fun e=>by cases e;omega))).trans (E2a o)
                have n7:w3.cell? ⟨mb,7,none⟩=some (.slice (some ⟨gm,0,none⟩) k (kids.length + 1)):=(World.cell?_of_block (w:=w2.alloc (.cells #[.int .i64 u.kind,.string u.attr,.slice u.qi u.ni u.ci,.slice u.qw u.nw u.cw,.int .i64 u.lo,.int .i64 u.hi,.int .i64 u.op,.slice u.qk u.nk u.ck] 28)) (a:=⟨mb,7,none⟩) (hg3.block mb (by simp only [size_al];omega) (fun e=>by cases e;omega))).trans ((((Below.refl w2.heap.size w2).alloc (Nat.le_refl _) _).cell (p:=⟨mb,7,none⟩) (by exact lm2)).trans m7)
                have nf:∀ o,w3.frozen? ⟨mb,o,none⟩=false:=fun o=>frz hg3 (by simp only [size_al];omega) (by omega) ((((Below.refl w2.heap.size w2).alloc (Nat.le_refl _) _).frozen (by exact lm2)).trans (mf o))
                have HO3:=hide hown3
                have HG3:=hide hg3
                clear hown3 hg3
                refine hK.out _ _ (KS2 _ E3) (fun hHeld=>?_)
                clear hK K
                simp only [Act.put,List.setIfInBounds_toArray,List.set_cons_zero,List.set_cons_succ]
                refine wpAnyH_take (i:=6) (oi:=⟨some 31,.fieldAddr 28 (.tmp 3) 2,_,_,_,none⟩) (v:=?_) rfl (by kernel_rfl) (by kernel_rfl) (by kernel_rfl) (fun _ _ _ h=>h) (Or.inl ⟨by rfl, ?_⟩) (by assumption) ?_
                rotate_left
                · intro w hSw
                  go_simp
                  with_reducible rfl
                simp only [Act.put,List.setIfInBounds_toArray,List.set_cons_zero,List.set_cons_succ]
                refine wpAnyH_ready (rs:=[7]) (by kernel_rfl) (by simp) ?_
                refine AllReadyH.cons (o:=⟨none,.store 26 (.tmp 31) (.tmp 30),_,_,_,none⟩) rfl (fun K hK=>?_) ?_
                · go_simp
                  refine hK.out _ _ (KS2 _ (fun o=>(set_other _ (by omega) o 7 _).trans (E3 o))) (fun hHeld=>?_)
                  clear hK K
                  skip
                  refine wpAnyH_done (by kernel_rfl) ?_ _
                  have P4:=hide (node_round (V:=V) (uh HB) bZ R3 (uh HG3) hne1 hne2 hne3 hg1n sv1 sv2 hVs sZ c0 c1 c2 c3 c4 c5 c6 n7 nf (uh HO3) (uh HI1) (uh HW1) (uh HSP) (uh HU) (uh HUS) (uh HXX))
                  have hl4:(us ++ [u]).length=k + 1:=by rw [List.length_append,uh HUS];rfl
                  go_wp2
                  go_roundw
                  case rel=>exact ⟨k + 1,us ++ [u],by omega,by go_num,hl4,uh P4⟩
                  case measure=>simp [intOf];omega
                exact AllReadyH.nil
              exact AllReadyH.nil
            exact AllReadyH.nil
          refine AllReadyH.cons (o:=⟨some 29,.buildSlice 26 1 #[(0,.tmp 28)],_,_,_,none⟩) rfl (fun K hK=>?_) ?_
          · go_simp
            refine hK.out _ _ (KS2 _ E2a) (fun hHeld=>?_)
            clear hK K
            skip
            refine wpAnyH_ready (rs:=[1]) (by kernel_rfl) (by simp) ?_
            refine AllReadyH.cons (o:=⟨some 26,.load 26 (.tmp 25),_,_,_,none⟩) rfl (fun K hK=>?_) ?_
            · go_simp
              refine hK.out _ _ (KS2 _ E2a) (fun hHeld=>?_)
              clear hK K
              skip
              refine wpAnyH_ready (rs:=[5]) (by kernel_rfl) (by simp) ?_
              refine AllReadyH.cons (o:=⟨some 30,.call { callee:=.builtin .append,args:=#[.tmp 26,.tmp 29],argTypes:=#[26,26] },_,_,_,none⟩) rfl (fun K hK=>?_) ?_
              · refine step_fit rowV (by rfl) (.tmp 26) (.tmp 29) (by rfl) X.heap.size gm (kids.length + 1) us ⟨w2.heap.size,0,none⟩ 1 [u] k 1 (k + 1) (uh HUS) rfl rfl (by rfl) (by rfl) (((uh HO2).below R3).below ((Below.refl _ _).alloc (Nat.le_refl _) _)) (node_src (box_nw _ _)) (by omega) ?_
                intro w3 hown3 hg3
                have s3:=hg3.size
                simp only [size_al] at s3
                have E3:∀ o,w3.cell? ⟨wr.heap.size,o,none⟩=Z.cell? ⟨wr.heap.size,o,none⟩:=fun o=>(World.cell?_of_block (w:=w2.alloc (.cells #[.int .i64 u.kind,.string u.attr,.slice u.qi u.ni u.ci,.slice u.qw u.nw u.cw,.int .i64 u.lo,.int .i64 u.hi,.int .i64 u.op,.slice u.qk u.nk u.ck] 28)) (a:=⟨wr.heap.size,o,none⟩) (hg3.block wr.heap.size (by simp only [size_al];omega) (fun e=>by cases e;omega))).trans (E2a o)
                have n7:w3.cell? ⟨mb,7,none⟩=some (.slice (some ⟨gm,0,none⟩) k (kids.length + 1)):=(World.cell?_of_block (w:=w2.alloc (.cells #[.int .i64 u.kind,.string u.attr,.slice u.qi u.ni u.ci,.slice u.qw u.nw u.cw,.int .i64 u.lo,.int .i64 u.hi,.int .i64 u.op,.slice u.qk u.nk u.ck] 28)) (a:=⟨mb,7,none⟩) (hg3.block mb (by simp only [size_al];omega) (fun e=>by cases e;omega))).trans ((((Below.refl w2.heap.size w2).alloc (Nat.le_refl _) _).cell (p:=⟨mb,7,none⟩) (by exact lm2)).trans m7)
                have nf:∀ o,w3.frozen? ⟨mb,o,none⟩=false:=fun o=>frz hg3 (by simp only [size_al];omega) (by omega) ((((Below.refl w2.heap.size w2).alloc (Nat.le_refl _) _).frozen (by exact lm2)).trans (mf o))
                have HO3:=hide hown3
                have HG3:=hide hg3
                clear hown3 hg3
                refine hK.out _ _ (KS2 _ E3) (fun hHeld=>?_)
                clear hK K
                simp only [Act.put,List.setIfInBounds_toArray,List.set_cons_zero,List.set_cons_succ]
                refine wpAnyH_take (i:=6) (oi:=⟨some 31,.fieldAddr 28 (.tmp 3) 2,_,_,_,none⟩) (v:=?_) rfl (by kernel_rfl) (by kernel_rfl) (by kernel_rfl) (fun _ _ _ h=>h) (Or.inl ⟨by rfl, ?_⟩) (by assumption) ?_
                rotate_left
                · intro w hSw
                  go_simp
                  with_reducible rfl
                simp only [Act.put,List.setIfInBounds_toArray,List.set_cons_zero,List.set_cons_succ]
                refine wpAnyH_ready (rs:=[7]) (by kernel_rfl) (by simp) ?_
                refine AllReadyH.cons (o:=⟨none,.store 26 (.tmp 31) (.tmp 30),_,_,_,none⟩) rfl (fun K hK=>?_) ?_
                · go_simp
                  refine hK.out _ _ (KS2 _ (fun o=>(set_other _ (by omega) o 7 _).trans (E3 o))) (fun hHeld=>?_)
                  clear hK K
                  skip
                  refine wpAnyH_done (by kernel_rfl) ?_ _
                  have P4:=hide (node_round (V:=V) (uh HB) bZ R3 (uh HG3) hne1 hne2 hne3 hg1n sv1 sv2 hVs sZ c0 c1 c2 c3 c4 c5 c6 n7 nf (uh HO3) (uh HI1) (uh HW1) (uh HSP) (uh HU) (uh HUS) (uh HXX))
                  have hl4:(us ++ [u]).length=k + 1:=by rw [List.length_append,uh HUS];rfl
                  go_wp2
                  go_roundw
                  case rel=>exact ⟨k + 1,us ++ [u],by omega,by go_num,hl4,uh P4⟩
                  case measure=>simp [intOf];omega
                exact AllReadyH.nil
              exact AllReadyH.nil
            exact AllReadyH.nil
          exact AllReadyH.nil
        exact AllReadyH.nil
      · have ki1:¬ (k:Int) < (kids.length:Int):=by omega
        obtain rfl:k=kids.length:=by omega
        have HOWN:=hide hown
        have HUS:=hide hus
        have HB:=hide hbel
        have HI1:=hide hi1
        have HW1:=hide hw1
        have HSP:=hide hsp
        have sXX:=uh SX
        have hmr:mb < wr.heap.size:=by omega
        have hgr:gm < wr.heap.size:=by omega
        clear hown hus hbel hi1 hw1 hsp
        go_wp2_with (at_builtin;refine wpList_fit rowV rfl _ _ rfl X.heap.size gm (kids.length + 1) us ⟨wr.heap.size,0,none⟩ 1 [spV] kids.length 1 (kids.length + 1) (uh HUS) rfl rfl rfl rfl ((uh HOWN).below ((Below.refl _ _).alloc (Nat.le_refl _) _)) (node_src (u:=spV) (box_nw _ _)) (Nat.le_refl _) ?_;intro w3 hown3 hg3;have HO3:=hide hown3;have HG3:=hide hg3;clear hown3 hg3)
        have AL:=(Below.refl wr.heap.size wr).alloc (Nat.le_refl _) (.cells #[.int .i64 0,.string ⟨#[]⟩,.slice none 0 0,.slice none 0 0,.int .i64 0,.int .i64 0,.int .i64 77,.slice none 0 0] 28)
        have s3:=(uh HG3).size
        simp only [size_al] at s3
        have N3:∀ g,g ≠ gm→g < wr.heap.size→∀ o,w3.cell? ⟨g,o,none⟩=wr.cell? ⟨g,o,none⟩:=fun g hg hl o=>(World.cell?_of_block (w:=wr.alloc (.cells #[.int .i64 0,.string ⟨#[]⟩,.slice none 0 0,.slice none 0 0,.int .i64 0,.int .i64 0,.int .i64 77,.slice none 0 0] 28)) (a:=⟨g,o,none⟩) ((uh HG3).block g (by simp only [size_al];omega) (fun e=>by cases e;exact hg rfl))).trans (AL.cell (p:=⟨g,o,none⟩) (by exact hl))
        have bw3:Below X.heap.size X w3:=(below_sub (uh HB) AL).grown (uh HG3) (by simp only [size_al];have:=(uh HB).size;omega) (fun k hk=>by cases hk;exact hne3)
        have n0:=(N3 mb hne1 hmr 0).trans c0
        have n1:=(N3 mb hne1 hmr 1).trans c1
        have n2:=(N3 mb hne1 hmr 2).trans c2
        have n3:=(N3 mb hne1 hmr 3).trans c3
        have n4:=(N3 mb hne1 hmr 4).trans c4
        have n5:=(N3 mb hne1 hmr 5).trans c5
        have n6:=(N3 mb hne1 hmr 6).trans c6
        obtain ⟨_,_,_,_,_,_,_,x7⟩:=of8' ((bw3.block _ (heap_lt (uh HX8))).trans (uh HX8))
        have hz3:=(bw3.block _ (heap_lt (uh XZ))).trans (uh XZ)
        obtain ⟨o0,o1,o2,o3,o4,o5,o6,o7⟩:=of8' hz3
        have rf:∀ o,w3.frozen? ⟨w.heap.size + 1,o,none⟩=false:=fun o=>frozen_free hz3
        have q1:¬ mb=w.heap.size + 1:=by omega
        have q2:¬ w.heap.size + 1=mb:=by omega
        have t1:(0:Int)≤(kids.length:Int):=by omega
        have t4:(kids.length:Int)≤(kids.length:Int) + 1:=by omega
        have BW3:=hide bw3
        have HN3:Hid (∀ g,g ≠ gm→g < wr.heap.size→w3.heap[g]? = wr.heap[g]?):=hide (fun g hg hl=>((uh HG3).block g (by simp only [size_al];omega) (fun e=>by cases e;exact hg rfl)).trans (heap_old hl))
        clear bw3 N3 c0 c1 c2 c3 c4 c5 c6 c7 hcf hz3 AL ki1
        refine wp_region_held_drew (S:=fun w'=>w'.cell? ⟨mb,0,none⟩=some (.int .i64 kind)∧w'.cell? ⟨mb,1,none⟩=some (.string attr)∧w'.cell? ⟨mb,2,none⟩=some (.slice (some ⟨g1,0,none⟩) ints.length k1)∧w'.cell? ⟨mb,3,none⟩=some (.slice (some ⟨g2,0,none⟩) words.length k2)∧w'.cell? ⟨mb,4,none⟩=some (.int .i64 lo)∧w'.cell? ⟨mb,5,none⟩=some (.int .i64 hi)∧w'.cell? ⟨mb,6,none⟩=some (.int .i64 op)∧w'.cell? ⟨w.heap.size,7,none⟩=some (.slice qk kids.length ck)) (by kernel_rfl) ⟨n0,n1,n2,n3,n4,n5,n6,x7⟩ (fun hHeld=>?_)
        refine wpAnyH_take (i:=0) (oi:=⟨some 38,.fieldAddr 28 (.tmp 3) 0,_,_,_,none⟩) (v:=?_) rfl (by kernel_rfl) (by kernel_rfl) (by kernel_rfl) (fun _ _ _ h=>h) (Or.inl ⟨by rfl, ?_⟩) (by assumption) ?_
        rotate_left
        · intro wq hSw
          go_simp
          with_reducible rfl
        simp only [Act.put,List.setIfInBounds_toArray,List.set_cons_zero,List.set_cons_succ]
        refine wpAnyH_take (i:=1) (oi:=⟨some 39,.load 25 (.tmp 38),_,_,_,none⟩) (v:=?_) rfl (by kernel_rfl) (by kernel_rfl) (by kernel_rfl) (fun _ _ _ h=>h) (Or.inl ⟨by rfl, ?_⟩) (by assumption) ?_
        rotate_left
        · intro wq hSw
          go_simp
          with_reducible rfl
        simp only [Act.put,List.setIfInBounds_toArray,List.set_cons_zero,List.set_cons_succ]
        refine wpAnyH_take (i:=2) (oi:=⟨some 40,.fieldAddr 28 (.tmp 3) 1,_,_,_,none⟩) (v:=?_) rfl (by kernel_rfl) (by kernel_rfl) (by kernel_rfl) (fun _ _ _ h=>h) (Or.inl ⟨by rfl, ?_⟩) (by assumption) ?_
        rotate_left
        · intro wq hSw
          go_simp
          with_reducible rfl
        simp only [Act.put,List.setIfInBounds_toArray,List.set_cons_zero,List.set_cons_succ]
        refine wpAnyH_take (i:=3) (oi:=⟨some 41,.load 3 (.tmp 40),_,_,_,none⟩) (v:=?_) rfl (by kernel_rfl) (by kernel_rfl) (by kernel_rfl) (fun _ _ _ h=>h) (Or.inl ⟨by rfl, ?_⟩) (by assumption) ?_
        rotate_left
        · intro wq hSw
          go_simp
          with_reducible rfl
        simp only [Act.put,List.setIfInBounds_toArray,List.set_cons_zero,List.set_cons_succ]
        refine wpAnyH_take (i:=4) (oi:=⟨some 42,.move (.tmp 6),_,_,_,none⟩) (v:=?_) rfl (by kernel_rfl) (by kernel_rfl) (by kernel_rfl) (fun _ _ _ h=>h) (Or.inl ⟨by rfl, ?_⟩) (by assumption) ?_
        rotate_left
        · intro wq hSw
          go_simp
          with_reducible rfl
        simp only [Act.put,List.setIfInBounds_toArray,List.set_cons_zero,List.set_cons_succ]
        refine wpAnyH_take (i:=5) (oi:=⟨some 43,.fieldAddr 28 (.tmp 1) 2,_,_,_,none⟩) (v:=?_) rfl (by kernel_rfl) (by kernel_rfl) (by kernel_rfl) (fun _ _ _ h=>h) (Or.inl ⟨by rfl, ?_⟩) (by assumption) ?_
        rotate_left
        · intro wq hSw
          go_simp
          with_reducible rfl
        simp only [Act.put,List.setIfInBounds_toArray,List.set_cons_zero,List.set_cons_succ]
        refine wpAnyH_take (i:=6) (oi:=⟨some 44,.load 26 (.tmp 43),_,_,_,none⟩) (v:=?_) rfl (by kernel_rfl) (by kernel_rfl) (by kernel_rfl) (fun _ _ _ h=>h) (Or.inl ⟨by rfl, ?_⟩) (by assumption) ?_
        rotate_left
        · intro wq hSw
          go_simp
          with_reducible rfl
        simp only [Act.put,List.setIfInBounds_toArray,List.set_cons_zero,List.set_cons_succ]
        refine wpAnyH_take (i:=7) (oi:=⟨some 45,.call { callee:=.builtin .len,args:=#[.tmp 44],argTypes:=#[26] },_,_,_,none⟩) (v:=?_) rfl (by kernel_rfl) (by kernel_rfl) (by kernel_rfl) (fun _ _ _ h=>h) (Or.inl ⟨by rfl, ?_⟩) (by assumption) ?_
        rotate_left
        · intro wq hSw
          go_simp
          with_reducible rfl
        simp only [Act.put,List.setIfInBounds_toArray,List.set_cons_zero,List.set_cons_succ]
        refine wpAnyH_ready (rs:=[8]) (by kernel_rfl) (by simp) ?_
        refine AllReadyH.cons (o:=⟨some 46,.slice 26 (.tmp 42) none (some (.tmp 45)) none,_,_,_,none⟩) rfl (fun K hK=>?_) ?_
        · go_simp
          refine hK.out _ _ (⟨n0,n1,n2,n3,n4,n5,n6,x7⟩) (fun hHeld=>?_)
          clear hK K
          refine wpAnyH_take (i:=9) (oi:=⟨some 47,.build 28 #[(0,.tmp 39),(1,.tmp 41),(2,.tmp 46)],_,_,_,none⟩) (v:=?_) rfl (by kernel_rfl) (by kernel_rfl) (by kernel_rfl) (fun _ _ _ h=>h) (Or.inl ⟨by rfl, ?_⟩) (by assumption) ?_
          rotate_left
          · intro wq hSw
            go_simp
            with_reducible rfl
          simp only [Act.put,List.setIfInBounds_toArray,List.set_cons_zero,List.set_cons_succ]
          refine wpAnyH_ready (rs:=[10]) (by kernel_rfl) (by simp) ?_
          refine AllReadyH.cons (o:=⟨none,.store 28 (.tmp 2) (.tmp 47),_,_,_,none⟩) rfl (fun K hK=>?_) ?_
          · go_simp
            refine hK.out _ _ (by go_keep) (fun hHeld=>?_)
            clear hK K
            refine wpAnyH_done (by kernel_rfl) ?_ _
            have zu:w.heap.size + 1 < V.heap.size:=by have:=hvb.size;omega
            obtain ⟨⟨y_0,y_1,y_2,y_3,y_4,y_5,y_6,y_7⟩,SPF,BF⟩:=node_final (op:=op) (lo:=lo) (hi:=hi) (kind:=kind) (attr:=attr) (V:=V) (mb:=mb) (uh BX) (uh BW3) sXX (uh HG3) (uh HN3) s3 hne3 hg1n hgX sv2 zu hlen o0 o1 o2 o3 o4 o5 o6 o7 (uh HO3) (uh HI1) (uh HW1) (uh HSP) (uh HUS) r1 z1 r2 z2
            clear n0 n1 n2 n3 n4 n5 n6 x7 o0 o1 o2 o3 o4 o5 o6 o7 rf q1 q2 t1 t4
            go_wp2
            obtain ⟨WF,hWF⟩:∃ WF,((((((((w3.setCell ⟨w.heap.size + 1,0,none⟩ (.int .i64 kind)).setCell ⟨w.heap.size + 1,1,none⟩ (.string attr)).setCell ⟨w.heap.size + 1,2,none⟩ (.slice (some ⟨g1,0,none⟩) ints.length k1)).setCell ⟨w.heap.size + 1,3,none⟩ (.slice (some ⟨g2,0,none⟩) words.length k2)).setCell ⟨w.heap.size + 1,4,none⟩ (.int .i64 lo)).setCell ⟨w.heap.size + 1,5,none⟩ (.int .i64 hi)).setCell ⟨w.heap.size + 1,6,none⟩ (.int .i64 op)).setCell ⟨w.heap.size + 1,7,none⟩ (.slice (some ⟨gm,0,none⟩) kids.length (kids.length + 1)))=WF:=⟨_,rfl⟩
            rw [hWF] at SPF BF y_0 y_1 y_2 y_3 y_4 y_5 y_6 y_7
            rw [hWF]
            have SPF2:=hide SPF
            have BF2:=hide BF
            clear SPF BF hWF HO3 HG3 HN3 BW3 HSP HI1 HW1 HOWN HUS HB
            refine bodyPost_ret (v:=.agg #[.int .i64 kind,.string attr,.slice (some ⟨g1,0,none⟩) ints.length k1,.slice (some ⟨g2,0,none⟩) words.length k2,.int .i64 lo,.int .i64 hi,.int .i64 op,.slice (some ⟨gm,0,none⟩) kids.length (kids.length + 1)]) (by simp [results,Try.results5,go_sem,y_0,y_1,y_2,y_3,y_4,y_5,y_6,y_7]) rfl ⟨⟨⟨kind,attr,some ⟨g1,0,none⟩,ints.length,k1,some ⟨g2,0,none⟩,words.length,k2,lo,hi,op,some ⟨gm,0,none⟩,kids.length,kids.length + 1⟩,rfl,(uh SPF2).keep (Below.refl _ _).drew⟩,(uh BF2).drew⟩

          exact AllReadyH.nil

        exact AllReadyH.nil
  · have zr:=R2.size
    have zs:=hb1.size
    have ug1:g1 < w1.heap.size:=by obtain ⟨b,off,hq,hB,_⟩:=s1.1 (by simp [spI]);cases hq;exact hB
    have ug2:g2 < w1.heap.size:=by obtain ⟨b,off,hq,hB,_⟩:=t1.1 (by simp [spS]);cases hq;exact hB
    have zY:Y.heap.size=X.heap.size + 0:=by rw [hY,drew_heap];rfl
    have hvo:OwnK encV 28 8 X.heap.size ((w1.alloc (.cells #[.int .i64 kind,.string attr,.slice (some ⟨g1,0,none⟩) ints.length k1,.slice (some ⟨g2,0,none⟩) words.length k2,.int .i64 lo,.int .i64 hi,.int .i64 op,.slice (some ⟨w1.heap.size + 1,0,none⟩) 0 (kids.length + 1)] 28)).alloc (.cells cur 28)) (some ⟨w1.heap.size + 1,0,none⟩) (kids.length + 1) []:=(by have:=ownV (B:=X.heap.size) (w:=w1.alloc (.cells #[.int .i64 kind,.string attr,.slice (some ⟨g1,0,none⟩) ints.length k1,.slice (some ⟨g2,0,none⟩) words.length k2,.int .i64 lo,.int .i64 hi,.int .i64 op,.slice (some ⟨w1.heap.size + 1,0,none⟩) 0 (kids.length + 1)] 28)) (by simp;omega) (by unfold maxLen;omega) hcs;rwa [size_al] at this)
    have hvb:Below X.heap.size X ((w1.alloc (.cells #[.int .i64 kind,.string attr,.slice (some ⟨g1,0,none⟩) ints.length k1,.slice (some ⟨g2,0,none⟩) words.length k2,.int .i64 lo,.int .i64 hi,.int .i64 op,.slice (some ⟨w1.heap.size + 1,0,none⟩) 0 (kids.length + 1)] 28)).alloc (.cells cur 28)):=bal _ _ (bal _ _ R2)
    have hvi:LsB encI 3 1 ((w1.alloc (.cells #[.int .i64 kind,.string attr,.slice (some ⟨g1,0,none⟩) ints.length k1,.slice (some ⟨g2,0,none⟩) words.length k2,.int .i64 lo,.int .i64 hi,.int .i64 op,.slice (some ⟨w1.heap.size + 1,0,none⟩) 0 (kids.length + 1)] 28)).alloc (.cells cur 28)) g1 k1 (ints ++ spI):=(s1.below (((Below.refl _ _).alloc (Nat.le_refl _) _).alloc (by simp) _))
    have hvw:LsB encS 9 1 ((w1.alloc (.cells #[.int .i64 kind,.string attr,.slice (some ⟨g1,0,none⟩) ints.length k1,.slice (some ⟨g2,0,none⟩) words.length k2,.int .i64 lo,.int .i64 hi,.int .i64 op,.slice (some ⟨w1.heap.size + 1,0,none⟩) 0 (kids.length + 1)] 28)).alloc (.cells cur 28)) g2 k2 (words ++ spS):=(t1.below (((Below.refl _ _).alloc (Nat.le_refl _) _).alloc (by simp) _))
    have hm:((w1.alloc (.cells #[.int .i64 kind,.string attr,.slice (some ⟨g1,0,none⟩) ints.length k1,.slice (some ⟨g2,0,none⟩) words.length k2,.int .i64 lo,.int .i64 hi,.int .i64 op,.slice (some ⟨w1.heap.size + 1,0,none⟩) 0 (kids.length + 1)] 28)).alloc (.cells cur 28)).heap[w1.heap.size]? = some (.cells #[.int .i64 kind,.string attr,.slice (some ⟨g1,0,none⟩) ints.length k1,.slice (some ⟨g2,0,none⟩) words.length k2,.int .i64 lo,.int .i64 hi,.int .i64 op,.slice (some ⟨w1.heap.size + 1,0,none⟩) 0 (kids.length + 1)] 28):=(heap_old (by simp)).trans (box_nw w1 (.cells #[.int .i64 kind,.string attr,.slice (some ⟨g1,0,none⟩) ints.length k1,.slice (some ⟨g2,0,none⟩) words.length k2,.int .i64 lo,.int .i64 hi,.int .i64 op,.slice (some ⟨w1.heap.size + 1,0,none⟩) 0 (kids.length + 1)] 28))
    obtain ⟨v0,v1,v2,v3,v4,v5,v6,v7⟩:=of8' hm
    have vf:∀ o,((w1.alloc (.cells #[.int .i64 kind,.string attr,.slice (some ⟨g1,0,none⟩) ints.length k1,.slice (some ⟨g2,0,none⟩) words.length k2,.int .i64 lo,.int .i64 hi,.int .i64 op,.slice (some ⟨w1.heap.size + 1,0,none⟩) 0 (kids.length + 1)] 28)).alloc (.cells cur 28)).frozen? ⟨w1.heap.size,o,none⟩=false:=fun o=>frozen_free hm
    have sv:w1.heap.size < ((w1.alloc (.cells #[.int .i64 kind,.string attr,.slice (some ⟨g1,0,none⟩) ints.length k1,.slice (some ⟨g2,0,none⟩) words.length k2,.int .i64 lo,.int .i64 hi,.int .i64 op,.slice (some ⟨w1.heap.size + 1,0,none⟩) 0 (kids.length + 1)] 28)).alloc (.cells cur 28)).heap.size∧w1.heap.size + 1 < ((w1.alloc (.cells #[.int .i64 kind,.string attr,.slice (some ⟨g1,0,none⟩) ints.length k1,.slice (some ⟨g2,0,none⟩) words.length k2,.int .i64 lo,.int .i64 hi,.int .i64 op,.slice (some ⟨w1.heap.size + 1,0,none⟩) 0 (kids.length + 1)] 28)).alloc (.cells cur 28)).heap.size∧w1.heap.size≤((w1.alloc (.cells #[.int .i64 kind,.string attr,.slice (some ⟨g1,0,none⟩) ints.length k1,.slice (some ⟨g2,0,none⟩) words.length k2,.int .i64 lo,.int .i64 hi,.int .i64 op,.slice (some ⟨w1.heap.size + 1,0,none⟩) 0 (kids.length + 1)] 28)).alloc (.cells cur 28)).heap.size:=by refine ⟨?_, ?_, ?_⟩ <;> simp <;> omega
    obtain ⟨V,hV⟩:∃ V,((w1.alloc (.cells #[.int .i64 kind,.string attr,.slice (some ⟨g1,0,none⟩) ints.length k1,.slice (some ⟨g2,0,none⟩) words.length k2,.int .i64 lo,.int .i64 hi,.int .i64 op,.slice (some ⟨w1.heap.size + 1,0,none⟩) 0 (kids.length + 1)] 28)).alloc (.cells cur 28))=V:=⟨_,rfl⟩
    obtain ⟨mb,hmb⟩:∃ mb,w1.heap.size=mb:=⟨_,rfl⟩
    obtain ⟨gm,hgm⟩:∃ gm,w1.heap.size + 1=gm:=⟨_,rfl⟩
    have hne1:mb ≠ gm:=by omega
    have hne2:X.heap.size≤mb:=by omega
    have hne3:X.heap.size≤gm:=by omega
    obtain ⟨sv1,sv2,_⟩:=sv
    have hg1n:g1 ≠ mb∧g1 ≠ gm∧g2 ≠ mb∧g2 ≠ gm:=(by refine ⟨?_, ?_, ?_, ?_⟩ <;> omega)
    have hgX:X.heap.size≤g1∧X.heap.size≤g2:=by omega
    rw [hV] at hvo hvb hvi hvw v0 v1 v2 v3 v4 v5 v6 v7 vf sv1 sv2
    rw [hV]
    rw [hgm] at hvo v7 sv2
    rw [hgm]
    rw [hmb] at v0 v1 v2 v3 v4 v5 v6 v7 vf sv1
    rw [hmb]
    have HX8:=hide (uh X8)
    clear hV hmb hgm s1 t1 hb1 R2 bY hY zr zs zY KS c0 c1 c2 c3 c4 c5 c6 c7 dX hmk3
    go_loopw [21] (fun i wr=>∃ (k:Nat) (us:List Nv),k≤kids.length∧i=.int .i64 k∧us.length=k∧Below X.heap.size X wr∧V.heap.size≤wr.heap.size∧(wr.cell? ⟨mb,0,none⟩=some (.int .i64 kind)∧wr.cell? ⟨mb,1,none⟩=some (.string attr)∧wr.cell? ⟨mb,2,none⟩=some (.slice (some ⟨g1,0,none⟩) ints.length k1)∧wr.cell? ⟨mb,3,none⟩=some (.slice (some ⟨g2,0,none⟩) words.length k2)∧wr.cell? ⟨mb,4,none⟩=some (.int .i64 lo)∧wr.cell? ⟨mb,5,none⟩=some (.int .i64 hi)∧wr.cell? ⟨mb,6,none⟩=some (.int .i64 op)∧wr.cell? ⟨mb,7,none⟩=some (.slice (some ⟨gm,0,none⟩) k (kids.length + 1)))∧(∀ o,wr.frozen? ⟨mb,o,none⟩=false)∧OwnK encV 28 8 X.heap.size wr (some ⟨gm,0,none⟩) (kids.length + 1) us∧LsB encI 3 1 wr g1 k1 (ints ++ spI)∧LsB encS 9 1 wr g2 k2 (words ++ spS)∧∀ (j:Nat) (v:Nv) (x:Nd),us[j]? = some v→kids[j]? = some x→SpIn wr V.heap.size v x) (fun i _=>kids.length - (intOf i).toNat)
    case atStart=>exact ⟨0,[],by omega,rfl,rfl,hvb,Nat.le_refl _,⟨v0,v1,v2,v3,v4,v5,v6,v7⟩,vf,OwnK.mono hvo (by omega),hvi,hvw,fun j v x h=>by simp at h⟩
    case round =>
      obtain ⟨k,us,hkk,rfl,hus,hbel,hVs,⟨c0,c1,c2,c3,c4,c5,c6,c7⟩,hcf,hown,hi1,hw1,hsp⟩:=hrel
      clear v0 v1 v2 v3 v4 v5 v6 v7 vf hvo hvi hvw
      by_cases hlt:k < kids.length
      · obtain ⟨x,hx,hd⟩:=get_at hlt
        clear hd
        obtain ⟨b,off,v,hq,hin,e0,e1,e2,e3,e4,e5,e6,e7⟩:=(uh HKX).on hx hbel
        subst hq
        have hxm:x ∈ kids:=List.mem_of_getElem? hx
        have ki0:(0:Int)≤(k:Int):=by omega
        have ki1:(k:Int) < (kids.length:Int):=by omega
        have HOWN:=hide hown
        have HI1:=hide hi1
        have HW1:=hide hw1
        have HSP:=hide hsp
        have HIN:=hide hin
        have HXX:=hide hx
        have HUS:=hide hus
        have HB:=hide hbel
        have hTT:=uh IH x hxm v
        have hwx:=Nat.le_trans (wtL_mem hxm) l3
        clear hown hi1 hw1 hsp hin hx hus hxm hbel
        go_wp2
        obtain ⟨Z,hZ⟩:∃ Z,wr.alloc (.cells #[.int .i64 v.kind,.string v.attr,.slice v.qi v.ni v.ci,.slice v.qw v.nw v.cw,.int .i64 v.lo,.int .i64 v.hi,.int .i64 v.op,.slice v.qk v.nk v.ck] 28)=Z:=⟨_,rfl⟩
        rw [hZ]
        have zk:Z.heap[wr.heap.size]? = some (.cells #[.int .i64 v.kind,.string v.attr,.slice v.qi v.ni v.ci,.slice v.qw v.nw v.cw,.int .i64 v.lo,.int .i64 v.hi,.int .i64 v.op,.slice v.qk v.nk v.ck] 28 (0,0)):=by rw [← hZ];exact box_nw _ _
        have bZ:Below wr.heap.size wr Z:=by rw [← hZ];exact (Below.refl _ _).alloc (Nat.le_refl _) _
        have sZ:Z.heap.size=wr.heap.size + 1:=by rw [← hZ];simp
        have hmr:mb < wr.heap.size:=by omega
        have hgr:gm < wr.heap.size:=by omega
        have q7:Z.cell? ⟨mb,7,none⟩=some (.slice (some ⟨gm,0,none⟩) k (kids.length + 1)):=(bZ.cell (p:=⟨mb,7,none⟩) (by exact hmr)).trans c7
        have qf:∀ o,Z.frozen? ⟨mb,o,none⟩=false:=fun o=>(bZ.frozen (by exact hmr)).trans (hcf o)
        have KS2:∀ W:World,(∀ o,W.cell? ⟨wr.heap.size,o,none⟩=Z.cell? ⟨wr.heap.size,o,none⟩)→(fun w'=>w'.cell? ⟨wr.heap.size,0,none⟩=some (.int .i64 v.kind)∧w'.cell? ⟨wr.heap.size,1,none⟩=some (.string v.attr)∧w'.cell? ⟨wr.heap.size,2,none⟩=some (.slice v.qi v.ni v.ci)∧w'.cell? ⟨wr.heap.size,3,none⟩=some (.slice v.qw v.nw v.cw)∧w'.cell? ⟨wr.heap.size,4,none⟩=some (.int .i64 v.lo)∧w'.cell? ⟨wr.heap.size,5,none⟩=some (.int .i64 v.hi)∧w'.cell? ⟨wr.heap.size,6,none⟩=some (.int .i64 v.op)∧w'.cell? ⟨wr.heap.size,7,none⟩=some (.slice v.qk v.nk v.ck)) W:=fun W hb=>by
          obtain ⟨a0,a1,a2,a3,a4,a5,a6,a7⟩:=of8' zk
          exact ⟨(hb 0).trans a0,(hb 1).trans a1,(hb 2).trans a2,(hb 3).trans a3,(hb 4).trans a4,(hb 5).trans a5,(hb 6).trans a6,(hb 7).trans a7⟩
        have E0:∀ o,Z.drew.cell? ⟨wr.heap.size,o,none⟩=Z.cell? ⟨wr.heap.size,o,none⟩:=fun o=>rfl
        obtain ⟨f0,f1,f2,f3,f4,f5,f6,f7⟩:=KS2 Z (fun o=>rfl)
        have hNd:=hTT Z.drew ((uh HIN).keep bZ.drew) hwx
        simp only [Nv.val] at hNd
        have ZK:=hide zk
        have HO2:=hide ((uh HOWN).below bZ)
        have hnn:¬ wr.heap.size=mb:=by omega
        clear e0 e1 e2 e3 e4 e5 e6 e7 zk hTT hwx
        refine wp_region_held_drew (S:=fun w'=>w'.cell? ⟨wr.heap.size,0,none⟩=some (.int .i64 v.kind)∧w'.cell? ⟨wr.heap.size,1,none⟩=some (.string v.attr)∧w'.cell? ⟨wr.heap.size,2,none⟩=some (.slice v.qi v.ni v.ci)∧w'.cell? ⟨wr.heap.size,3,none⟩=some (.slice v.qw v.nw v.cw)∧w'.cell? ⟨wr.heap.size,4,none⟩=some (.int .i64 v.lo)∧w'.cell? ⟨wr.heap.size,5,none⟩=some (.int .i64 v.hi)∧w'.cell? ⟨wr.heap.size,6,none⟩=some (.int .i64 v.op)∧w'.cell? ⟨wr.heap.size,7,none⟩=some (.slice v.qk v.nk v.ck)) (by kernel_rfl) (KS2 _ E0) (fun hHeld=>?_)
        refine wpAnyH_take (i:=0) (oi:=⟨some 25,.fieldAddr 28 (.tmp 3) 2,_,_,_,none⟩) (v:=?_) rfl (by kernel_rfl) (by kernel_rfl) (by kernel_rfl) (fun _ _ _ h=>h) (Or.inl ⟨by rfl, ?_⟩) (by assumption) ?_
        rotate_left
        · intro w hSw
          go_simp
          with_reducible rfl
        simp only [Act.put,List.setIfInBounds_toArray,List.set_cons_zero,List.set_cons_succ]
        refine wpAnyH_take (i:=2) (oi:=⟨some 27,.load 28 (.tmp 5),_,_,_,none⟩) (v:=?_) rfl (by kernel_rfl) (by kernel_rfl) (by kernel_rfl) (fun _ _ _ h=>h) (Or.inl ⟨by rfl, ?_⟩) (by assumption) ?_
        rotate_left
        · intro w hSw
          go_simp
          with_reducible rfl
        simp only [Act.put,List.setIfInBounds_toArray,List.set_cons_zero,List.set_cons_succ]
        refine wpAnyH_ready (rs:=[1,3]) (by kernel_rfl) (by simp) ?_
        refine AllReadyH.cons (o:=⟨some 26,.load 26 (.tmp 25),_,_,_,none⟩) rfl (fun K hK=>?_) ?_
        · go_simp
          refine hK.out _ _ (KS2 _ E0) (fun hHeld=>?_)
          clear hK K
          skip
          refine wpAnyH_ready (rs:=[3]) (by kernel_rfl) (by simp) ?_
          refine AllReadyH.cons (o:=⟨some 28,.call { callee:=.value (.func 5),args:=#[.tmp 27],argTypes:=#[28] },_,_,_,none⟩) rfl (fun K hK=>?_) ?_
          · go_simp
            refine hNd.mono ?_
            rintro e w2 ⟨⟨u,rfl,hu⟩,hb2⟩
            simp only
            have R3:Below Z.heap.size Z w2:=below_undrewM hb2
            have s2:=R3.size
            have E2:∀ o,w2.cell? ⟨wr.heap.size,o,none⟩=Z.cell? ⟨wr.heap.size,o,none⟩:=fun o=>R3.cell (p:=⟨wr.heap.size,o,none⟩) (by simp only;omega)
            have m7:w2.cell? ⟨mb,7,none⟩=some (.slice (some ⟨gm,0,none⟩) k (kids.length + 1)):=(R3.cell (p:=⟨mb,7,none⟩) (by simp only;omega)).trans q7
            have mf:∀ o,w2.frozen? ⟨mb,o,none⟩=false:=fun o=>(R3.frozen (by simp only;omega)).trans (qf o)
            have lm2:mb < w2.heap.size:=by omega
            have nm2:¬ mb=w2.heap.size:=by omega
            have E2a:∀ o,(w2.alloc (.cells #[.int .i64 u.kind,.string u.attr,.slice u.qi u.ni u.ci,.slice u.qw u.nw u.cw,.int .i64 u.lo,.int .i64 u.hi,.int .i64 u.op,.slice u.qk u.nk u.ck] 28)).cell? ⟨wr.heap.size,o,none⟩=Z.cell? ⟨wr.heap.size,o,none⟩:=fun o=>(((Below.refl w2.heap.size w2).alloc (Nat.le_refl _) _).cell (p:=⟨wr.heap.size,o,none⟩) (by simp only;omega)).trans (E2 o)
            have HU:=hide hu
            clear hu hb2
            refine hK.out _ _ (KS2 _ E2) (fun hHeld=>?_)
            clear hK K
            skip
            refine wpAnyH_ready (rs:=[4]) (by kernel_rfl) (by simp) ?_
            refine AllReadyH.cons (o:=⟨some 29,.buildSlice 26 1 #[(0,.tmp 28)],_,_,_,none⟩) rfl (fun K hK=>?_) ?_
            · go_simp
              refine hK.out _ _ (KS2 _ E2a) (fun hHeld=>?_)
              clear hK K
              skip
              refine wpAnyH_ready (rs:=[5]) (by kernel_rfl) (by simp) ?_
              refine AllReadyH.cons (o:=⟨some 30,.call { callee:=.builtin .append,args:=#[.tmp 26,.tmp 29],argTypes:=#[26,26] },_,_,_,none⟩) rfl (fun K hK=>?_) ?_
              · refine step_fit rowV (by rfl) (.tmp 26) (.tmp 29) (by rfl) X.heap.size gm (kids.length + 1) us ⟨w2.heap.size,0,none⟩ 1 [u] k 1 (k + 1) (uh HUS) rfl rfl (by rfl) (by rfl) (((uh HO2).below R3).below ((Below.refl _ _).alloc (Nat.le_refl _) _)) (node_src (box_nw _ _)) (by omega) ?_
                intro w3 hown3 hg3
                have s3:=hg3.size
                simp only [size_al] at s3
                have E3:∀ o,w3.cell? ⟨wr.heap.size,o,none⟩=Z.cell? ⟨wr.heap.size,o,none⟩:=fun o=>(World.cell?_of_block (w:=w2.alloc (.cells #[.int .i64 u.kind,.string u.attr,.slice u.qi u.ni u.ci,.slice u.qw u.nw u.cw,.int .i64 u.lo,.int .i64 u.hi,.int .i64 u.op,.slice u.qk u.nk u.ck] 28)) (a:=⟨wr.heap.size,o,none⟩) (hg3.block wr.heap.size (by simp only [size_al];omega) (fun e=>by cases e;omega))).trans (E2a o)
                have n7:w3.cell? ⟨mb,7,none⟩=some (.slice (some ⟨gm,0,none⟩) k (kids.length + 1)):=(World.cell?_of_block (w:=w2.alloc (.cells #[.int .i64 u.kind,.string u.attr,.slice u.qi u.ni u.ci,.slice u.qw u.nw u.cw,.int .i64 u.lo,.int .i64 u.hi,.int .i64 u.op,.slice u.qk u.nk u.ck] 28)) (a:=⟨mb,7,none⟩) (hg3.block mb (by simp only [size_al];omega) (fun e=>by cases e;omega))).trans ((((Below.refl w2.heap.size w2).alloc (Nat.le_refl _) _).cell (p:=⟨mb,7,none⟩) (by exact lm2)).trans m7)
                have nf:∀ o,w3.frozen? ⟨mb,o,none⟩=false:=fun o=>frz hg3 (by simp only [size_al];omega) (by omega) ((((Below.refl w2.heap.size w2).alloc (Nat.le_refl _) _).frozen (by exact lm2)).trans (mf o))
                have HO3:=hide hown3
                have HG3:=hide hg3
                clear hown3 hg3
                refine hK.out _ _ (KS2 _ E3) (fun hHeld=>?_)
                clear hK K
                simp only [Act.put,List.setIfInBounds_toArray,List.set_cons_zero,List.set_cons_succ]
                refine wpAnyH_take (i:=6) (oi:=⟨some 31,.fieldAddr 28 (.tmp 3) 2,_,_,_,none⟩) (v:=?_) rfl (by kernel_rfl) (by kernel_rfl) (by kernel_rfl) (fun _ _ _ h=>h) (Or.inl ⟨by rfl, ?_⟩) (by assumption) ?_
                rotate_left
                · intro w hSw
                  go_simp
                  with_reducible rfl
                simp only [Act.put,List.setIfInBounds_toArray,List.set_cons_zero,List.set_cons_succ]
                refine wpAnyH_ready (rs:=[7]) (by kernel_rfl) (by simp) ?_
                refine AllReadyH.cons (o:=⟨none,.store 26 (.tmp 31) (.tmp 30),_,_,_,none⟩) rfl (fun K hK=>?_) ?_
                · go_simp
                  refine hK.out _ _ (KS2 _ (fun o=>(set_other _ (by omega) o 7 _).trans (E3 o))) (fun hHeld=>?_)
                  clear hK K
                  skip
                  refine wpAnyH_done (by kernel_rfl) ?_ _
                  have P4:=hide (node_round (V:=V) (uh HB) bZ R3 (uh HG3) hne1 hne2 hne3 hg1n sv1 sv2 hVs sZ c0 c1 c2 c3 c4 c5 c6 n7 nf (uh HO3) (uh HI1) (uh HW1) (uh HSP) (uh HU) (uh HUS) (uh HXX))
                  have hl4:(us ++ [u]).length=k + 1:=by rw [List.length_append,uh HUS];rfl
                  go_wp2
                  go_roundw
                  case rel=>exact ⟨k + 1,us ++ [u],by omega,by go_num,hl4,uh P4⟩
                  case measure=>simp [intOf];omega
                exact AllReadyH.nil
              exact AllReadyH.nil
            exact AllReadyH.nil
          exact AllReadyH.nil
        refine AllReadyH.cons (o:=⟨some 28,.call { callee:=.value (.func 5),args:=#[.tmp 27],argTypes:=#[28] },_,_,_,none⟩) rfl (fun K hK=>?_) ?_
        · go_simp
          refine hNd.mono ?_
          rintro e w2 ⟨⟨u,rfl,hu⟩,hb2⟩
          simp only
          have R3:Below Z.heap.size Z w2:=below_undrewM hb2
          have s2:=R3.size
          have E2:∀ o,w2.cell? ⟨wr.heap.size,o,none⟩=Z.cell? ⟨wr.heap.size,o,none⟩:=fun o=>R3.cell (p:=⟨wr.heap.size,o,none⟩) (by simp only;omega)
          have m7:w2.cell? ⟨mb,7,none⟩=some (.slice (some ⟨gm,0,none⟩) k (kids.length + 1)):=(R3.cell (p:=⟨mb,7,none⟩) (by simp only;omega)).trans q7
          have mf:∀ o,w2.frozen? ⟨mb,o,none⟩=false:=fun o=>(R3.frozen (by simp only;omega)).trans (qf o)
          have lm2:mb < w2.heap.size:=by omega
          have nm2:¬ mb=w2.heap.size:=by omega
          have E2a:∀ o,(w2.alloc (.cells #[.int .i64 u.kind,.string u.attr,.slice u.qi u.ni u.ci,.slice u.qw u.nw u.cw,.int .i64 u.lo,.int .i64 u.hi,.int .i64 u.op,.slice u.qk u.nk u.ck] 28)).cell? ⟨wr.heap.size,o,none⟩=Z.cell? ⟨wr.heap.size,o,none⟩:=fun o=>(((Below.refl w2.heap.size w2).alloc (Nat.le_refl _) _).cell (p:=⟨wr.heap.size,o,none⟩) (by simp only;omega)).trans (E2 o)
          have HU:=hide hu
          clear hu hb2
          refine hK.out _ _ (KS2 _ E2) (fun hHeld=>?_)
          clear hK K
          skip
          refine wpAnyH_ready (rs:=[1,4]) (by kernel_rfl) (by simp) ?_
          refine AllReadyH.cons (o:=⟨some 26,.load 26 (.tmp 25),_,_,_,none⟩) rfl (fun K hK=>?_) ?_
          · go_simp
            refine hK.out _ _ (KS2 _ E2) (fun hHeld=>?_)
            clear hK K
            skip
            refine wpAnyH_ready (rs:=[4]) (by kernel_rfl) (by simp) ?_
            refine AllReadyH.cons (o:=⟨some 29,.buildSlice 26 1 #[(0,.tmp 28)],_,_,_,none⟩) rfl (fun K hK=>?_) ?_
            · go_simp
              refine hK.out _ _ (KS2 _ E2a) (fun hHeld=>?_)
              clear hK K
              skip
              refine wpAnyH_ready (rs:=[5]) (by kernel_rfl) (by simp) ?_
              refine AllReadyH.cons (o:=⟨some 30,.call { callee:=.builtin .append,args:=#[.tmp 26,.tmp 29],argTypes:=#[26,26] },_,_,_,none⟩) rfl (fun K hK=>?_) ?_
              · refine step_fit rowV (by rfl) (.tmp 26) (.tmp 29) (by rfl) X.heap.size gm (kids.length + 1) us ⟨w2.heap.size,0,none⟩ 1 [u] k 1 (k + 1) (uh HUS) rfl rfl (by rfl) (by rfl) (((uh HO2).below R3).below ((Below.refl _ _).alloc (Nat.le_refl _) _)) (node_src (box_nw _ _)) (by omega) ?_
                intro w3 hown3 hg3
                have s3:=hg3.size
                simp only [size_al] at s3
                have E3:∀ o,w3.cell? ⟨wr.heap.size,o,none⟩=Z.cell? ⟨wr.heap.size,o,none⟩:=fun o=>(World.cell?_of_block (w:=w2.alloc (.cells #[.int .i64 u.kind,.string u.attr,.slice u.qi u.ni u.ci,.slice u.qw u.nw u.cw,.int .i64 u.lo,.int .i64 u.hi,.int .i64 u.op,.slice u.qk u.nk u.ck] 28)) (a:=⟨wr.heap.size,o,none⟩) (hg3.block wr.heap.size (by simp only [size_al];omega) (fun e=>by cases e;omega))).trans (E2a o)
                have n7:w3.cell? ⟨mb,7,none⟩=some (.slice (some ⟨gm,0,none⟩) k (kids.length + 1)):=(World.cell?_of_block (w:=w2.alloc (.cells #[.int .i64 u.kind,.string u.attr,.slice u.qi u.ni u.ci,.slice u.qw u.nw u.cw,.int .i64 u.lo,.int .i64 u.hi,.int .i64 u.op,.slice u.qk u.nk u.ck] 28)) (a:=⟨mb,7,none⟩) (hg3.block mb (by simp only [size_al];omega) (fun e=>by cases e;omega))).trans ((((Below.refl w2.heap.size w2).alloc (Nat.le_refl _) _).cell (p:=⟨mb,7,none⟩) (by exact lm2)).trans m7)
                have nf:∀ o,w3.frozen? ⟨mb,o,none⟩=false:=fun o=>frz hg3 (by simp only [size_al];omega) (by omega) ((((Below.refl w2.heap.size w2).alloc (Nat.le_refl _) _).frozen (by exact lm2)).trans (mf o))
                have HO3:=hide hown3
                have HG3:=hide hg3
                clear hown3 hg3
                refine hK.out _ _ (KS2 _ E3) (fun hHeld=>?_)
                clear hK K
                simp only [Act.put,List.setIfInBounds_toArray,List.set_cons_zero,List.set_cons_succ]
                refine wpAnyH_take (i:=6) (oi:=⟨some 31,.fieldAddr 28 (.tmp 3) 2,_,_,_,none⟩) (v:=?_) rfl (by kernel_rfl) (by kernel_rfl) (by kernel_rfl) (fun _ _ _ h=>h) (Or.inl ⟨by rfl, ?_⟩) (by assumption) ?_
                rotate_left
                · intro w hSw
                  go_simp
                  with_reducible rfl
                simp only [Act.put,List.setIfInBounds_toArray,List.set_cons_zero,List.set_cons_succ]
                refine wpAnyH_ready (rs:=[7]) (by kernel_rfl) (by simp) ?_
                refine AllReadyH.cons (o:=⟨none,.store 26 (.tmp 31) (.tmp 30),_,_,_,none⟩) rfl (fun K hK=>?_) ?_
                · go_simp
                  refine hK.out _ _ (KS2 _ (fun o=>(set_other _ (by omega) o 7 _).trans (E3 o))) (fun hHeld=>?_)
                  clear hK K
                  skip
                  refine wpAnyH_done (by kernel_rfl) ?_ _
                  have P4:=hide (node_round (V:=V) (uh HB) bZ R3 (uh HG3) hne1 hne2 hne3 hg1n sv1 sv2 hVs sZ c0 c1 c2 c3 c4 c5 c6 n7 nf (uh HO3) (uh HI1) (uh HW1) (uh HSP) (uh HU) (uh HUS) (uh HXX))
                  have hl4:(us ++ [u]).length=k + 1:=by rw [List.length_append,uh HUS];rfl
                  go_wp2
                  go_roundw
                  case rel=>exact ⟨k + 1,us ++ [u],by omega,by go_num,hl4,uh P4⟩
                  case measure=>simp [intOf];omega
                exact AllReadyH.nil
              exact AllReadyH.nil
            exact AllReadyH.nil
          refine AllReadyH.cons (o:=⟨some 29,.buildSlice 26 1 #[(0,.tmp 28)],_,_,_,none⟩) rfl (fun K hK=>?_) ?_
          · go_simp
            refine hK.out _ _ (KS2 _ E2a) (fun hHeld=>?_)
            clear hK K
            skip
            refine wpAnyH_ready (rs:=[1]) (by kernel_rfl) (by simp) ?_
            refine AllReadyH.cons (o:=⟨some 26,.load 26 (.tmp 25),_,_,_,none⟩) rfl (fun K hK=>?_) ?_
            · go_simp
              refine hK.out _ _ (KS2 _ E2a) (fun hHeld=>?_)
              clear hK K
              skip
              refine wpAnyH_ready (rs:=[5]) (by kernel_rfl) (by simp) ?_
              refine AllReadyH.cons (o:=⟨some 30,.call { callee:=.builtin .append,args:=#[.tmp 26,.tmp 29],argTypes:=#[26,26] },_,_,_,none⟩) rfl (fun K hK=>?_) ?_
              · refine step_fit rowV (by rfl) (.tmp 26) (.tmp 29) (by rfl) X.heap.size gm (kids.length + 1) us ⟨w2.heap.size,0,none⟩ 1 [u] k 1 (k + 1) (uh HUS) rfl rfl (by rfl) (by rfl) (((uh HO2).below R3).below ((Below.refl _ _).alloc (Nat.le_refl _) _)) (node_src (box_nw _ _)) (by omega) ?_
                intro w3 hown3 hg3
                have s3:=hg3.size
                simp only [size_al] at s3
                have E3:∀ o,w3.cell? ⟨wr.heap.size,o,none⟩=Z.cell? ⟨wr.heap.size,o,none⟩:=fun o=>(World.cell?_of_block (w:=w2.alloc (.cells #[.int .i64 u.kind,.string u.attr,.slice u.qi u.ni u.ci,.slice u.qw u.nw u.cw,.int .i64 u.lo,.int .i64 u.hi,.int .i64 u.op,.slice u.qk u.nk u.ck] 28)) (a:=⟨wr.heap.size,o,none⟩) (hg3.block wr.heap.size (by simp only [size_al];omega) (fun e=>by cases e;omega))).trans (E2a o)
                have n7:w3.cell? ⟨mb,7,none⟩=some (.slice (some ⟨gm,0,none⟩) k (kids.length + 1)):=(World.cell?_of_block (w:=w2.alloc (.cells #[.int .i64 u.kind,.string u.attr,.slice u.qi u.ni u.ci,.slice u.qw u.nw u.cw,.int .i64 u.lo,.int .i64 u.hi,.int .i64 u.op,.slice u.qk u.nk u.ck] 28)) (a:=⟨mb,7,none⟩) (hg3.block mb (by simp only [size_al];omega) (fun e=>by cases e;omega))).trans ((((Below.refl w2.heap.size w2).alloc (Nat.le_refl _) _).cell (p:=⟨mb,7,none⟩) (by exact lm2)).trans m7)
                have nf:∀ o,w3.frozen? ⟨mb,o,none⟩=false:=fun o=>frz hg3 (by simp only [size_al];omega) (by omega) ((((Below.refl w2.heap.size w2).alloc (Nat.le_refl _) _).frozen (by exact lm2)).trans (mf o))
                have HO3:=hide hown3
                have HG3:=hide hg3
                clear hown3 hg3
                refine hK.out _ _ (KS2 _ E3) (fun hHeld=>?_)
                clear hK K
                simp only [Act.put,List.setIfInBounds_toArray,List.set_cons_zero,List.set_cons_succ]
                refine wpAnyH_take (i:=6) (oi:=⟨some 31,.fieldAddr 28 (.tmp 3) 2,_,_,_,none⟩) (v:=?_) rfl (by kernel_rfl) (by kernel_rfl) (by kernel_rfl) (fun _ _ _ h=>h) (Or.inl ⟨by rfl, ?_⟩) (by assumption) ?_
                rotate_left
                · intro w hSw
                  go_simp
                  with_reducible rfl
                simp only [Act.put,List.setIfInBounds_toArray,List.set_cons_zero,List.set_cons_succ]
                refine wpAnyH_ready (rs:=[7]) (by kernel_rfl) (by simp) ?_
                refine AllReadyH.cons (o:=⟨none,.store 26 (.tmp 31) (.tmp 30),_,_,_,none⟩) rfl (fun K hK=>?_) ?_
                · go_simp
                  refine hK.out _ _ (KS2 _ (fun o=>(set_other _ (by omega) o 7 _).trans (E3 o))) (fun hHeld=>?_)
                  clear hK K
                  skip
                  refine wpAnyH_done (by kernel_rfl) ?_ _
                  have P4:=hide (node_round (V:=V) (uh HB) bZ R3 (uh HG3) hne1 hne2 hne3 hg1n sv1 sv2 hVs sZ c0 c1 c2 c3 c4 c5 c6 n7 nf (uh HO3) (uh HI1) (uh HW1) (uh HSP) (uh HU) (uh HUS) (uh HXX))
                  have hl4:(us ++ [u]).length=k + 1:=by rw [List.length_append,uh HUS];rfl
                  go_wp2
                  go_roundw
                  case rel=>exact ⟨k + 1,us ++ [u],by omega,by go_num,hl4,uh P4⟩
                  case measure=>simp [intOf];omega
                exact AllReadyH.nil
              exact AllReadyH.nil
            exact AllReadyH.nil
          exact AllReadyH.nil
        exact AllReadyH.nil
      · have ki1:¬ (k:Int) < (kids.length:Int):=by omega
        obtain rfl:k=kids.length:=by omega
        have HOWN:=hide hown
        have HUS:=hide hus
        have HB:=hide hbel
        have HI1:=hide hi1
        have HW1:=hide hw1
        have HSP:=hide hsp
        have sXX:=uh SX
        have hmr:mb < wr.heap.size:=by omega
        have hgr:gm < wr.heap.size:=by omega
        clear hown hus hbel hi1 hw1 hsp
        go_wp2_with (at_builtin;refine wpList_fit rowV rfl _ _ rfl X.heap.size gm (kids.length + 1) us ⟨wr.heap.size,0,none⟩ 1 [spV] kids.length 1 (kids.length + 1) (uh HUS) rfl rfl rfl rfl ((uh HOWN).below ((Below.refl _ _).alloc (Nat.le_refl _) _)) (node_src (u:=spV) (box_nw _ _)) (Nat.le_refl _) ?_;intro w3 hown3 hg3;have HO3:=hide hown3;have HG3:=hide hg3;clear hown3 hg3)
        have AL:=(Below.refl wr.heap.size wr).alloc (Nat.le_refl _) (.cells #[.int .i64 0,.string ⟨#[]⟩,.slice none 0 0,.slice none 0 0,.int .i64 0,.int .i64 0,.int .i64 77,.slice none 0 0] 28)
        have s3:=(uh HG3).size
        simp only [size_al] at s3
        have N3:∀ g,g ≠ gm→g < wr.heap.size→∀ o,w3.cell? ⟨g,o,none⟩=wr.cell? ⟨g,o,none⟩:=fun g hg hl o=>(World.cell?_of_block (w:=wr.alloc (.cells #[.int .i64 0,.string ⟨#[]⟩,.slice none 0 0,.slice none 0 0,.int .i64 0,.int .i64 0,.int .i64 77,.slice none 0 0] 28)) (a:=⟨g,o,none⟩) ((uh HG3).block g (by simp only [size_al];omega) (fun e=>by cases e;exact hg rfl))).trans (AL.cell (p:=⟨g,o,none⟩) (by exact hl))
        have bw3:Below X.heap.size X w3:=(below_sub (uh HB) AL).grown (uh HG3) (by simp only [size_al];have:=(uh HB).size;omega) (fun k hk=>by cases hk;exact hne3)
        have n0:=(N3 mb hne1 hmr 0).trans c0
        have n1:=(N3 mb hne1 hmr 1).trans c1
        have n2:=(N3 mb hne1 hmr 2).trans c2
        have n3:=(N3 mb hne1 hmr 3).trans c3
        have n4:=(N3 mb hne1 hmr 4).trans c4
        have n5:=(N3 mb hne1 hmr 5).trans c5
        have n6:=(N3 mb hne1 hmr 6).trans c6
        obtain ⟨_,_,_,_,_,_,_,x7⟩:=of8' ((bw3.block _ (heap_lt (uh HX8))).trans (uh HX8))
        have hz3:=(bw3.block _ (heap_lt (uh XZ))).trans (uh XZ)
        obtain ⟨o0,o1,o2,o3,o4,o5,o6,o7⟩:=of8' hz3
        have rf:∀ o,w3.frozen? ⟨w.heap.size + 1,o,none⟩=false:=fun o=>frozen_free hz3
        have q1:¬ mb=w.heap.size + 1:=by omega
        have q2:¬ w.heap.size + 1=mb:=by omega
        have t1:(0:Int)≤(kids.length:Int):=by omega
        have t4:(kids.length:Int)≤(kids.length:Int) + 1:=by omega
        have BW3:=hide bw3
        have HN3:Hid (∀ g,g ≠ gm→g < wr.heap.size→w3.heap[g]? = wr.heap[g]?):=hide (fun g hg hl=>((uh HG3).block g (by simp only [size_al];omega) (fun e=>by cases e;exact hg rfl)).trans (heap_old hl))
        clear bw3 N3 c0 c1 c2 c3 c4 c5 c6 c7 hcf hz3 AL ki1
        refine wp_region_held_drew (S:=fun w'=>w'.cell? ⟨mb,0,none⟩=some (.int .i64 kind)∧w'.cell? ⟨mb,1,none⟩=some (.string attr)∧w'.cell? ⟨mb,2,none⟩=some (.slice (some ⟨g1,0,none⟩) ints.length k1)∧w'.cell? ⟨mb,3,none⟩=some (.slice (some ⟨g2,0,none⟩) words.length k2)∧w'.cell? ⟨mb,4,none⟩=some (.int .i64 lo)∧w'.cell? ⟨mb,5,none⟩=some (.int .i64 hi)∧w'.cell? ⟨mb,6,none⟩=some (.int .i64 op)∧w'.cell? ⟨w.heap.size,7,none⟩=some (.slice qk kids.length ck)) (by kernel_rfl) ⟨n0,n1,n2,n3,n4,n5,n6,x7⟩ (fun hHeld=>?_)
        refine wpAnyH_take (i:=0) (oi:=⟨some 38,.fieldAddr 28 (.tmp 3) 0,_,_,_,none⟩) (v:=?_) rfl (by kernel_rfl) (by kernel_rfl) (by kernel_rfl) (fun _ _ _ h=>h) (Or.inl ⟨by rfl, ?_⟩) (by assumption) ?_
        rotate_left
        · intro wq hSw
          go_simp
          with_reducible rfl
        simp only [Act.put,List.setIfInBounds_toArray,List.set_cons_zero,List.set_cons_succ]
        refine wpAnyH_take (i:=1) (oi:=⟨some 39,.load 25 (.tmp 38),_,_,_,none⟩) (v:=?_) rfl (by kernel_rfl) (by kernel_rfl) (by kernel_rfl) (fun _ _ _ h=>h) (Or.inl ⟨by rfl, ?_⟩) (by assumption) ?_
        rotate_left
        · intro wq hSw
          go_simp
          with_reducible rfl
        simp only [Act.put,List.setIfInBounds_toArray,List.set_cons_zero,List.set_cons_succ]
        refine wpAnyH_take (i:=2) (oi:=⟨some 40,.fieldAddr 28 (.tmp 3) 1,_,_,_,none⟩) (v:=?_) rfl (by kernel_rfl) (by kernel_rfl) (by kernel_rfl) (fun _ _ _ h=>h) (Or.inl ⟨by rfl, ?_⟩) (by assumption) ?_
        rotate_left
        · intro wq hSw
          go_simp
          with_reducible rfl
        simp only [Act.put,List.setIfInBounds_toArray,List.set_cons_zero,List.set_cons_succ]
        refine wpAnyH_take (i:=3) (oi:=⟨some 41,.load 3 (.tmp 40),_,_,_,none⟩) (v:=?_) rfl (by kernel_rfl) (by kernel_rfl) (by kernel_rfl) (fun _ _ _ h=>h) (Or.inl ⟨by rfl, ?_⟩) (by assumption) ?_
        rotate_left
        · intro wq hSw
          go_simp
          with_reducible rfl
        simp only [Act.put,List.setIfInBounds_toArray,List.set_cons_zero,List.set_cons_succ]
        refine wpAnyH_take (i:=4) (oi:=⟨some 42,.move (.tmp 6),_,_,_,none⟩) (v:=?_) rfl (by kernel_rfl) (by kernel_rfl) (by kernel_rfl) (fun _ _ _ h=>h) (Or.inl ⟨by rfl, ?_⟩) (by assumption) ?_
        rotate_left
        · intro wq hSw
          go_simp
          with_reducible rfl
        simp only [Act.put,List.setIfInBounds_toArray,List.set_cons_zero,List.set_cons_succ]
        refine wpAnyH_take (i:=5) (oi:=⟨some 43,.fieldAddr 28 (.tmp 1) 2,_,_,_,none⟩) (v:=?_) rfl (by kernel_rfl) (by kernel_rfl) (by kernel_rfl) (fun _ _ _ h=>h) (Or.inl ⟨by rfl, ?_⟩) (by assumption) ?_
        rotate_left
        · intro wq hSw
          go_simp
          with_reducible rfl
        simp only [Act.put,List.setIfInBounds_toArray,List.set_cons_zero,List.set_cons_succ]
        refine wpAnyH_take (i:=6) (oi:=⟨some 44,.load 26 (.tmp 43),_,_,_,none⟩) (v:=?_) rfl (by kernel_rfl) (by kernel_rfl) (by kernel_rfl) (fun _ _ _ h=>h) (Or.inl ⟨by rfl, ?_⟩) (by assumption) ?_
        rotate_left
        · intro wq hSw
          go_simp
          with_reducible rfl
        simp only [Act.put,List.setIfInBounds_toArray,List.set_cons_zero,List.set_cons_succ]
        refine wpAnyH_take (i:=7) (oi:=⟨some 45,.call { callee:=.builtin .len,args:=#[.tmp 44],argTypes:=#[26] },_,_,_,none⟩) (v:=?_) rfl (by kernel_rfl) (by kernel_rfl) (by kernel_rfl) (fun _ _ _ h=>h) (Or.inl ⟨by rfl, ?_⟩) (by assumption) ?_
        rotate_left
        · intro wq hSw
          go_simp
          with_reducible rfl
        simp only [Act.put,List.setIfInBounds_toArray,List.set_cons_zero,List.set_cons_succ]
        refine wpAnyH_ready (rs:=[8]) (by kernel_rfl) (by simp) ?_
        refine AllReadyH.cons (o:=⟨some 46,.slice 26 (.tmp 42) none (some (.tmp 45)) none,_,_,_,none⟩) rfl (fun K hK=>?_) ?_
        · go_simp
          refine hK.out _ _ (⟨n0,n1,n2,n3,n4,n5,n6,x7⟩) (fun hHeld=>?_)
          clear hK K
          refine wpAnyH_take (i:=9) (oi:=⟨some 47,.build 28 #[(0,.tmp 39),(1,.tmp 41),(2,.tmp 46)],_,_,_,none⟩) (v:=?_) rfl (by kernel_rfl) (by kernel_rfl) (by kernel_rfl) (fun _ _ _ h=>h) (Or.inl ⟨by rfl, ?_⟩) (by assumption) ?_
          rotate_left
          · intro wq hSw
            go_simp
            with_reducible rfl
          simp only [Act.put,List.setIfInBounds_toArray,List.set_cons_zero,List.set_cons_succ]
          refine wpAnyH_ready (rs:=[10]) (by kernel_rfl) (by simp) ?_
          refine AllReadyH.cons (o:=⟨none,.store 28 (.tmp 2) (.tmp 47),_,_,_,none⟩) rfl (fun K hK=>?_) ?_
          · go_simp
            refine hK.out _ _ (by go_keep) (fun hHeld=>?_)
            clear hK K
            refine wpAnyH_done (by kernel_rfl) ?_ _
            have zu:w.heap.size + 1 < V.heap.size:=by have:=hvb.size;omega
            obtain ⟨⟨y_0,y_1,y_2,y_3,y_4,y_5,y_6,y_7⟩,SPF,BF⟩:=node_final (op:=op) (lo:=lo) (hi:=hi) (kind:=kind) (attr:=attr) (V:=V) (mb:=mb) (uh BX) (uh BW3) sXX (uh HG3) (uh HN3) s3 hne3 hg1n hgX sv2 zu hlen o0 o1 o2 o3 o4 o5 o6 o7 (uh HO3) (uh HI1) (uh HW1) (uh HSP) (uh HUS) r1 z1 r2 z2
            clear n0 n1 n2 n3 n4 n5 n6 x7 o0 o1 o2 o3 o4 o5 o6 o7 rf q1 q2 t1 t4
            go_wp2
            obtain ⟨WF,hWF⟩:∃ WF,((((((((w3.setCell ⟨w.heap.size + 1,0,none⟩ (.int .i64 kind)).setCell ⟨w.heap.size + 1,1,none⟩ (.string attr)).setCell ⟨w.heap.size + 1,2,none⟩ (.slice (some ⟨g1,0,none⟩) ints.length k1)).setCell ⟨w.heap.size + 1,3,none⟩ (.slice (some ⟨g2,0,none⟩) words.length k2)).setCell ⟨w.heap.size + 1,4,none⟩ (.int .i64 lo)).setCell ⟨w.heap.size + 1,5,none⟩ (.int .i64 hi)).setCell ⟨w.heap.size + 1,6,none⟩ (.int .i64 op)).setCell ⟨w.heap.size + 1,7,none⟩ (.slice (some ⟨gm,0,none⟩) kids.length (kids.length + 1)))=WF:=⟨_,rfl⟩
            rw [hWF] at SPF BF y_0 y_1 y_2 y_3 y_4 y_5 y_6 y_7
            rw [hWF]
            have SPF2:=hide SPF
            have BF2:=hide BF
            clear SPF BF hWF HO3 HG3 HN3 BW3 HSP HI1 HW1 HOWN HUS HB
            refine bodyPost_ret (v:=.agg #[.int .i64 kind,.string attr,.slice (some ⟨g1,0,none⟩) ints.length k1,.slice (some ⟨g2,0,none⟩) words.length k2,.int .i64 lo,.int .i64 hi,.int .i64 op,.slice (some ⟨gm,0,none⟩) kids.length (kids.length + 1)]) (by simp [results,Try.results5,go_sem,y_0,y_1,y_2,y_3,y_4,y_5,y_6,y_7]) rfl ⟨⟨⟨kind,attr,some ⟨g1,0,none⟩,ints.length,k1,some ⟨g2,0,none⟩,words.length,k2,lo,hi,op,some ⟨gm,0,none⟩,kids.length,kids.length + 1⟩,rfl,(uh SPF2).keep (Below.refl _ _).drew⟩,(uh BF2).drew⟩

          exact AllReadyH.nil

        exact AllReadyH.nil
  · have zr:=R2.size
    have zs:=hb1.size
    have ug1:g1 < w1.heap.size:=by obtain ⟨b,off,hq,hB,_⟩:=s1.1 (by simp [spI]);cases hq;exact hB
    have ug2:g2 < w1.heap.size:=by obtain ⟨b,off,hq,hB,_⟩:=t1.1 (by simp [spS]);cases hq;exact hB
    have zY:Y.heap.size=X.heap.size + 1:=by rw [hY,drew_heap];simp
    have OW1:OwnK encV 28 8 X.heap.size w1 (some ⟨X.heap.size,0,none⟩) (kids.length + 1) []:=OwnK.below (w:=Y) (by rw [hY];exact World.ownsRow.drew (ownV (B:=X.heap.size) (w:=X) (Nat.le_refl _) (by unfold maxLen;omega) hcs)) hb1
    have hvo:OwnK encV 28 8 X.heap.size (w1.alloc (.cells #[.int .i64 kind,.string attr,.slice (some ⟨g1,0,none⟩) ints.length k1,.slice (some ⟨g2,0,none⟩) words.length k2,.int .i64 lo,.int .i64 hi,.int .i64 op,.slice (some ⟨X.heap.size,0,none⟩) 0 (kids.length + 1)] 28)) (some ⟨X.heap.size,0,none⟩) (kids.length + 1) []:=(OW1.below ((Below.refl _ _).alloc (Nat.le_refl _) _))
    have hvb:Below X.heap.size X (w1.alloc (.cells #[.int .i64 kind,.string attr,.slice (some ⟨g1,0,none⟩) ints.length k1,.slice (some ⟨g2,0,none⟩) words.length k2,.int .i64 lo,.int .i64 hi,.int .i64 op,.slice (some ⟨X.heap.size,0,none⟩) 0 (kids.length + 1)] 28)):=bal _ _ R2
    have hvi:LsB encI 3 1 (w1.alloc (.cells #[.int .i64 kind,.string attr,.slice (some ⟨g1,0,none⟩) ints.length k1,.slice (some ⟨g2,0,none⟩) words.length k2,.int .i64 lo,.int .i64 hi,.int .i64 op,.slice (some ⟨X.heap.size,0,none⟩) 0 (kids.length + 1)] 28)) g1 k1 (ints ++ spI):=(s1.below ((Below.refl _ _).alloc (Nat.le_refl _) _))
    have hvw:LsB encS 9 1 (w1.alloc (.cells #[.int .i64 kind,.string attr,.slice (some ⟨g1,0,none⟩) ints.length k1,.slice (some ⟨g2,0,none⟩) words.length k2,.int .i64 lo,.int .i64 hi,.int .i64 op,.slice (some ⟨X.heap.size,0,none⟩) 0 (kids.length + 1)] 28)) g2 k2 (words ++ spS):=(t1.below ((Below.refl _ _).alloc (Nat.le_refl _) _))
    have hm:(w1.alloc (.cells #[.int .i64 kind,.string attr,.slice (some ⟨g1,0,none⟩) ints.length k1,.slice (some ⟨g2,0,none⟩) words.length k2,.int .i64 lo,.int .i64 hi,.int .i64 op,.slice (some ⟨X.heap.size,0,none⟩) 0 (kids.length + 1)] 28)).heap[w1.heap.size]? = some (.cells #[.int .i64 kind,.string attr,.slice (some ⟨g1,0,none⟩) ints.length k1,.slice (some ⟨g2,0,none⟩) words.length k2,.int .i64 lo,.int .i64 hi,.int .i64 op,.slice (some ⟨X.heap.size,0,none⟩) 0 (kids.length + 1)] 28):=box_nw w1 (.cells #[.int .i64 kind,.string attr,.slice (some ⟨g1,0,none⟩) ints.length k1,.slice (some ⟨g2,0,none⟩) words.length k2,.int .i64 lo,.int .i64 hi,.int .i64 op,.slice (some ⟨X.heap.size,0,none⟩) 0 (kids.length + 1)] 28)
    obtain ⟨v0,v1,v2,v3,v4,v5,v6,v7⟩:=of8' hm
    have vf:∀ o,(w1.alloc (.cells #[.int .i64 kind,.string attr,.slice (some ⟨g1,0,none⟩) ints.length k1,.slice (some ⟨g2,0,none⟩) words.length k2,.int .i64 lo,.int .i64 hi,.int .i64 op,.slice (some ⟨X.heap.size,0,none⟩) 0 (kids.length + 1)] 28)).frozen? ⟨w1.heap.size,o,none⟩=false:=fun o=>frozen_free hm
    have sv:w1.heap.size < (w1.alloc (.cells #[.int .i64 kind,.string attr,.slice (some ⟨g1,0,none⟩) ints.length k1,.slice (some ⟨g2,0,none⟩) words.length k2,.int .i64 lo,.int .i64 hi,.int .i64 op,.slice (some ⟨X.heap.size,0,none⟩) 0 (kids.length + 1)] 28)).heap.size∧X.heap.size < (w1.alloc (.cells #[.int .i64 kind,.string attr,.slice (some ⟨g1,0,none⟩) ints.length k1,.slice (some ⟨g2,0,none⟩) words.length k2,.int .i64 lo,.int .i64 hi,.int .i64 op,.slice (some ⟨X.heap.size,0,none⟩) 0 (kids.length + 1)] 28)).heap.size∧w1.heap.size≤(w1.alloc (.cells #[.int .i64 kind,.string attr,.slice (some ⟨g1,0,none⟩) ints.length k1,.slice (some ⟨g2,0,none⟩) words.length k2,.int .i64 lo,.int .i64 hi,.int .i64 op,.slice (some ⟨X.heap.size,0,none⟩) 0 (kids.length + 1)] 28)).heap.size:=by refine ⟨?_, ?_, ?_⟩ <;> simp <;> omega
    obtain ⟨V,hV⟩:∃ V,(w1.alloc (.cells #[.int .i64 kind,.string attr,.slice (some ⟨g1,0,none⟩) ints.length k1,.slice (some ⟨g2,0,none⟩) words.length k2,.int .i64 lo,.int .i64 hi,.int .i64 op,.slice (some ⟨X.heap.size,0,none⟩) 0 (kids.length + 1)] 28))=V:=⟨_,rfl⟩
    obtain ⟨mb,hmb⟩:∃ mb,w1.heap.size=mb:=⟨_,rfl⟩
    obtain ⟨gm,hgm⟩:∃ gm,X.heap.size=gm:=⟨_,rfl⟩
    have hne1:mb ≠ gm:=by omega
    have hne2:X.heap.size≤mb:=by omega
    have hne3:X.heap.size≤gm:=by omega
    obtain ⟨sv1,sv2,_⟩:=sv
    have hg1n:g1 ≠ mb∧g1 ≠ gm∧g2 ≠ mb∧g2 ≠ gm:=(by refine ⟨?_, ?_, ?_, ?_⟩ <;> omega)
    have hgX:X.heap.size≤g1∧X.heap.size≤g2:=by omega
    rw [hV] at hvo hvb hvi hvw v0 v1 v2 v3 v4 v5 v6 v7 vf sv1 sv2
    rw [hV]
    rw [hmb] at v0 v1 v2 v3 v4 v5 v6 v7 vf sv1
    rw [hmb]
    rw [hgm] at hvo v7 sv2
    rw [hgm]
    have HX8:=hide (uh X8)
    clear hV hmb hgm s1 t1 hb1 R2 bY hY zr zs zY KS c0 c1 c2 c3 c4 c5 c6 c7 dX hmk3
    go_loopw [21] (fun i wr=>∃ (k:Nat) (us:List Nv),k≤kids.length∧i=.int .i64 k∧us.length=k∧Below X.heap.size X wr∧V.heap.size≤wr.heap.size∧(wr.cell? ⟨mb,0,none⟩=some (.int .i64 kind)∧wr.cell? ⟨mb,1,none⟩=some (.string attr)∧wr.cell? ⟨mb,2,none⟩=some (.slice (some ⟨g1,0,none⟩) ints.length k1)∧wr.cell? ⟨mb,3,none⟩=some (.slice (some ⟨g2,0,none⟩) words.length k2)∧wr.cell? ⟨mb,4,none⟩=some (.int .i64 lo)∧wr.cell? ⟨mb,5,none⟩=some (.int .i64 hi)∧wr.cell? ⟨mb,6,none⟩=some (.int .i64 op)∧wr.cell? ⟨mb,7,none⟩=some (.slice (some ⟨gm,0,none⟩) k (kids.length + 1)))∧(∀ o,wr.frozen? ⟨mb,o,none⟩=false)∧OwnK encV 28 8 X.heap.size wr (some ⟨gm,0,none⟩) (kids.length + 1) us∧LsB encI 3 1 wr g1 k1 (ints ++ spI)∧LsB encS 9 1 wr g2 k2 (words ++ spS)∧∀ (j:Nat) (v:Nv) (x:Nd),us[j]? = some v→kids[j]? = some x→SpIn wr V.heap.size v x) (fun i _=>kids.length - (intOf i).toNat)
    case atStart=>exact ⟨0,[],by omega,rfl,rfl,hvb,Nat.le_refl _,⟨v0,v1,v2,v3,v4,v5,v6,v7⟩,vf,OwnK.mono hvo (by omega),hvi,hvw,fun j v x h=>by simp at h⟩
    case round =>
      obtain ⟨k,us,hkk,rfl,hus,hbel,hVs,⟨c0,c1,c2,c3,c4,c5,c6,c7⟩,hcf,hown,hi1,hw1,hsp⟩:=hrel
      clear v0 v1 v2 v3 v4 v5 v6 v7 vf hvo hvi hvw
      by_cases hlt:k < kids.length
      · obtain ⟨x,hx,hd⟩:=get_at hlt
        clear hd
        obtain ⟨b,off,v,hq,hin,e0,e1,e2,e3,e4,e5,e6,e7⟩:=(uh HKX).on hx hbel
        subst hq
        have hxm:x ∈ kids:=List.mem_of_getElem? hx
        have ki0:(0:Int)≤(k:Int):=by omega
        have ki1:(k:Int) < (kids.length:Int):=by omega
        have HOWN:=hide hown
        have HI1:=hide hi1
        have HW1:=hide hw1
        have HSP:=hide hsp
        have HIN:=hide hin
        have HXX:=hide hx
        have HUS:=hide hus
        have HB:=hide hbel
        have hTT:=uh IH x hxm v
        have hwx:=Nat.le_trans (wtL_mem hxm) l3
        clear hown hi1 hw1 hsp hin hx hus hxm hbel
        go_wp2
        obtain ⟨Z,hZ⟩:∃ Z,wr.alloc (.cells #[.int .i64 v.kind,.string v.attr,.slice v.qi v.ni v.ci,.slice v.qw v.nw v.cw,.int .i64 v.lo,.int .i64 v.hi,.int .i64 v.op,.slice v.qk v.nk v.ck] 28)=Z:=⟨_,rfl⟩
        rw [hZ]
        have zk:Z.heap[wr.heap.size]? = some (.cells #[.int .i64 v.kind,.string v.attr,.slice v.qi v.ni v.ci,.slice v.qw v.nw v.cw,.int .i64 v.lo,.int .i64 v.hi,.int .i64 v.op,.slice v.qk v.nk v.ck] 28 (0,0)):=by rw [← hZ];exact box_nw _ _
        have bZ:Below wr.heap.size wr Z:=by rw [← hZ];exact (Below.refl _ _).alloc (Nat.le_refl _) _
        have sZ:Z.heap.size=wr.heap.size + 1:=by rw [← hZ];simp
        have hmr:mb < wr.heap.size:=by omega
        have hgr:gm < wr.heap.size:=by omega
        have q7:Z.cell? ⟨mb,7,none⟩=some (.slice (some ⟨gm,0,none⟩) k (kids.length + 1)):=(bZ.cell (p:=⟨mb,7,none⟩) (by exact hmr)).trans c7
        have qf:∀ o,Z.frozen? ⟨mb,o,none⟩=false:=fun o=>(bZ.frozen (by exact hmr)).trans (hcf o)
        have KS2:∀ W:World,(∀ o,W.cell? ⟨wr.heap.size,o,none⟩=Z.cell? ⟨wr.heap.size,o,none⟩)→(fun w'=>w'.cell? ⟨wr.heap.size,0,none⟩=some (.int .i64 v.kind)∧w'.cell? ⟨wr.heap.size,1,none⟩=some (.string v.attr)∧w'.cell? ⟨wr.heap.size,2,none⟩=some (.slice v.qi v.ni v.ci)∧w'.cell? ⟨wr.heap.size,3,none⟩=some (.slice v.qw v.nw v.cw)∧w'.cell? ⟨wr.heap.size,4,none⟩=some (.int .i64 v.lo)∧w'.cell? ⟨wr.heap.size,5,none⟩=some (.int .i64 v.hi)∧w'.cell? ⟨wr.heap.size,6,none⟩=some (.int .i64 v.op)∧w'.cell? ⟨wr.heap.size,7,none⟩=some (.slice v.qk v.nk v.ck)) W:=fun W hb=>by
          obtain ⟨a0,a1,a2,a3,a4,a5,a6,a7⟩:=of8' zk
          exact ⟨(hb 0).trans a0,(hb 1).trans a1,(hb 2).trans a2,(hb 3).trans a3,(hb 4).trans a4,(hb 5).trans a5,(hb 6).trans a6,(hb 7).trans a7⟩
        have E0:∀ o,Z.drew.cell? ⟨wr.heap.size,o,none⟩=Z.cell? ⟨wr.heap.size,o,none⟩:=fun o=>rfl
        obtain ⟨f0,f1,f2,f3,f4,f5,f6,f7⟩:=KS2 Z (fun o=>rfl)
        have hNd:=hTT Z.drew ((uh HIN).keep bZ.drew) hwx
        simp only [Nv.val] at hNd
        have ZK:=hide zk
        have HO2:=hide ((uh HOWN).below bZ)
        have hnn:¬ wr.heap.size=mb:=by omega
        clear e0 e1 e2 e3 e4 e5 e6 e7 zk hTT hwx
        refine wp_region_held_drew (S:=fun w'=>w'.cell? ⟨wr.heap.size,0,none⟩=some (.int .i64 v.kind)∧w'.cell? ⟨wr.heap.size,1,none⟩=some (.string v.attr)∧w'.cell? ⟨wr.heap.size,2,none⟩=some (.slice v.qi v.ni v.ci)∧w'.cell? ⟨wr.heap.size,3,none⟩=some (.slice v.qw v.nw v.cw)∧w'.cell? ⟨wr.heap.size,4,none⟩=some (.int .i64 v.lo)∧w'.cell? ⟨wr.heap.size,5,none⟩=some (.int .i64 v.hi)∧w'.cell? ⟨wr.heap.size,6,none⟩=some (.int .i64 v.op)∧w'.cell? ⟨wr.heap.size,7,none⟩=some (.slice v.qk v.nk v.ck)) (by kernel_rfl) (KS2 _ E0) (fun hHeld=>?_)
        refine wpAnyH_take (i:=0) (oi:=⟨some 25,.fieldAddr 28 (.tmp 3) 2,_,_,_,none⟩) (v:=?_) rfl (by kernel_rfl) (by kernel_rfl) (by kernel_rfl) (fun _ _ _ h=>h) (Or.inl ⟨by rfl, ?_⟩) (by assumption) ?_
        rotate_left
        · intro w hSw
          go_simp
          with_reducible rfl
        simp only [Act.put,List.setIfInBounds_toArray,List.set_cons_zero,List.set_cons_succ]
        refine wpAnyH_take (i:=2) (oi:=⟨some 27,.load 28 (.tmp 5),_,_,_,none⟩) (v:=?_) rfl (by kernel_rfl) (by kernel_rfl) (by kernel_rfl) (fun _ _ _ h=>h) (Or.inl ⟨by rfl, ?_⟩) (by assumption) ?_
        rotate_left
        · intro w hSw
          go_simp
          with_reducible rfl
        simp only [Act.put,List.setIfInBounds_toArray,List.set_cons_zero,List.set_cons_succ]
        refine wpAnyH_ready (rs:=[1,3]) (by kernel_rfl) (by simp) ?_
        refine AllReadyH.cons (o:=⟨some 26,.load 26 (.tmp 25),_,_,_,none⟩) rfl (fun K hK=>?_) ?_
        · go_simp
          refine hK.out _ _ (KS2 _ E0) (fun hHeld=>?_)
          clear hK K
          skip
          refine wpAnyH_ready (rs:=[3]) (by kernel_rfl) (by simp) ?_
          refine AllReadyH.cons (o:=⟨some 28,.call { callee:=.value (.func 5),args:=#[.tmp 27],argTypes:=#[28] },_,_,_,none⟩) rfl (fun K hK=>?_) ?_
          · go_simp
            refine hNd.mono ?_
            rintro e w2 ⟨⟨u,rfl,hu⟩,hb2⟩
            simp only
            have R3:Below Z.heap.size Z w2:=below_undrewM hb2
            have s2:=R3.size
            have E2:∀ o,w2.cell? ⟨wr.heap.size,o,none⟩=Z.cell? ⟨wr.heap.size,o,none⟩:=fun o=>R3.cell (p:=⟨wr.heap.size,o,none⟩) (by simp only;omega)
            have m7:w2.cell? ⟨mb,7,none⟩=some (.slice (some ⟨gm,0,none⟩) k (kids.length + 1)):=(R3.cell (p:=⟨mb,7,none⟩) (by simp only;omega)).trans q7
            have mf:∀ o,w2.frozen? ⟨mb,o,none⟩=false:=fun o=>(R3.frozen (by simp only;omega)).trans (qf o)
            have lm2:mb < w2.heap.size:=by omega
            have nm2:¬ mb=w2.heap.size:=by omega
            have E2a:∀ o,(w2.alloc (.cells #[.int .i64 u.kind,.string u.attr,.slice u.qi u.ni u.ci,.slice u.qw u.nw u.cw,.int .i64 u.lo,.int .i64 u.hi,.int .i64 u.op,.slice u.qk u.nk u.ck] 28)).cell? ⟨wr.heap.size,o,none⟩=Z.cell? ⟨wr.heap.size,o,none⟩:=fun o=>(((Below.refl w2.heap.size w2).alloc (Nat.le_refl _) _).cell (p:=⟨wr.heap.size,o,none⟩) (by simp only;omega)).trans (E2 o)
            have HU:=hide hu
            clear hu hb2
            refine hK.out _ _ (KS2 _ E2) (fun hHeld=>?_)
            clear hK K
            skip
            refine wpAnyH_ready (rs:=[4]) (by kernel_rfl) (by simp) ?_
            refine AllReadyH.cons (o:=⟨some 29,.buildSlice 26 1 #[(0,.tmp 28)],_,_,_,none⟩) rfl (fun K hK=>?_) ?_
            · go_simp
              refine hK.out _ _ (KS2 _ E2a) (fun hHeld=>?_)
              clear hK K
              skip
              refine wpAnyH_ready (rs:=[5]) (by kernel_rfl) (by simp) ?_
              refine AllReadyH.cons (o:=⟨some 30,.call { callee:=.builtin .append,args:=#[.tmp 26,.tmp 29],argTypes:=#[26,26] },_,_,_,none⟩) rfl (fun K hK=>?_) ?_
              · refine step_fit rowV (by rfl) (.tmp 26) (.tmp 29) (by rfl) X.heap.size gm (kids.length + 1) us ⟨w2.heap.size,0,none⟩ 1 [u] k 1 (k + 1) (uh HUS) rfl rfl (by rfl) (by rfl) (((uh HO2).below R3).below ((Below.refl _ _).alloc (Nat.le_refl _) _)) (node_src (box_nw _ _)) (by omega) ?_
                intro w3 hown3 hg3
                have s3:=hg3.size
                simp only [size_al] at s3
                have E3:∀ o,w3.cell? ⟨wr.heap.size,o,none⟩=Z.cell? ⟨wr.heap.size,o,none⟩:=fun o=>(World.cell?_of_block (w:=w2.alloc (.cells #[.int .i64 u.kind,.string u.attr,.slice u.qi u.ni u.ci,.slice u.qw u.nw u.cw,.int .i64 u.lo,.int .i64 u.hi,.int .i64 u.op,.slice u.qk u.nk u.ck] 28)) (a:=⟨wr.heap.size,o,none⟩) (hg3.block wr.heap.size (by simp only [size_al];omega) (fun e=>by cases e;omega))).trans (E2a o)
                have n7:w3.cell? ⟨mb,7,none⟩=some (.slice (some ⟨gm,0,none⟩) k (kids.length + 1)):=(World.cell?_of_block (w:=w2.alloc (.cells #[.int .i64 u.kind,.string u.attr,.slice u.qi u.ni u.ci,.slice u.qw u.nw u.cw,.int .i64 u.lo,.int .i64 u.hi,.int .i64 u.op,.slice u.qk u.nk u.ck] 28)) (a:=⟨mb,7,none⟩) (hg3.block mb (by simp only [size_al];omega) (fun e=>by cases e;omega))).trans ((((Below.refl w2.heap.size w2).alloc (Nat.le_refl _) _).cell (p:=⟨mb,7,none⟩) (by exact lm2)).trans m7)
                have nf:∀ o,w3.frozen? ⟨mb,o,none⟩=false:=fun o=>frz hg3 (by simp only [size_al];omega) (by omega) ((((Below.refl w2.heap.size w2).alloc (Nat.le_refl _) _).frozen (by exact lm2)).trans (mf o))
                have HO3:=hide hown3
                have HG3:=hide hg3
                clear hown3 hg3
                refine hK.out _ _ (KS2 _ E3) (fun hHeld=>?_)
                clear hK K
                simp only [Act.put,List.setIfInBounds_toArray,List.set_cons_zero,List.set_cons_succ]
                refine wpAnyH_take (i:=6) (oi:=⟨some 31,.fieldAddr 28 (.tmp 3) 2,_,_,_,none⟩) (v:=?_) rfl (by kernel_rfl) (by kernel_rfl) (by kernel_rfl) (fun _ _ _ h=>h) (Or.inl ⟨by rfl, ?_⟩) (by assumption) ?_
                rotate_left
                · intro w hSw
                  go_simp
                  with_reducible rfl
                simp only [Act.put,List.setIfInBounds_toArray,List.set_cons_zero,List.set_cons_succ]
                refine wpAnyH_ready (rs:=[7]) (by kernel_rfl) (by simp) ?_
                refine AllReadyH.cons (o:=⟨none,.store 26 (.tmp 31) (.tmp 30),_,_,_,none⟩) rfl (fun K hK=>?_) ?_
                · go_simp
                  refine hK.out _ _ (KS2 _ (fun o=>(set_other _ (by omega) o 7 _).trans (E3 o))) (fun hHeld=>?_)
                  clear hK K
                  skip
                  refine wpAnyH_done (by kernel_rfl) ?_ _
                  have P4:=hide (node_round (V:=V) (uh HB) bZ R3 (uh HG3) hne1 hne2 hne3 hg1n sv1 sv2 hVs sZ c0 c1 c2 c3 c4 c5 c6 n7 nf (uh HO3) (uh HI1) (uh HW1) (uh HSP) (uh HU) (uh HUS) (uh HXX))
                  have hl4:(us ++ [u]).length=k + 1:=by rw [List.length_append,uh HUS];rfl
                  go_wp2
                  go_roundw
                  case rel=>exact ⟨k + 1,us ++ [u],by omega,by go_num,hl4,uh P4⟩
                  case measure=>simp [intOf];omega
                exact AllReadyH.nil
              exact AllReadyH.nil
            exact AllReadyH.nil
          exact AllReadyH.nil
        refine AllReadyH.cons (o:=⟨some 28,.call { callee:=.value (.func 5),args:=#[.tmp 27],argTypes:=#[28] },_,_,_,none⟩) rfl (fun K hK=>?_) ?_
        · go_simp
          refine hNd.mono ?_
          rintro e w2 ⟨⟨u,rfl,hu⟩,hb2⟩
          simp only
          have R3:Below Z.heap.size Z w2:=below_undrewM hb2
          have s2:=R3.size
          have E2:∀ o,w2.cell? ⟨wr.heap.size,o,none⟩=Z.cell? ⟨wr.heap.size,o,none⟩:=fun o=>R3.cell (p:=⟨wr.heap.size,o,none⟩) (by simp only;omega)
          have m7:w2.cell? ⟨mb,7,none⟩=some (.slice (some ⟨gm,0,none⟩) k (kids.length + 1)):=(R3.cell (p:=⟨mb,7,none⟩) (by simp only;omega)).trans q7
          have mf:∀ o,w2.frozen? ⟨mb,o,none⟩=false:=fun o=>(R3.frozen (by simp only;omega)).trans (qf o)
          have lm2:mb < w2.heap.size:=by omega
          have nm2:¬ mb=w2.heap.size:=by omega
          have E2a:∀ o,(w2.alloc (.cells #[.int .i64 u.kind,.string u.attr,.slice u.qi u.ni u.ci,.slice u.qw u.nw u.cw,.int .i64 u.lo,.int .i64 u.hi,.int .i64 u.op,.slice u.qk u.nk u.ck] 28)).cell? ⟨wr.heap.size,o,none⟩=Z.cell? ⟨wr.heap.size,o,none⟩:=fun o=>(((Below.refl w2.heap.size w2).alloc (Nat.le_refl _) _).cell (p:=⟨wr.heap.size,o,none⟩) (by simp only;omega)).trans (E2 o)
          have HU:=hide hu
          clear hu hb2
          refine hK.out _ _ (KS2 _ E2) (fun hHeld=>?_)
          clear hK K
          skip
          refine wpAnyH_ready (rs:=[1,4]) (by kernel_rfl) (by simp) ?_
          refine AllReadyH.cons (o:=⟨some 26,.load 26 (.tmp 25),_,_,_,none⟩) rfl (fun K hK=>?_) ?_
          · go_simp
            refine hK.out _ _ (KS2 _ E2) (fun hHeld=>?_)
            clear hK K
            skip
            refine wpAnyH_ready (rs:=[4]) (by kernel_rfl) (by simp) ?_
            refine AllReadyH.cons (o:=⟨some 29,.buildSlice 26 1 #[(0,.tmp 28)],_,_,_,none⟩) rfl (fun K hK=>?_) ?_
            · go_simp
              refine hK.out _ _ (KS2 _ E2a) (fun hHeld=>?_)
              clear hK K
              skip
              refine wpAnyH_ready (rs:=[5]) (by kernel_rfl) (by simp) ?_
              refine AllReadyH.cons (o:=⟨some 30,.call { callee:=.builtin .append,args:=#[.tmp 26,.tmp 29],argTypes:=#[26,26] },_,_,_,none⟩) rfl (fun K hK=>?_) ?_
              · refine step_fit rowV (by rfl) (.tmp 26) (.tmp 29) (by rfl) X.heap.size gm (kids.length + 1) us ⟨w2.heap.size,0,none⟩ 1 [u] k 1 (k + 1) (uh HUS) rfl rfl (by rfl) (by rfl) (((uh HO2).below R3).below ((Below.refl _ _).alloc (Nat.le_refl _) _)) (node_src (box_nw _ _)) (by omega) ?_
                intro w3 hown3 hg3
                have s3:=hg3.size
                simp only [size_al] at s3
                have E3:∀ o,w3.cell? ⟨wr.heap.size,o,none⟩=Z.cell? ⟨wr.heap.size,o,none⟩:=fun o=>(World.cell?_of_block (w:=w2.alloc (.cells #[.int .i64 u.kind,.string u.attr,.slice u.qi u.ni u.ci,.slice u.qw u.nw u.cw,.int .i64 u.lo,.int .i64 u.hi,.int .i64 u.op,.slice u.qk u.nk u.ck] 28)) (a:=⟨wr.heap.size,o,none⟩) (hg3.block wr.heap.size (by simp only [size_al];omega) (fun e=>by cases e;omega))).trans (E2a o)
                have n7:w3.cell? ⟨mb,7,none⟩=some (.slice (some ⟨gm,0,none⟩) k (kids.length + 1)):=(World.cell?_of_block (w:=w2.alloc (.cells #[.int .i64 u.kind,.string u.attr,.slice u.qi u.ni u.ci,.slice u.qw u.nw u.cw,.int .i64 u.lo,.int .i64 u.hi,.int .i64 u.op,.slice u.qk u.nk u.ck] 28)) (a:=⟨mb,7,none⟩) (hg3.block mb (by simp only [size_al];omega) (fun e=>by cases e;omega))).trans ((((Below.refl w2.heap.size w2).alloc (Nat.le_refl _) _).cell (p:=⟨mb,7,none⟩) (by exact lm2)).trans m7)
                have nf:∀ o,w3.frozen? ⟨mb,o,none⟩=false:=fun o=>frz hg3 (by simp only [size_al];omega) (by omega) ((((Below.refl w2.heap.size w2).alloc (Nat.le_refl _) _).frozen (by exact lm2)).trans (mf o))
                have HO3:=hide hown3
                have HG3:=hide hg3
                clear hown3 hg3
                refine hK.out _ _ (KS2 _ E3) (fun hHeld=>?_)
                clear hK K
                simp only [Act.put,List.setIfInBounds_toArray,List.set_cons_zero,List.set_cons_succ]
                refine wpAnyH_take (i:=6) (oi:=⟨some 31,.fieldAddr 28 (.tmp 3) 2,_,_,_,none⟩) (v:=?_) rfl (by kernel_rfl) (by kernel_rfl) (by kernel_rfl) (fun _ _ _ h=>h) (Or.inl ⟨by rfl, ?_⟩) (by assumption) ?_
                rotate_left
                · intro w hSw
                  go_simp
                  with_reducible rfl
                simp only [Act.put,List.setIfInBounds_toArray,List.set_cons_zero,List.set_cons_succ]
                refine wpAnyH_ready (rs:=[7]) (by kernel_rfl) (by simp) ?_
                refine AllReadyH.cons (o:=⟨none,.store 26 (.tmp 31) (.tmp 30),_,_,_,none⟩) rfl (fun K hK=>?_) ?_
                · go_simp
                  refine hK.out _ _ (KS2 _ (fun o=>(set_other _ (by omega) o 7 _).trans (E3 o))) (fun hHeld=>?_)
                  clear hK K
                  skip
                  refine wpAnyH_done (by kernel_rfl) ?_ _
                  have P4:=hide (node_round (V:=V) (uh HB) bZ R3 (uh HG3) hne1 hne2 hne3 hg1n sv1 sv2 hVs sZ c0 c1 c2 c3 c4 c5 c6 n7 nf (uh HO3) (uh HI1) (uh HW1) (uh HSP) (uh HU) (uh HUS) (uh HXX))
                  have hl4:(us ++ [u]).length=k + 1:=by rw [List.length_append,uh HUS];rfl
                  go_wp2
                  go_roundw
                  case rel=>exact ⟨k + 1,us ++ [u],by omega,by go_num,hl4,uh P4⟩
                  case measure=>simp [intOf];omega
                exact AllReadyH.nil
              exact AllReadyH.nil
            exact AllReadyH.nil
          refine AllReadyH.cons (o:=⟨some 29,.buildSlice 26 1 #[(0,.tmp 28)],_,_,_,none⟩) rfl (fun K hK=>?_) ?_
          · go_simp
            refine hK.out _ _ (KS2 _ E2a) (fun hHeld=>?_)
            clear hK K
            skip
            refine wpAnyH_ready (rs:=[1]) (by kernel_rfl) (by simp) ?_
            refine AllReadyH.cons (o:=⟨some 26,.load 26 (.tmp 25),_,_,_,none⟩) rfl (fun K hK=>?_) ?_
            · go_simp
              refine hK.out _ _ (KS2 _ E2a) (fun hHeld=>?_)
              clear hK K
              skip
              refine wpAnyH_ready (rs:=[5]) (by kernel_rfl) (by simp) ?_
              refine AllReadyH.cons (o:=⟨some 30,.call { callee:=.builtin .append,args:=#[.tmp 26,.tmp 29],argTypes:=#[26,26] },_,_,_,none⟩) rfl (fun K hK=>?_) ?_
              · refine step_fit rowV (by rfl) (.tmp 26) (.tmp 29) (by rfl) X.heap.size gm (kids.length + 1) us ⟨w2.heap.size,0,none⟩ 1 [u] k 1 (k + 1) (uh HUS) rfl rfl (by rfl) (by rfl) (((uh HO2).below R3).below ((Below.refl _ _).alloc (Nat.le_refl _) _)) (node_src (box_nw _ _)) (by omega) ?_
                intro w3 hown3 hg3
                have s3:=hg3.size
                simp only [size_al] at s3
                have E3:∀ o,w3.cell? ⟨wr.heap.size,o,none⟩=Z.cell? ⟨wr.heap.size,o,none⟩:=fun o=>(World.cell?_of_block (w:=w2.alloc (.cells #[.int .i64 u.kind,.string u.attr,.slice u.qi u.ni u.ci,.slice u.qw u.nw u.cw,.int .i64 u.lo,.int .i64 u.hi,.int .i64 u.op,.slice u.qk u.nk u.ck] 28)) (a:=⟨wr.heap.size,o,none⟩) (hg3.block wr.heap.size (by simp only [size_al];omega) (fun e=>by cases e;omega))).trans (E2a o)
                have n7:w3.cell? ⟨mb,7,none⟩=some (.slice (some ⟨gm,0,none⟩) k (kids.length + 1)):=(World.cell?_of_block (w:=w2.alloc (.cells #[.int .i64 u.kind,.string u.attr,.slice u.qi u.ni u.ci,.slice u.qw u.nw u.cw,.int .i64 u.lo,.int .i64 u.hi,.int .i64 u.op,.slice u.qk u.nk u.ck] 28)) (a:=⟨mb,7,none⟩) (hg3.block mb (by simp only [size_al];omega) (fun e=>by cases e;omega))).trans ((((Below.refl w2.heap.size w2).alloc (Nat.le_refl _) _).cell (p:=⟨mb,7,none⟩) (by exact lm2)).trans m7)
                have nf:∀ o,w3.frozen? ⟨mb,o,none⟩=false:=fun o=>frz hg3 (by simp only [size_al];omega) (by omega) ((((Below.refl w2.heap.size w2).alloc (Nat.le_refl _) _).frozen (by exact lm2)).trans (mf o))
                have HO3:=hide hown3
                have HG3:=hide hg3
                clear hown3 hg3
                refine hK.out _ _ (KS2 _ E3) (fun hHeld=>?_)
                clear hK K
                simp only [Act.put,List.setIfInBounds_toArray,List.set_cons_zero,List.set_cons_succ]
                refine wpAnyH_take (i:=6) (oi:=⟨some 31,.fieldAddr 28 (.tmp 3) 2,_,_,_,none⟩) (v:=?_) rfl (by kernel_rfl) (by kernel_rfl) (by kernel_rfl) (fun _ _ _ h=>h) (Or.inl ⟨by rfl, ?_⟩) (by assumption) ?_
                rotate_left
                · intro w hSw
                  go_simp
                  with_reducible rfl
                simp only [Act.put,List.setIfInBounds_toArray,List.set_cons_zero,List.set_cons_succ]
                refine wpAnyH_ready (rs:=[7]) (by kernel_rfl) (by simp) ?_
                refine AllReadyH.cons (o:=⟨none,.store 26 (.tmp 31) (.tmp 30),_,_,_,none⟩) rfl (fun K hK=>?_) ?_
                · go_simp
                  refine hK.out _ _ (KS2 _ (fun o=>(set_other _ (by omega) o 7 _).trans (E3 o))) (fun hHeld=>?_)
                  clear hK K
                  skip
                  refine wpAnyH_done (by kernel_rfl) ?_ _
                  have P4:=hide (node_round (V:=V) (uh HB) bZ R3 (uh HG3) hne1 hne2 hne3 hg1n sv1 sv2 hVs sZ c0 c1 c2 c3 c4 c5 c6 n7 nf (uh HO3) (uh HI1) (uh HW1) (uh HSP) (uh HU) (uh HUS) (uh HXX))
                  have hl4:(us ++ [u]).length=k + 1:=by rw [List.length_append,uh HUS];rfl
                  go_wp2
                  go_roundw
                  case rel=>exact ⟨k + 1,us ++ [u],by omega,by go_num,hl4,uh P4⟩
                  case measure=>simp [intOf];omega
                exact AllReadyH.nil
              exact AllReadyH.nil
            exact AllReadyH.nil
          exact AllReadyH.nil
        exact AllReadyH.nil
      · have ki1:¬ (k:Int) < (kids.length:Int):=by omega
        obtain rfl:k=kids.length:=by omega
        have HOWN:=hide hown
        have HUS:=hide hus
        have HB:=hide hbel
        have HI1:=hide hi1
        have HW1:=hide hw1
        have HSP:=hide hsp
        have sXX:=uh SX
        have hmr:mb < wr.heap.size:=by omega
        have hgr:gm < wr.heap.size:=by omega
        clear hown hus hbel hi1 hw1 hsp
        go_wp2_with (at_builtin;refine wpList_fit rowV rfl _ _ rfl X.heap.size gm (kids.length + 1) us ⟨wr.heap.size,0,none⟩ 1 [spV] kids.length 1 (kids.length + 1) (uh HUS) rfl rfl rfl rfl ((uh HOWN).below ((Below.refl _ _).alloc (Nat.le_refl _) _)) (node_src (u:=spV) (box_nw _ _)) (Nat.le_refl _) ?_;intro w3 hown3 hg3;have HO3:=hide hown3;have HG3:=hide hg3;clear hown3 hg3)
        have AL:=(Below.refl wr.heap.size wr).alloc (Nat.le_refl _) (.cells #[.int .i64 0,.string ⟨#[]⟩,.slice none 0 0,.slice none 0 0,.int .i64 0,.int .i64 0,.int .i64 77,.slice none 0 0] 28)
        have s3:=(uh HG3).size
        simp only [size_al] at s3
        have N3:∀ g,g ≠ gm→g < wr.heap.size→∀ o,w3.cell? ⟨g,o,none⟩=wr.cell? ⟨g,o,none⟩:=fun g hg hl o=>(World.cell?_of_block (w:=wr.alloc (.cells #[.int .i64 0,.string ⟨#[]⟩,.slice none 0 0,.slice none 0 0,.int .i64 0,.int .i64 0,.int .i64 77,.slice none 0 0] 28)) (a:=⟨g,o,none⟩) ((uh HG3).block g (by simp only [size_al];omega) (fun e=>by cases e;exact hg rfl))).trans (AL.cell (p:=⟨g,o,none⟩) (by exact hl))
        have bw3:Below X.heap.size X w3:=(below_sub (uh HB) AL).grown (uh HG3) (by simp only [size_al];have:=(uh HB).size;omega) (fun k hk=>by cases hk;exact hne3)
        have n0:=(N3 mb hne1 hmr 0).trans c0
        have n1:=(N3 mb hne1 hmr 1).trans c1
        have n2:=(N3 mb hne1 hmr 2).trans c2
        have n3:=(N3 mb hne1 hmr 3).trans c3
        have n4:=(N3 mb hne1 hmr 4).trans c4
        have n5:=(N3 mb hne1 hmr 5).trans c5
        have n6:=(N3 mb hne1 hmr 6).trans c6
        obtain ⟨_,_,_,_,_,_,_,x7⟩:=of8' ((bw3.block _ (heap_lt (uh HX8))).trans (uh HX8))
        have hz3:=(bw3.block _ (heap_lt (uh XZ))).trans (uh XZ)
        obtain ⟨o0,o1,o2,o3,o4,o5,o6,o7⟩:=of8' hz3
        have rf:∀ o,w3.frozen? ⟨w.heap.size + 1,o,none⟩=false:=fun o=>frozen_free hz3
        have q1:¬ mb=w.heap.size + 1:=by omega
        have q2:¬ w.heap.size + 1=mb:=by omega
        have t1:(0:Int)≤(kids.length:Int):=by omega
        have t4:(kids.length:Int)≤(kids.length:Int) + 1:=by omega
        have BW3:=hide bw3
        have HN3:Hid (∀ g,g ≠ gm→g < wr.heap.size→w3.heap[g]? = wr.heap[g]?):=hide (fun g hg hl=>((uh HG3).block g (by simp only [size_al];omega) (fun e=>by cases e;exact hg rfl)).trans (heap_old hl))
        clear bw3 N3 c0 c1 c2 c3 c4 c5 c6 c7 hcf hz3 AL ki1
        refine wp_region_held_drew (S:=fun w'=>w'.cell? ⟨mb,0,none⟩=some (.int .i64 kind)∧w'.cell? ⟨mb,1,none⟩=some (.string attr)∧w'.cell? ⟨mb,2,none⟩=some (.slice (some ⟨g1,0,none⟩) ints.length k1)∧w'.cell? ⟨mb,3,none⟩=some (.slice (some ⟨g2,0,none⟩) words.length k2)∧w'.cell? ⟨mb,4,none⟩=some (.int .i64 lo)∧w'.cell? ⟨mb,5,none⟩=some (.int .i64 hi)∧w'.cell? ⟨mb,6,none⟩=some (.int .i64 op)∧w'.cell? ⟨w.heap.size,7,none⟩=some (.slice qk kids.length ck)) (by kernel_rfl) ⟨n0,n1,n2,n3,n4,n5,n6,x7⟩ (fun hHeld=>?_)
        refine wpAnyH_take (i:=0) (oi:=⟨some 38,.fieldAddr 28 (.tmp 3) 0,_,_,_,none⟩) (v:=?_) rfl (by kernel_rfl) (by kernel_rfl) (by kernel_rfl) (fun _ _ _ h=>h) (Or.inl ⟨by rfl, ?_⟩) (by assumption) ?_
        rotate_left
        · intro wq hSw
          go_simp
          with_reducible rfl
        simp only [Act.put,List.setIfInBounds_toArray,List.set_cons_zero,List.set_cons_succ]
        refine wpAnyH_take (i:=1) (oi:=⟨some 39,.load 25 (.tmp 38),_,_,_,none⟩) (v:=?_) rfl (by kernel_rfl) (by kernel_rfl) (by kernel_rfl) (fun _ _ _ h=>h) (Or.inl ⟨by rfl, ?_⟩) (by assumption) ?_
        rotate_left
        · intro wq hSw
          go_simp
          with_reducible rfl
        simp only [Act.put,List.setIfInBounds_toArray,List.set_cons_zero,List.set_cons_succ]
        refine wpAnyH_take (i:=2) (oi:=⟨some 40,.fieldAddr 28 (.tmp 3) 1,_,_,_,none⟩) (v:=?_) rfl (by kernel_rfl) (by kernel_rfl) (by kernel_rfl) (fun _ _ _ h=>h) (Or.inl ⟨by rfl, ?_⟩) (by assumption) ?_
        rotate_left
        · intro wq hSw
          go_simp
          with_reducible rfl
        simp only [Act.put,List.setIfInBounds_toArray,List.set_cons_zero,List.set_cons_succ]
        refine wpAnyH_take (i:=3) (oi:=⟨some 41,.load 3 (.tmp 40),_,_,_,none⟩) (v:=?_) rfl (by kernel_rfl) (by kernel_rfl) (by kernel_rfl) (fun _ _ _ h=>h) (Or.inl ⟨by rfl, ?_⟩) (by assumption) ?_
        rotate_left
        · intro wq hSw
          go_simp
          with_reducible rfl
        simp only [Act.put,List.setIfInBounds_toArray,List.set_cons_zero,List.set_cons_succ]
        refine wpAnyH_take (i:=4) (oi:=⟨some 42,.move (.tmp 6),_,_,_,none⟩) (v:=?_) rfl (by kernel_rfl) (by kernel_rfl) (by kernel_rfl) (fun _ _ _ h=>h) (Or.inl ⟨by rfl, ?_⟩) (by assumption) ?_
        rotate_left
        · intro wq hSw
          go_simp
          with_reducible rfl
        simp only [Act.put,List.setIfInBounds_toArray,List.set_cons_zero,List.set_cons_succ]
        refine wpAnyH_take (i:=5) (oi:=⟨some 43,.fieldAddr 28 (.tmp 1) 2,_,_,_,none⟩) (v:=?_) rfl (by kernel_rfl) (by kernel_rfl) (by kernel_rfl) (fun _ _ _ h=>h) (Or.inl ⟨by rfl, ?_⟩) (by assumption) ?_
        rotate_left
        · intro wq hSw
          go_simp
          with_reducible rfl
        simp only [Act.put,List.setIfInBounds_toArray,List.set_cons_zero,List.set_cons_succ]
        refine wpAnyH_take (i:=6) (oi:=⟨some 44,.load 26 (.tmp 43),_,_,_,none⟩) (v:=?_) rfl (by kernel_rfl) (by kernel_rfl) (by kernel_rfl) (fun _ _ _ h=>h) (Or.inl ⟨by rfl, ?_⟩) (by assumption) ?_
        rotate_left
        · intro wq hSw
          go_simp
          with_reducible rfl
        simp only [Act.put,List.setIfInBounds_toArray,List.set_cons_zero,List.set_cons_succ]
        refine wpAnyH_take (i:=7) (oi:=⟨some 45,.call { callee:=.builtin .len,args:=#[.tmp 44],argTypes:=#[26] },_,_,_,none⟩) (v:=?_) rfl (by kernel_rfl) (by kernel_rfl) (by kernel_rfl) (fun _ _ _ h=>h) (Or.inl ⟨by rfl, ?_⟩) (by assumption) ?_
        rotate_left
        · intro wq hSw
          go_simp
          with_reducible rfl
        simp only [Act.put,List.setIfInBounds_toArray,List.set_cons_zero,List.set_cons_succ]
        refine wpAnyH_ready (rs:=[8]) (by kernel_rfl) (by simp) ?_
        refine AllReadyH.cons (o:=⟨some 46,.slice 26 (.tmp 42) none (some (.tmp 45)) none,_,_,_,none⟩) rfl (fun K hK=>?_) ?_
        · go_simp
          refine hK.out _ _ (⟨n0,n1,n2,n3,n4,n5,n6,x7⟩) (fun hHeld=>?_)
          clear hK K
          refine wpAnyH_take (i:=9) (oi:=⟨some 47,.build 28 #[(0,.tmp 39),(1,.tmp 41),(2,.tmp 46)],_,_,_,none⟩) (v:=?_) rfl (by kernel_rfl) (by kernel_rfl) (by kernel_rfl) (fun _ _ _ h=>h) (Or.inl ⟨by rfl, ?_⟩) (by assumption) ?_
          rotate_left
          · intro wq hSw
            go_simp
            with_reducible rfl
          simp only [Act.put,List.setIfInBounds_toArray,List.set_cons_zero,List.set_cons_succ]
          refine wpAnyH_ready (rs:=[10]) (by kernel_rfl) (by simp) ?_
          refine AllReadyH.cons (o:=⟨none,.store 28 (.tmp 2) (.tmp 47),_,_,_,none⟩) rfl (fun K hK=>?_) ?_
          · go_simp
            refine hK.out _ _ (by go_keep) (fun hHeld=>?_)
            clear hK K
            refine wpAnyH_done (by kernel_rfl) ?_ _
            have zu:w.heap.size + 1 < V.heap.size:=by have:=hvb.size;omega
            obtain ⟨⟨y_0,y_1,y_2,y_3,y_4,y_5,y_6,y_7⟩,SPF,BF⟩:=node_final (op:=op) (lo:=lo) (hi:=hi) (kind:=kind) (attr:=attr) (V:=V) (mb:=mb) (uh BX) (uh BW3) sXX (uh HG3) (uh HN3) s3 hne3 hg1n hgX sv2 zu hlen o0 o1 o2 o3 o4 o5 o6 o7 (uh HO3) (uh HI1) (uh HW1) (uh HSP) (uh HUS) r1 z1 r2 z2
            clear n0 n1 n2 n3 n4 n5 n6 x7 o0 o1 o2 o3 o4 o5 o6 o7 rf q1 q2 t1 t4
            go_wp2
            obtain ⟨WF,hWF⟩:∃ WF,((((((((w3.setCell ⟨w.heap.size + 1,0,none⟩ (.int .i64 kind)).setCell ⟨w.heap.size + 1,1,none⟩ (.string attr)).setCell ⟨w.heap.size + 1,2,none⟩ (.slice (some ⟨g1,0,none⟩) ints.length k1)).setCell ⟨w.heap.size + 1,3,none⟩ (.slice (some ⟨g2,0,none⟩) words.length k2)).setCell ⟨w.heap.size + 1,4,none⟩ (.int .i64 lo)).setCell ⟨w.heap.size + 1,5,none⟩ (.int .i64 hi)).setCell ⟨w.heap.size + 1,6,none⟩ (.int .i64 op)).setCell ⟨w.heap.size + 1,7,none⟩ (.slice (some ⟨gm,0,none⟩) kids.length (kids.length + 1)))=WF:=⟨_,rfl⟩
            rw [hWF] at SPF BF y_0 y_1 y_2 y_3 y_4 y_5 y_6 y_7
            rw [hWF]
            have SPF2:=hide SPF
            have BF2:=hide BF
            clear SPF BF hWF HO3 HG3 HN3 BW3 HSP HI1 HW1 HOWN HUS HB
            refine bodyPost_ret (v:=.agg #[.int .i64 kind,.string attr,.slice (some ⟨g1,0,none⟩) ints.length k1,.slice (some ⟨g2,0,none⟩) words.length k2,.int .i64 lo,.int .i64 hi,.int .i64 op,.slice (some ⟨gm,0,none⟩) kids.length (kids.length + 1)]) (by simp [results,Try.results5,go_sem,y_0,y_1,y_2,y_3,y_4,y_5,y_6,y_7]) rfl ⟨⟨⟨kind,attr,some ⟨g1,0,none⟩,ints.length,k1,some ⟨g2,0,none⟩,words.length,k2,lo,hi,op,some ⟨gm,0,none⟩,kids.length,kids.length + 1⟩,rfl,(uh SPF2).keep (Below.refl _ _).drew⟩,(uh BF2).drew⟩

          exact AllReadyH.nil

        exact AllReadyH.nil
  · have zr:=R2.size
    have zs:=hb1.size
    have ug1:g1 < w1.heap.size:=by obtain ⟨b,off,hq,hB,_⟩:=s1.1 (by simp [spI]);cases hq;exact hB
    have ug2:g2 < w1.heap.size:=by obtain ⟨b,off,hq,hB,_⟩:=t1.1 (by simp [spS]);cases hq;exact hB
    have zY:Y.heap.size=X.heap.size + 2:=by rw [hY,drew_heap];simp
    have OW1:OwnK encV 28 8 X.heap.size w1 (some ⟨X.heap.size,0,none⟩) (kids.length + 1) []:=OwnK.below (w:=Y) (by rw [hY];exact World.ownsRow.drew ((ownV (B:=X.heap.size) (w:=X) (Nat.le_refl _) (by unfold maxLen;omega) hcs).below ((Below.refl _ _).alloc (Nat.le_refl _) _))) hb1
    have hvo:OwnK encV 28 8 X.heap.size ((((((((w1.setCell ⟨X.heap.size + 1,0,none⟩ (.int .i64 kind)).setCell ⟨X.heap.size + 1,1,none⟩ (.string attr)).setCell ⟨X.heap.size + 1,2,none⟩ (.slice (some ⟨g1,0,none⟩) ints.length k1)).setCell ⟨X.heap.size + 1,3,none⟩ (.slice (some ⟨g2,0,none⟩) words.length k2)).setCell ⟨X.heap.size + 1,4,none⟩ (.int .i64 lo)).setCell ⟨X.heap.size + 1,5,none⟩ (.int .i64 hi)).setCell ⟨X.heap.size + 1,6,none⟩ (.int .i64 op)).setCell ⟨X.heap.size + 1,7,none⟩ (.slice (some ⟨X.heap.size,0,none⟩) 0 (kids.length + 1))) (some ⟨X.heap.size,0,none⟩) (kids.length + 1) []:=(OwnK.setOther (OwnK.setOther (OwnK.setOther (OwnK.setOther (OwnK.setOther (OwnK.setOther (OwnK.setOther (OwnK.setOther OW1 (by first | (simp;done) | (simp;omega)) _) (by first | (simp;done) | (simp;omega)) _) (by first | (simp;done) | (simp;omega)) _) (by first | (simp;done) | (simp;omega)) _) (by first | (simp;done) | (simp;omega)) _) (by first | (simp;done) | (simp;omega)) _) (by first | (simp;done) | (simp;omega)) _) (by first | (simp;done) | (simp;omega)) _)
    have hvb:Below X.heap.size X ((((((((w1.setCell ⟨X.heap.size + 1,0,none⟩ (.int .i64 kind)).setCell ⟨X.heap.size + 1,1,none⟩ (.string attr)).setCell ⟨X.heap.size + 1,2,none⟩ (.slice (some ⟨g1,0,none⟩) ints.length k1)).setCell ⟨X.heap.size + 1,3,none⟩ (.slice (some ⟨g2,0,none⟩) words.length k2)).setCell ⟨X.heap.size + 1,4,none⟩ (.int .i64 lo)).setCell ⟨X.heap.size + 1,5,none⟩ (.int .i64 hi)).setCell ⟨X.heap.size + 1,6,none⟩ (.int .i64 op)).setCell ⟨X.heap.size + 1,7,none⟩ (.slice (some ⟨X.heap.size,0,none⟩) 0 (kids.length + 1))):=set8_below R2 (by omega) _ _ _ _ _ _ _ _
    have hvi:LsB encI 3 1 ((((((((w1.setCell ⟨X.heap.size + 1,0,none⟩ (.int .i64 kind)).setCell ⟨X.heap.size + 1,1,none⟩ (.string attr)).setCell ⟨X.heap.size + 1,2,none⟩ (.slice (some ⟨g1,0,none⟩) ints.length k1)).setCell ⟨X.heap.size + 1,3,none⟩ (.slice (some ⟨g2,0,none⟩) words.length k2)).setCell ⟨X.heap.size + 1,4,none⟩ (.int .i64 lo)).setCell ⟨X.heap.size + 1,5,none⟩ (.int .i64 hi)).setCell ⟨X.heap.size + 1,6,none⟩ (.int .i64 op)).setCell ⟨X.heap.size + 1,7,none⟩ (.slice (some ⟨X.heap.size,0,none⟩) 0 (kids.length + 1))) g1 k1 (ints ++ spI):=(LsB.setOther (LsB.setOther (LsB.setOther (LsB.setOther (LsB.setOther (LsB.setOther (LsB.setOther (LsB.setOther s1 (by omega) _ _) (by omega) _ _) (by omega) _ _) (by omega) _ _) (by omega) _ _) (by omega) _ _) (by omega) _ _) (by omega) _ _)
    have hvw:LsB encS 9 1 ((((((((w1.setCell ⟨X.heap.size + 1,0,none⟩ (.int .i64 kind)).setCell ⟨X.heap.size + 1,1,none⟩ (.string attr)).setCell ⟨X.heap.size + 1,2,none⟩ (.slice (some ⟨g1,0,none⟩) ints.length k1)).setCell ⟨X.heap.size + 1,3,none⟩ (.slice (some ⟨g2,0,none⟩) words.length k2)).setCell ⟨X.heap.size + 1,4,none⟩ (.int .i64 lo)).setCell ⟨X.heap.size + 1,5,none⟩ (.int .i64 hi)).setCell ⟨X.heap.size + 1,6,none⟩ (.int .i64 op)).setCell ⟨X.heap.size + 1,7,none⟩ (.slice (some ⟨X.heap.size,0,none⟩) 0 (kids.length + 1))) g2 k2 (words ++ spS):=(LsB.setOther (LsB.setOther (LsB.setOther (LsB.setOther (LsB.setOther (LsB.setOther (LsB.setOther (LsB.setOther t1 (by omega) _ _) (by omega) _ _) (by omega) _ _) (by omega) _ _) (by omega) _ _) (by omega) _ _) (by omega) _ _) (by omega) _ _)
    have v0:((((((((w1.setCell ⟨X.heap.size + 1,0,none⟩ (.int .i64 kind)).setCell ⟨X.heap.size + 1,1,none⟩ (.string attr)).setCell ⟨X.heap.size + 1,2,none⟩ (.slice (some ⟨g1,0,none⟩) ints.length k1)).setCell ⟨X.heap.size + 1,3,none⟩ (.slice (some ⟨g2,0,none⟩) words.length k2)).setCell ⟨X.heap.size + 1,4,none⟩ (.int .i64 lo)).setCell ⟨X.heap.size + 1,5,none⟩ (.int .i64 hi)).setCell ⟨X.heap.size + 1,6,none⟩ (.int .i64 op)).setCell ⟨X.heap.size + 1,7,none⟩ (.slice (some ⟨X.heap.size,0,none⟩) 0 (kids.length + 1))).cell? ⟨X.heap.size + 1,0,none⟩=some (.int .i64 kind):=by go_simp
    have v1:((((((((w1.setCell ⟨X.heap.size + 1,0,none⟩ (.int .i64 kind)).setCell ⟨X.heap.size + 1,1,none⟩ (.string attr)).setCell ⟨X.heap.size + 1,2,none⟩ (.slice (some ⟨g1,0,none⟩) ints.length k1)).setCell ⟨X.heap.size + 1,3,none⟩ (.slice (some ⟨g2,0,none⟩) words.length k2)).setCell ⟨X.heap.size + 1,4,none⟩ (.int .i64 lo)).setCell ⟨X.heap.size + 1,5,none⟩ (.int .i64 hi)).setCell ⟨X.heap.size + 1,6,none⟩ (.int .i64 op)).setCell ⟨X.heap.size + 1,7,none⟩ (.slice (some ⟨X.heap.size,0,none⟩) 0 (kids.length + 1))).cell? ⟨X.heap.size + 1,1,none⟩=some (.string attr):=by go_simp
    have v2:((((((((w1.setCell ⟨X.heap.size + 1,0,none⟩ (.int .i64 kind)).setCell ⟨X.heap.size + 1,1,none⟩ (.string attr)).setCell ⟨X.heap.size + 1,2,none⟩ (.slice (some ⟨g1,0,none⟩) ints.length k1)).setCell ⟨X.heap.size + 1,3,none⟩ (.slice (some ⟨g2,0,none⟩) words.length k2)).setCell ⟨X.heap.size + 1,4,none⟩ (.int .i64 lo)).setCell ⟨X.heap.size + 1,5,none⟩ (.int .i64 hi)).setCell ⟨X.heap.size + 1,6,none⟩ (.int .i64 op)).setCell ⟨X.heap.size + 1,7,none⟩ (.slice (some ⟨X.heap.size,0,none⟩) 0 (kids.length + 1))).cell? ⟨X.heap.size + 1,2,none⟩=some (.slice (some ⟨g1,0,none⟩) ints.length k1):=by go_simp
    have v3:((((((((w1.setCell ⟨X.heap.size + 1,0,none⟩ (.int .i64 kind)).setCell ⟨X.heap.size + 1,1,none⟩ (.string attr)).setCell ⟨X.heap.size + 1,2,none⟩ (.slice (some ⟨g1,0,none⟩) ints.length k1)).setCell ⟨X.heap.size + 1,3,none⟩ (.slice (some ⟨g2,0,none⟩) words.length k2)).setCell ⟨X.heap.size + 1,4,none⟩ (.int .i64 lo)).setCell ⟨X.heap.size + 1,5,none⟩ (.int .i64 hi)).setCell ⟨X.heap.size + 1,6,none⟩ (.int .i64 op)).setCell ⟨X.heap.size + 1,7,none⟩ (.slice (some ⟨X.heap.size,0,none⟩) 0 (kids.length + 1))).cell? ⟨X.heap.size + 1,3,none⟩=some (.slice (some ⟨g2,0,none⟩) words.length k2):=by go_simp
    have v4:((((((((w1.setCell ⟨X.heap.size + 1,0,none⟩ (.int .i64 kind)).setCell ⟨X.heap.size + 1,1,none⟩ (.string attr)).setCell ⟨X.heap.size + 1,2,none⟩ (.slice (some ⟨g1,0,none⟩) ints.length k1)).setCell ⟨X.heap.size + 1,3,none⟩ (.slice (some ⟨g2,0,none⟩) words.length k2)).setCell ⟨X.heap.size + 1,4,none⟩ (.int .i64 lo)).setCell ⟨X.heap.size + 1,5,none⟩ (.int .i64 hi)).setCell ⟨X.heap.size + 1,6,none⟩ (.int .i64 op)).setCell ⟨X.heap.size + 1,7,none⟩ (.slice (some ⟨X.heap.size,0,none⟩) 0 (kids.length + 1))).cell? ⟨X.heap.size + 1,4,none⟩=some (.int .i64 lo):=by go_simp
    have v5:((((((((w1.setCell ⟨X.heap.size + 1,0,none⟩ (.int .i64 kind)).setCell ⟨X.heap.size + 1,1,none⟩ (.string attr)).setCell ⟨X.heap.size + 1,2,none⟩ (.slice (some ⟨g1,0,none⟩) ints.length k1)).setCell ⟨X.heap.size + 1,3,none⟩ (.slice (some ⟨g2,0,none⟩) words.length k2)).setCell ⟨X.heap.size + 1,4,none⟩ (.int .i64 lo)).setCell ⟨X.heap.size + 1,5,none⟩ (.int .i64 hi)).setCell ⟨X.heap.size + 1,6,none⟩ (.int .i64 op)).setCell ⟨X.heap.size + 1,7,none⟩ (.slice (some ⟨X.heap.size,0,none⟩) 0 (kids.length + 1))).cell? ⟨X.heap.size + 1,5,none⟩=some (.int .i64 hi):=by go_simp
    have v6:((((((((w1.setCell ⟨X.heap.size + 1,0,none⟩ (.int .i64 kind)).setCell ⟨X.heap.size + 1,1,none⟩ (.string attr)).setCell ⟨X.heap.size + 1,2,none⟩ (.slice (some ⟨g1,0,none⟩) ints.length k1)).setCell ⟨X.heap.size + 1,3,none⟩ (.slice (some ⟨g2,0,none⟩) words.length k2)).setCell ⟨X.heap.size + 1,4,none⟩ (.int .i64 lo)).setCell ⟨X.heap.size + 1,5,none⟩ (.int .i64 hi)).setCell ⟨X.heap.size + 1,6,none⟩ (.int .i64 op)).setCell ⟨X.heap.size + 1,7,none⟩ (.slice (some ⟨X.heap.size,0,none⟩) 0 (kids.length + 1))).cell? ⟨X.heap.size + 1,6,none⟩=some (.int .i64 op):=by go_simp
    have v7:((((((((w1.setCell ⟨X.heap.size + 1,0,none⟩ (.int .i64 kind)).setCell ⟨X.heap.size + 1,1,none⟩ (.string attr)).setCell ⟨X.heap.size + 1,2,none⟩ (.slice (some ⟨g1,0,none⟩) ints.length k1)).setCell ⟨X.heap.size + 1,3,none⟩ (.slice (some ⟨g2,0,none⟩) words.length k2)).setCell ⟨X.heap.size + 1,4,none⟩ (.int .i64 lo)).setCell ⟨X.heap.size + 1,5,none⟩ (.int .i64 hi)).setCell ⟨X.heap.size + 1,6,none⟩ (.int .i64 op)).setCell ⟨X.heap.size + 1,7,none⟩ (.slice (some ⟨X.heap.size,0,none⟩) 0 (kids.length + 1))).cell? ⟨X.heap.size + 1,7,none⟩=some (.slice (some ⟨X.heap.size,0,none⟩) 0 (kids.length + 1)):=by go_simp
    have vf:∀ o,((((((((w1.setCell ⟨X.heap.size + 1,0,none⟩ (.int .i64 kind)).setCell ⟨X.heap.size + 1,1,none⟩ (.string attr)).setCell ⟨X.heap.size + 1,2,none⟩ (.slice (some ⟨g1,0,none⟩) ints.length k1)).setCell ⟨X.heap.size + 1,3,none⟩ (.slice (some ⟨g2,0,none⟩) words.length k2)).setCell ⟨X.heap.size + 1,4,none⟩ (.int .i64 lo)).setCell ⟨X.heap.size + 1,5,none⟩ (.int .i64 hi)).setCell ⟨X.heap.size + 1,6,none⟩ (.int .i64 op)).setCell ⟨X.heap.size + 1,7,none⟩ (.slice (some ⟨X.heap.size,0,none⟩) 0 (kids.length + 1))).frozen? ⟨X.heap.size + 1,o,none⟩=false:=fun o=>by go_simp
    have sv:X.heap.size + 1 < ((((((((w1.setCell ⟨X.heap.size + 1,0,none⟩ (.int .i64 kind)).setCell ⟨X.heap.size + 1,1,none⟩ (.string attr)).setCell ⟨X.heap.size + 1,2,none⟩ (.slice (some ⟨g1,0,none⟩) ints.length k1)).setCell ⟨X.heap.size + 1,3,none⟩ (.slice (some ⟨g2,0,none⟩) words.length k2)).setCell ⟨X.heap.size + 1,4,none⟩ (.int .i64 lo)).setCell ⟨X.heap.size + 1,5,none⟩ (.int .i64 hi)).setCell ⟨X.heap.size + 1,6,none⟩ (.int .i64 op)).setCell ⟨X.heap.size + 1,7,none⟩ (.slice (some ⟨X.heap.size,0,none⟩) 0 (kids.length + 1))).heap.size∧X.heap.size < ((((((((w1.setCell ⟨X.heap.size + 1,0,none⟩ (.int .i64 kind)).setCell ⟨X.heap.size + 1,1,none⟩ (.string attr)).setCell ⟨X.heap.size + 1,2,none⟩ (.slice (some ⟨g1,0,none⟩) ints.length k1)).setCell ⟨X.heap.size + 1,3,none⟩ (.slice (some ⟨g2,0,none⟩) words.length k2)).setCell ⟨X.heap.size + 1,4,none⟩ (.int .i64 lo)).setCell ⟨X.heap.size + 1,5,none⟩ (.int .i64 hi)).setCell ⟨X.heap.size + 1,6,none⟩ (.int .i64 op)).setCell ⟨X.heap.size + 1,7,none⟩ (.slice (some ⟨X.heap.size,0,none⟩) 0 (kids.length + 1))).heap.size∧w1.heap.size≤((((((((w1.setCell ⟨X.heap.size + 1,0,none⟩ (.int .i64 kind)).setCell ⟨X.heap.size + 1,1,none⟩ (.string attr)).setCell ⟨X.heap.size + 1,2,none⟩ (.slice (some ⟨g1,0,none⟩) ints.length k1)).setCell ⟨X.heap.size + 1,3,none⟩ (.slice (some ⟨g2,0,none⟩) words.length k2)).setCell ⟨X.heap.size + 1,4,none⟩ (.int .i64 lo)).setCell ⟨X.heap.size + 1,5,none⟩ (.int .i64 hi)).setCell ⟨X.heap.size + 1,6,none⟩ (.int .i64 op)).setCell ⟨X.heap.size + 1,7,none⟩ (.slice (some ⟨X.heap.size,0,none⟩) 0 (kids.length + 1))).heap.size:=by refine ⟨?_, ?_, ?_⟩ <;> simp <;> omega
    obtain ⟨V,hV⟩:∃ V,((((((((w1.setCell ⟨X.heap.size + 1,0,none⟩ (.int .i64 kind)).setCell ⟨X.heap.size + 1,1,none⟩ (.string attr)).setCell ⟨X.heap.size + 1,2,none⟩ (.slice (some ⟨g1,0,none⟩) ints.length k1)).setCell ⟨X.heap.size + 1,3,none⟩ (.slice (some ⟨g2,0,none⟩) words.length k2)).setCell ⟨X.heap.size + 1,4,none⟩ (.int .i64 lo)).setCell ⟨X.heap.size + 1,5,none⟩ (.int .i64 hi)).setCell ⟨X.heap.size + 1,6,none⟩ (.int .i64 op)).setCell ⟨X.heap.size + 1,7,none⟩ (.slice (some ⟨X.heap.size,0,none⟩) 0 (kids.length + 1)))=V:=⟨_,rfl⟩
    obtain ⟨mb,hmb⟩:∃ mb,X.heap.size + 1=mb:=⟨_,rfl⟩
    obtain ⟨gm,hgm⟩:∃ gm,X.heap.size=gm:=⟨_,rfl⟩
    have hne1:mb ≠ gm:=by omega
    have hne2:X.heap.size≤mb:=by omega
    have hne3:X.heap.size≤gm:=by omega
    obtain ⟨sv1,sv2,_⟩:=sv
    have hg1n:g1 ≠ mb∧g1 ≠ gm∧g2 ≠ mb∧g2 ≠ gm:=(by refine ⟨?_, ?_, ?_, ?_⟩ <;> omega)
    have hgX:X.heap.size≤g1∧X.heap.size≤g2:=by omega
    rw [hV] at hvo hvb hvi hvw v0 v1 v2 v3 v4 v5 v6 v7 vf sv1 sv2
    rw [hV]
    rw [hmb] at v0 v1 v2 v3 v4 v5 v6 v7 vf sv1
    rw [hmb]
    rw [hgm] at hvo v7 sv2
    rw [hgm]
    have HX8:=hide (uh X8)
    clear hV hmb hgm s1 t1 hb1 R2 bY hY zr zs zY KS c0 c1 c2 c3 c4 c5 c6 c7 dX hmk3
    go_loopw [21] (fun i wr=>∃ (k:Nat) (us:List Nv),k≤kids.length∧i=.int .i64 k∧us.length=k∧Below X.heap.size X wr∧V.heap.size≤wr.heap.size∧(wr.cell? ⟨mb,0,none⟩=some (.int .i64 kind)∧wr.cell? ⟨mb,1,none⟩=some (.string attr)∧wr.cell? ⟨mb,2,none⟩=some (.slice (some ⟨g1,0,none⟩) ints.length k1)∧wr.cell? ⟨mb,3,none⟩=some (.slice (some ⟨g2,0,none⟩) words.length k2)∧wr.cell? ⟨mb,4,none⟩=some (.int .i64 lo)∧wr.cell? ⟨mb,5,none⟩=some (.int .i64 hi)∧wr.cell? ⟨mb,6,none⟩=some (.int .i64 op)∧wr.cell? ⟨mb,7,none⟩=some (.slice (some ⟨gm,0,none⟩) k (kids.length + 1)))∧(∀ o,wr.frozen? ⟨mb,o,none⟩=false)∧OwnK encV 28 8 X.heap.size wr (some ⟨gm,0,none⟩) (kids.length + 1) us∧LsB encI 3 1 wr g1 k1 (ints ++ spI)∧LsB encS 9 1 wr g2 k2 (words ++ spS)∧∀ (j:Nat) (v:Nv) (x:Nd),us[j]? = some v→kids[j]? = some x→SpIn wr V.heap.size v x) (fun i _=>kids.length - (intOf i).toNat)
    case atStart=>exact ⟨0,[],by omega,rfl,rfl,hvb,Nat.le_refl _,⟨v0,v1,v2,v3,v4,v5,v6,v7⟩,vf,OwnK.mono hvo (by omega),hvi,hvw,fun j v x h=>by simp at h⟩
    case round =>
      obtain ⟨k,us,hkk,rfl,hus,hbel,hVs,⟨c0,c1,c2,c3,c4,c5,c6,c7⟩,hcf,hown,hi1,hw1,hsp⟩:=hrel
      clear v0 v1 v2 v3 v4 v5 v6 v7 vf hvo hvi hvw
      by_cases hlt:k < kids.length
      · obtain ⟨x,hx,hd⟩:=get_at hlt
        clear hd
        obtain ⟨b,off,v,hq,hin,e0,e1,e2,e3,e4,e5,e6,e7⟩:=(uh HKX).on hx hbel
        subst hq
        have hxm:x ∈ kids:=List.mem_of_getElem? hx
        have ki0:(0:Int)≤(k:Int):=by omega
        have ki1:(k:Int) < (kids.length:Int):=by omega
        have HOWN:=hide hown
        have HI1:=hide hi1
        have HW1:=hide hw1
        have HSP:=hide hsp
        have HIN:=hide hin
        have HXX:=hide hx
        have HUS:=hide hus
        have HB:=hide hbel
        have hTT:=uh IH x hxm v
        have hwx:=Nat.le_trans (wtL_mem hxm) l3
        clear hown hi1 hw1 hsp hin hx hus hxm hbel
        go_wp2
        obtain ⟨Z,hZ⟩:∃ Z,wr.alloc (.cells #[.int .i64 v.kind,.string v.attr,.slice v.qi v.ni v.ci,.slice v.qw v.nw v.cw,.int .i64 v.lo,.int .i64 v.hi,.int .i64 v.op,.slice v.qk v.nk v.ck] 28)=Z:=⟨_,rfl⟩
        rw [hZ]
        have zk:Z.heap[wr.heap.size]? = some (.cells #[.int .i64 v.kind,.string v.attr,.slice v.qi v.ni v.ci,.slice v.qw v.nw v.cw,.int .i64 v.lo,.int .i64 v.hi,.int .i64 v.op,.slice v.qk v.nk v.ck] 28 (0,0)):=by rw [← hZ];exact box_nw _ _
        have bZ:Below wr.heap.size wr Z:=by rw [← hZ];exact (Below.refl _ _).alloc (Nat.le_refl _) _
        have sZ:Z.heap.size=wr.heap.size + 1:=by rw [← hZ];simp
        have hmr:mb < wr.heap.size:=by omega
        have hgr:gm < wr.heap.size:=by omega
        have q7:Z.cell? ⟨mb,7,none⟩=some (.slice (some ⟨gm,0,none⟩) k (kids.length + 1)):=(bZ.cell (p:=⟨mb,7,none⟩) (by exact hmr)).trans c7
        have qf:∀ o,Z.frozen? ⟨mb,o,none⟩=false:=fun o=>(bZ.frozen (by exact hmr)).trans (hcf o)
        have KS2:∀ W:World,(∀ o,W.cell? ⟨wr.heap.size,o,none⟩=Z.cell? ⟨wr.heap.size,o,none⟩)→(fun w'=>w'.cell? ⟨wr.heap.size,0,none⟩=some (.int .i64 v.kind)∧w'.cell? ⟨wr.heap.size,1,none⟩=some (.string v.attr)∧w'.cell? ⟨wr.heap.size,2,none⟩=some (.slice v.qi v.ni v.ci)∧w'.cell? ⟨wr.heap.size,3,none⟩=some (.slice v.qw v.nw v.cw)∧w'.cell? ⟨wr.heap.size,4,none⟩=some (.int .i64 v.lo)∧w'.cell? ⟨wr.heap.size,5,none⟩=some (.int .i64 v.hi)∧w'.cell? ⟨wr.heap.size,6,none⟩=some (.int .i64 v.op)∧w'.cell? ⟨wr.heap.size,7,none⟩=some (.slice v.qk v.nk v.ck)) W:=fun W hb=>by
          obtain ⟨a0,a1,a2,a3,a4,a5,a6,a7⟩:=of8' zk
          exact ⟨(hb 0).trans a0,(hb 1).trans a1,(hb 2).trans a2,(hb 3).trans a3,(hb 4).trans a4,(hb 5).trans a5,(hb 6).trans a6,(hb 7).trans a7⟩
        have E0:∀ o,Z.drew.cell? ⟨wr.heap.size,o,none⟩=Z.cell? ⟨wr.heap.size,o,none⟩:=fun o=>rfl
        obtain ⟨f0,f1,f2,f3,f4,f5,f6,f7⟩:=KS2 Z (fun o=>rfl)
        have hNd:=hTT Z.drew ((uh HIN).keep bZ.drew) hwx
        simp only [Nv.val] at hNd
        have ZK:=hide zk
        have HO2:=hide ((uh HOWN).below bZ)
        have hnn:¬ wr.heap.size=mb:=by omega
        clear e0 e1 e2 e3 e4 e5 e6 e7 zk hTT hwx
        refine wp_region_held_drew (S:=fun w'=>w'.cell? ⟨wr.heap.size,0,none⟩=some (.int .i64 v.kind)∧w'.cell? ⟨wr.heap.size,1,none⟩=some (.string v.attr)∧w'.cell? ⟨wr.heap.size,2,none⟩=some (.slice v.qi v.ni v.ci)∧w'.cell? ⟨wr.heap.size,3,none⟩=some (.slice v.qw v.nw v.cw)∧w'.cell? ⟨wr.heap.size,4,none⟩=some (.int .i64 v.lo)∧w'.cell? ⟨wr.heap.size,5,none⟩=some (.int .i64 v.hi)∧w'.cell? ⟨wr.heap.size,6,none⟩=some (.int .i64 v.op)∧w'.cell? ⟨wr.heap.size,7,none⟩=some (.slice v.qk v.nk v.ck)) (by kernel_rfl) (KS2 _ E0) (fun hHeld=>?_)
        refine wpAnyH_take (i:=0) (oi:=⟨some 25,.fieldAddr 28 (.tmp 3) 2,_,_,_,none⟩) (v:=?_) rfl (by kernel_rfl) (by kernel_rfl) (by kernel_rfl) (fun _ _ _ h=>h) (Or.inl ⟨by rfl, ?_⟩) (by assumption) ?_
        rotate_left
        · intro w hSw
          go_simp
          with_reducible rfl
        simp only [Act.put,List.setIfInBounds_toArray,List.set_cons_zero,List.set_cons_succ]
        refine wpAnyH_take (i:=2) (oi:=⟨some 27,.load 28 (.tmp 5),_,_,_,none⟩) (v:=?_) rfl (by kernel_rfl) (by kernel_rfl) (by kernel_rfl) (fun _ _ _ h=>h) (Or.inl ⟨by rfl, ?_⟩) (by assumption) ?_
        rotate_left
        · intro w hSw
          go_simp
          with_reducible rfl
        simp only [Act.put,List.setIfInBounds_toArray,List.set_cons_zero,List.set_cons_succ]
        refine wpAnyH_ready (rs:=[1,3]) (by kernel_rfl) (by simp) ?_
        refine AllReadyH.cons (o:=⟨some 26,.load 26 (.tmp 25),_,_,_,none⟩) rfl (fun K hK=>?_) ?_
        · go_simp
          refine hK.out _ _ (KS2 _ E0) (fun hHeld=>?_)
          clear hK K
          skip
          refine wpAnyH_ready (rs:=[3]) (by kernel_rfl) (by simp) ?_
          refine AllReadyH.cons (o:=⟨some 28,.call { callee:=.value (.func 5),args:=#[.tmp 27],argTypes:=#[28] },_,_,_,none⟩) rfl (fun K hK=>?_) ?_
          · go_simp
            refine hNd.mono ?_
            rintro e w2 ⟨⟨u,rfl,hu⟩,hb2⟩
            simp only
            have R3:Below Z.heap.size Z w2:=below_undrewM hb2
            have s2:=R3.size
            have E2:∀ o,w2.cell? ⟨wr.heap.size,o,none⟩=Z.cell? ⟨wr.heap.size,o,none⟩:=fun o=>R3.cell (p:=⟨wr.heap.size,o,none⟩) (by simp only;omega)
            have m7:w2.cell? ⟨mb,7,none⟩=some (.slice (some ⟨gm,0,none⟩) k (kids.length + 1)):=(R3.cell (p:=⟨mb,7,none⟩) (by simp only;omega)).trans q7
            have mf:∀ o,w2.frozen? ⟨mb,o,none⟩=false:=fun o=>(R3.frozen (by simp only;omega)).trans (qf o)
            have lm2:mb < w2.heap.size:=by omega
            have nm2:¬ mb=w2.heap.size:=by omega
            have E2a:∀ o,(w2.alloc (.cells #[.int .i64 u.kind,.string u.attr,.slice u.qi u.ni u.ci,.slice u.qw u.nw u.cw,.int .i64 u.lo,.int .i64 u.hi,.int .i64 u.op,.slice u.qk u.nk u.ck] 28)).cell? ⟨wr.heap.size,o,none⟩=Z.cell? ⟨wr.heap.size,o,none⟩:=fun o=>(((Below.refl w2.heap.size w2).alloc (Nat.le_refl _) _).cell (p:=⟨wr.heap.size,o,none⟩) (by simp only;omega)).trans (E2 o)
            have HU:=hide hu
            clear hu hb2
            refine hK.out _ _ (KS2 _ E2) (fun hHeld=>?_)
            clear hK K
            skip
            refine wpAnyH_ready (rs:=[4]) (by kernel_rfl) (by simp) ?_
            refine AllReadyH.cons (o:=⟨some 29,.buildSlice 26 1 #[(0,.tmp 28)],_,_,_,none⟩) rfl (fun K hK=>?_) ?_
            · go_simp
              refine hK.out _ _ (KS2 _ E2a) (fun hHeld=>?_)
              clear hK K
              skip
              refine wpAnyH_ready (rs:=[5]) (by kernel_rfl) (by simp) ?_
              refine AllReadyH.cons (o:=⟨some 30,.call { callee:=.builtin .append,args:=#[.tmp 26,.tmp 29],argTypes:=#[26,26] },_,_,_,none⟩) rfl (fun K hK=>?_) ?_
              · refine step_fit rowV (by rfl) (.tmp 26) (.tmp 29) (by rfl) X.heap.size gm (kids.length + 1) us ⟨w2.heap.size,0,none⟩ 1 [u] k 1 (k + 1) (uh HUS) rfl rfl (by rfl) (by rfl) (((uh HO2).below R3).below ((Below.refl _ _).alloc (Nat.le_refl _) _)) (node_src (box_nw _ _)) (by omega) ?_
                intro w3 hown3 hg3
                have s3:=hg3.size
                simp only [size_al] at s3
                have E3:∀ o,w3.cell? ⟨wr.heap.size,o,none⟩=Z.cell? ⟨wr.heap.size,o,none⟩:=fun o=>(World.cell?_of_block (w:=w2.alloc (.cells #[.int .i64 u.kind,.string u.attr,.slice u.qi u.ni u.ci,.slice u.qw u.nw u.cw,.int .i64 u.lo,.int .i64 u.hi,.int .i64 u.op,.slice u.qk u.nk u.ck] 28)) (a:=⟨wr.heap.size,o,none⟩) (hg3.block wr.heap.size (by simp only [size_al];omega) (fun e=>by cases e;omega))).trans (E2a o)
                have n7:w3.cell? ⟨mb,7,none⟩=some (.slice (some ⟨gm,0,none⟩) k (kids.length + 1)):=(World.cell?_of_block (w:=w2.alloc (.cells #[.int .i64 u.kind,.string u.attr,.slice u.qi u.ni u.ci,.slice u.qw u.nw u.cw,.int .i64 u.lo,.int .i64 u.hi,.int .i64 u.op,.slice u.qk u.nk u.ck] 28)) (a:=⟨mb,7,none⟩) (hg3.block mb (by simp only [size_al];omega) (fun e=>by cases e;omega))).trans ((((Below.refl w2.heap.size w2).alloc (Nat.le_refl _) _).cell (p:=⟨mb,7,none⟩) (by exact lm2)).trans m7)
                have nf:∀ o,w3.frozen? ⟨mb,o,none⟩=false:=fun o=>frz hg3 (by simp only [size_al];omega) (by omega) ((((Below.refl w2.heap.size w2).alloc (Nat.le_refl _) _).frozen (by exact lm2)).trans (mf o))
                have HO3:=hide hown3
                have HG3:=hide hg3
                clear hown3 hg3
                refine hK.out _ _ (KS2 _ E3) (fun hHeld=>?_)
                clear hK K
                simp only [Act.put,List.setIfInBounds_toArray,List.set_cons_zero,List.set_cons_succ]
                refine wpAnyH_take (i:=6) (oi:=⟨some 31,.fieldAddr 28 (.tmp 3) 2,_,_,_,none⟩) (v:=?_) rfl (by kernel_rfl) (by kernel_rfl) (by kernel_rfl) (fun _ _ _ h=>h) (Or.inl ⟨by rfl, ?_⟩) (by assumption) ?_
                rotate_left
                · intro w hSw
                  go_simp
                  with_reducible rfl
                simp only [Act.put,List.setIfInBounds_toArray,List.set_cons_zero,List.set_cons_succ]
                refine wpAnyH_ready (rs:=[7]) (by kernel_rfl) (by simp) ?_
                refine AllReadyH.cons (o:=⟨none,.store 26 (.tmp 31) (.tmp 30),_,_,_,none⟩) rfl (fun K hK=>?_) ?_
                · go_simp
                  refine hK.out _ _ (KS2 _ (fun o=>(set_other _ (by omega) o 7 _).trans (E3 o))) (fun hHeld=>?_)
                  clear hK K
                  skip
                  refine wpAnyH_done (by kernel_rfl) ?_ _
                  have P4:=hide (node_round (V:=V) (uh HB) bZ R3 (uh HG3) hne1 hne2 hne3 hg1n sv1 sv2 hVs sZ c0 c1 c2 c3 c4 c5 c6 n7 nf (uh HO3) (uh HI1) (uh HW1) (uh HSP) (uh HU) (uh HUS) (uh HXX))
                  have hl4:(us ++ [u]).length=k + 1:=by rw [List.length_append,uh HUS];rfl
                  go_wp2
                  go_roundw
                  case rel=>exact ⟨k + 1,us ++ [u],by omega,by go_num,hl4,uh P4⟩
                  case measure=>simp [intOf];omega
                exact AllReadyH.nil
              exact AllReadyH.nil
            exact AllReadyH.nil
          exact AllReadyH.nil
        refine AllReadyH.cons (o:=⟨some 28,.call { callee:=.value (.func 5),args:=#[.tmp 27],argTypes:=#[28] },_,_,_,none⟩) rfl (fun K hK=>?_) ?_
        · go_simp
          refine hNd.mono ?_
          rintro e w2 ⟨⟨u,rfl,hu⟩,hb2⟩
          simp only
          have R3:Below Z.heap.size Z w2:=below_undrewM hb2
          have s2:=R3.size
          have E2:∀ o,w2.cell? ⟨wr.heap.size,o,none⟩=Z.cell? ⟨wr.heap.size,o,none⟩:=fun o=>R3.cell (p:=⟨wr.heap.size,o,none⟩) (by simp only;omega)
          have m7:w2.cell? ⟨mb,7,none⟩=some (.slice (some ⟨gm,0,none⟩) k (kids.length + 1)):=(R3.cell (p:=⟨mb,7,none⟩) (by simp only;omega)).trans q7
          have mf:∀ o,w2.frozen? ⟨mb,o,none⟩=false:=fun o=>(R3.frozen (by simp only;omega)).trans (qf o)
          have lm2:mb < w2.heap.size:=by omega
          have nm2:¬ mb=w2.heap.size:=by omega
          have E2a:∀ o,(w2.alloc (.cells #[.int .i64 u.kind,.string u.attr,.slice u.qi u.ni u.ci,.slice u.qw u.nw u.cw,.int .i64 u.lo,.int .i64 u.hi,.int .i64 u.op,.slice u.qk u.nk u.ck] 28)).cell? ⟨wr.heap.size,o,none⟩=Z.cell? ⟨wr.heap.size,o,none⟩:=fun o=>(((Below.refl w2.heap.size w2).alloc (Nat.le_refl _) _).cell (p:=⟨wr.heap.size,o,none⟩) (by simp only;omega)).trans (E2 o)
          have HU:=hide hu
          clear hu hb2
          refine hK.out _ _ (KS2 _ E2) (fun hHeld=>?_)
          clear hK K
          skip
          refine wpAnyH_ready (rs:=[1,4]) (by kernel_rfl) (by simp) ?_
          refine AllReadyH.cons (o:=⟨some 26,.load 26 (.tmp 25),_,_,_,none⟩) rfl (fun K hK=>?_) ?_
          · go_simp
            refine hK.out _ _ (KS2 _ E2) (fun hHeld=>?_)
            clear hK K
            skip
            refine wpAnyH_ready (rs:=[4]) (by kernel_rfl) (by simp) ?_
            refine AllReadyH.cons (o:=⟨some 29,.buildSlice 26 1 #[(0,.tmp 28)],_,_,_,none⟩) rfl (fun K hK=>?_) ?_
            · go_simp
              refine hK.out _ _ (KS2 _ E2a) (fun hHeld=>?_)
              clear hK K
              skip
              refine wpAnyH_ready (rs:=[5]) (by kernel_rfl) (by simp) ?_
              refine AllReadyH.cons (o:=⟨some 30,.call { callee:=.builtin .append,args:=#[.tmp 26,.tmp 29],argTypes:=#[26,26] },_,_,_,none⟩) rfl (fun K hK=>?_) ?_
              · refine step_fit rowV (by rfl) (.tmp 26) (.tmp 29) (by rfl) X.heap.size gm (kids.length + 1) us ⟨w2.heap.size,0,none⟩ 1 [u] k 1 (k + 1) (uh HUS) rfl rfl (by rfl) (by rfl) (((uh HO2).below R3).below ((Below.refl _ _).alloc (Nat.le_refl _) _)) (node_src (box_nw _ _)) (by omega) ?_
                intro w3 hown3 hg3
                have s3:=hg3.size
                simp only [size_al] at s3
                have E3:∀ o,w3.cell? ⟨wr.heap.size,o,none⟩=Z.cell? ⟨wr.heap.size,o,none⟩:=fun o=>(World.cell?_of_block (w:=w2.alloc (.cells #[.int .i64 u.kind,.string u.attr,.slice u.qi u.ni u.ci,.slice u.qw u.nw u.cw,.int .i64 u.lo,.int .i64 u.hi,.int .i64 u.op,.slice u.qk u.nk u.ck] 28)) (a:=⟨wr.heap.size,o,none⟩) (hg3.block wr.heap.size (by simp only [size_al];omega) (fun e=>by cases e;omega))).trans (E2a o)
                have n7:w3.cell? ⟨mb,7,none⟩=some (.slice (some ⟨gm,0,none⟩) k (kids.length + 1)):=(World.cell?_of_block (w:=w2.alloc (.cells #[.int .i64 u.kind,.string u.attr,.slice u.qi u.ni u.ci,.slice u.qw u.nw u.cw,.int .i64 u.lo,.int .i64 u.hi,.int .i64 u.op,.slice u.qk u.nk u.ck] 28)) (a:=⟨mb,7,none⟩) (hg3.block mb (by simp only [size_al];omega) (fun e=>by cases e;omega))).trans ((((Below.refl w2.heap.size w2).alloc (Nat.le_refl _) _).cell (p:=⟨mb,7,none⟩) (by exact lm2)).trans m7)
                have nf:∀ o,w3.frozen? ⟨mb,o,none⟩=false:=fun o=>frz hg3 (by simp only [size_al];omega) (by omega) ((((Below.refl w2.heap.size w2).alloc (Nat.le_refl _) _).frozen (by exact lm2)).trans (mf o))
                have HO3:=hide hown3
                have HG3:=hide hg3
                clear hown3 hg3
                refine hK.out _ _ (KS2 _ E3) (fun hHeld=>?_)
                clear hK K
                simp only [Act.put,List.setIfInBounds_toArray,List.set_cons_zero,List.set_cons_succ]
                refine wpAnyH_take (i:=6) (oi:=⟨some 31,.fieldAddr 28 (.tmp 3) 2,_,_,_,none⟩) (v:=?_) rfl (by kernel_rfl) (by kernel_rfl) (by kernel_rfl) (fun _ _ _ h=>h) (Or.inl ⟨by rfl, ?_⟩) (by assumption) ?_
                rotate_left
                · intro w hSw
                  go_simp
                  with_reducible rfl
                simp only [Act.put,List.setIfInBounds_toArray,List.set_cons_zero,List.set_cons_succ]
                refine wpAnyH_ready (rs:=[7]) (by kernel_rfl) (by simp) ?_
                refine AllReadyH.cons (o:=⟨none,.store 26 (.tmp 31) (.tmp 30),_,_,_,none⟩) rfl (fun K hK=>?_) ?_
                · go_simp
                  refine hK.out _ _ (KS2 _ (fun o=>(set_other _ (by omega) o 7 _).trans (E3 o))) (fun hHeld=>?_)
                  clear hK K
                  skip
                  refine wpAnyH_done (by kernel_rfl) ?_ _
                  have P4:=hide (node_round (V:=V) (uh HB) bZ R3 (uh HG3) hne1 hne2 hne3 hg1n sv1 sv2 hVs sZ c0 c1 c2 c3 c4 c5 c6 n7 nf (uh HO3) (uh HI1) (uh HW1) (uh HSP) (uh HU) (uh HUS) (uh HXX))
                  have hl4:(us ++ [u]).length=k + 1:=by rw [List.length_append,uh HUS];rfl
                  go_wp2
                  go_roundw
                  case rel=>exact ⟨k + 1,us ++ [u],by omega,by go_num,hl4,uh P4⟩
                  case measure=>simp [intOf];omega
                exact AllReadyH.nil
              exact AllReadyH.nil
            exact AllReadyH.nil
          refine AllReadyH.cons (o:=⟨some 29,.buildSlice 26 1 #[(0,.tmp 28)],_,_,_,none⟩) rfl (fun K hK=>?_) ?_
          · go_simp
            refine hK.out _ _ (KS2 _ E2a) (fun hHeld=>?_)
            clear hK K
            skip
            refine wpAnyH_ready (rs:=[1]) (by kernel_rfl) (by simp) ?_
            refine AllReadyH.cons (o:=⟨some 26,.load 26 (.tmp 25),_,_,_,none⟩) rfl (fun K hK=>?_) ?_
            · go_simp
              refine hK.out _ _ (KS2 _ E2a) (fun hHeld=>?_)
              clear hK K
              skip
              refine wpAnyH_ready (rs:=[5]) (by kernel_rfl) (by simp) ?_
              refine AllReadyH.cons (o:=⟨some 30,.call { callee:=.builtin .append,args:=#[.tmp 26,.tmp 29],argTypes:=#[26,26] },_,_,_,none⟩) rfl (fun K hK=>?_) ?_
              · refine step_fit rowV (by rfl) (.tmp 26) (.tmp 29) (by rfl) X.heap.size gm (kids.length + 1) us ⟨w2.heap.size,0,none⟩ 1 [u] k 1 (k + 1) (uh HUS) rfl rfl (by rfl) (by rfl) (((uh HO2).below R3).below ((Below.refl _ _).alloc (Nat.le_refl _) _)) (node_src (box_nw _ _)) (by omega) ?_
                intro w3 hown3 hg3
                have s3:=hg3.size
                simp only [size_al] at s3
                have E3:∀ o,w3.cell? ⟨wr.heap.size,o,none⟩=Z.cell? ⟨wr.heap.size,o,none⟩:=fun o=>(World.cell?_of_block (w:=w2.alloc (.cells #[.int .i64 u.kind,.string u.attr,.slice u.qi u.ni u.ci,.slice u.qw u.nw u.cw,.int .i64 u.lo,.int .i64 u.hi,.int .i64 u.op,.slice u.qk u.nk u.ck] 28)) (a:=⟨wr.heap.size,o,none⟩) (hg3.block wr.heap.size (by simp only [size_al];omega) (fun e=>by cases e;omega))).trans (E2a o)
                have n7:w3.cell? ⟨mb,7,none⟩=some (.slice (some ⟨gm,0,none⟩) k (kids.length + 1)):=(World.cell?_of_block (w:=w2.alloc (.cells #[.int .i64 u.kind,.string u.attr,.slice u.qi u.ni u.ci,.slice u.qw u.nw u.cw,.int .i64 u.lo,.int .i64 u.hi,.int .i64 u.op,.slice u.qk u.nk u.ck] 28)) (a:=⟨mb,7,none⟩) (hg3.block mb (by simp only [size_al];omega) (fun e=>by cases e;omega))).trans ((((Below.refl w2.heap.size w2).alloc (Nat.le_refl _) _).cell (p:=⟨mb,7,none⟩) (by exact lm2)).trans m7)
                have nf:∀ o,w3.frozen? ⟨mb,o,none⟩=false:=fun o=>frz hg3 (by simp only [size_al];omega) (by omega) ((((Below.refl w2.heap.size w2).alloc (Nat.le_refl _) _).frozen (by exact lm2)).trans (mf o))
                have HO3:=hide hown3
                have HG3:=hide hg3
                clear hown3 hg3
                refine hK.out _ _ (KS2 _ E3) (fun hHeld=>?_)
                clear hK K
                simp only [Act.put,List.setIfInBounds_toArray,List.set_cons_zero,List.set_cons_succ]
                refine wpAnyH_take (i:=6) (oi:=⟨some 31,.fieldAddr 28 (.tmp 3) 2,_,_,_,none⟩) (v:=?_) rfl (by kernel_rfl) (by kernel_rfl) (by kernel_rfl) (fun _ _ _ h=>h) (Or.inl ⟨by rfl, ?_⟩) (by assumption) ?_
                rotate_left
                · intro w hSw
                  go_simp
                  with_reducible rfl
                simp only [Act.put,List.setIfInBounds_toArray,List.set_cons_zero,List.set_cons_succ]
                refine wpAnyH_ready (rs:=[7]) (by kernel_rfl) (by simp) ?_
                refine AllReadyH.cons (o:=⟨none,.store 26 (.tmp 31) (.tmp 30),_,_,_,none⟩) rfl (fun K hK=>?_) ?_
                · go_simp
                  refine hK.out _ _ (KS2 _ (fun o=>(set_other _ (by omega) o 7 _).trans (E3 o))) (fun hHeld=>?_)
                  clear hK K
                  skip
                  refine wpAnyH_done (by kernel_rfl) ?_ _
                  have P4:=hide (node_round (V:=V) (uh HB) bZ R3 (uh HG3) hne1 hne2 hne3 hg1n sv1 sv2 hVs sZ c0 c1 c2 c3 c4 c5 c6 n7 nf (uh HO3) (uh HI1) (uh HW1) (uh HSP) (uh HU) (uh HUS) (uh HXX))
                  have hl4:(us ++ [u]).length=k + 1:=by rw [List.length_append,uh HUS];rfl
                  go_wp2
                  go_roundw
                  case rel=>exact ⟨k + 1,us ++ [u],by omega,by go_num,hl4,uh P4⟩
                  case measure=>simp [intOf];omega
                exact AllReadyH.nil
              exact AllReadyH.nil
            exact AllReadyH.nil
          exact AllReadyH.nil
        exact AllReadyH.nil
      · have ki1:¬ (k:Int) < (kids.length:Int):=by omega
        obtain rfl:k=kids.length:=by omega
        have HOWN:=hide hown
        have HUS:=hide hus
        have HB:=hide hbel
        have HI1:=hide hi1
        have HW1:=hide hw1
        have HSP:=hide hsp
        have sXX:=uh SX
        have hmr:mb < wr.heap.size:=by omega
        have hgr:gm < wr.heap.size:=by omega
        clear hown hus hbel hi1 hw1 hsp
        go_wp2_with (at_builtin;refine wpList_fit rowV rfl _ _ rfl X.heap.size gm (kids.length + 1) us ⟨wr.heap.size,0,none⟩ 1 [spV] kids.length 1 (kids.length + 1) (uh HUS) rfl rfl rfl rfl ((uh HOWN).below ((Below.refl _ _).alloc (Nat.le_refl _) _)) (node_src (u:=spV) (box_nw _ _)) (Nat.le_refl _) ?_;intro w3 hown3 hg3;have HO3:=hide hown3;have HG3:=hide hg3;clear hown3 hg3)
        have AL:=(Below.refl wr.heap.size wr).alloc (Nat.le_refl _) (.cells #[.int .i64 0,.string ⟨#[]⟩,.slice none 0 0,.slice none 0 0,.int .i64 0,.int .i64 0,.int .i64 77,.slice none 0 0] 28)
        have s3:=(uh HG3).size
        simp only [size_al] at s3
        have N3:∀ g,g ≠ gm→g < wr.heap.size→∀ o,w3.cell? ⟨g,o,none⟩=wr.cell? ⟨g,o,none⟩:=fun g hg hl o=>(World.cell?_of_block (w:=wr.alloc (.cells #[.int .i64 0,.string ⟨#[]⟩,.slice none 0 0,.slice none 0 0,.int .i64 0,.int .i64 0,.int .i64 77,.slice none 0 0] 28)) (a:=⟨g,o,none⟩) ((uh HG3).block g (by simp only [size_al];omega) (fun e=>by cases e;exact hg rfl))).trans (AL.cell (p:=⟨g,o,none⟩) (by exact hl))
        have bw3:Below X.heap.size X w3:=(below_sub (uh HB) AL).grown (uh HG3) (by simp only [size_al];have:=(uh HB).size;omega) (fun k hk=>by cases hk;exact hne3)
        have n0:=(N3 mb hne1 hmr 0).trans c0
        have n1:=(N3 mb hne1 hmr 1).trans c1
        have n2:=(N3 mb hne1 hmr 2).trans c2
        have n3:=(N3 mb hne1 hmr 3).trans c3
        have n4:=(N3 mb hne1 hmr 4).trans c4
        have n5:=(N3 mb hne1 hmr 5).trans c5
        have n6:=(N3 mb hne1 hmr 6).trans c6
        obtain ⟨_,_,_,_,_,_,_,x7⟩:=of8' ((bw3.block _ (heap_lt (uh HX8))).trans (uh HX8))
        have hz3:=(bw3.block _ (heap_lt (uh XZ))).trans (uh XZ)
        obtain ⟨o0,o1,o2,o3,o4,o5,o6,o7⟩:=of8' hz3
        have rf:∀ o,w3.frozen? ⟨w.heap.size + 1,o,none⟩=false:=fun o=>frozen_free hz3
        have q1:¬ mb=w.heap.size + 1:=by omega
        have q2:¬ w.heap.size + 1=mb:=by omega
        have t1:(0:Int)≤(kids.length:Int):=by omega
        have t4:(kids.length:Int)≤(kids.length:Int) + 1:=by omega
        have BW3:=hide bw3
        have HN3:Hid (∀ g,g ≠ gm→g < wr.heap.size→w3.heap[g]? = wr.heap[g]?):=hide (fun g hg hl=>((uh HG3).block g (by simp only [size_al];omega) (fun e=>by cases e;exact hg rfl)).trans (heap_old hl))
        clear bw3 N3 c0 c1 c2 c3 c4 c5 c6 c7 hcf hz3 AL ki1
        refine wp_region_held_drew (S:=fun w'=>w'.cell? ⟨mb,0,none⟩=some (.int .i64 kind)∧w'.cell? ⟨mb,1,none⟩=some (.string attr)∧w'.cell? ⟨mb,2,none⟩=some (.slice (some ⟨g1,0,none⟩) ints.length k1)∧w'.cell? ⟨mb,3,none⟩=some (.slice (some ⟨g2,0,none⟩) words.length k2)∧w'.cell? ⟨mb,4,none⟩=some (.int .i64 lo)∧w'.cell? ⟨mb,5,none⟩=some (.int .i64 hi)∧w'.cell? ⟨mb,6,none⟩=some (.int .i64 op)∧w'.cell? ⟨w.heap.size,7,none⟩=some (.slice qk kids.length ck)) (by kernel_rfl) ⟨n0,n1,n2,n3,n4,n5,n6,x7⟩ (fun hHeld=>?_)
        refine wpAnyH_take (i:=0) (oi:=⟨some 38,.fieldAddr 28 (.tmp 3) 0,_,_,_,none⟩) (v:=?_) rfl (by kernel_rfl) (by kernel_rfl) (by kernel_rfl) (fun _ _ _ h=>h) (Or.inl ⟨by rfl, ?_⟩) (by assumption) ?_
        rotate_left
        · intro wq hSw
          go_simp
          with_reducible rfl
        simp only [Act.put,List.setIfInBounds_toArray,List.set_cons_zero,List.set_cons_succ]
        refine wpAnyH_take (i:=1) (oi:=⟨some 39,.load 25 (.tmp 38),_,_,_,none⟩) (v:=?_) rfl (by kernel_rfl) (by kernel_rfl) (by kernel_rfl) (fun _ _ _ h=>h) (Or.inl ⟨by rfl, ?_⟩) (by assumption) ?_
        rotate_left
        · intro wq hSw
          go_simp
          with_reducible rfl
        simp only [Act.put,List.setIfInBounds_toArray,List.set_cons_zero,List.set_cons_succ]
        refine wpAnyH_take (i:=2) (oi:=⟨some 40,.fieldAddr 28 (.tmp 3) 1,_,_,_,none⟩) (v:=?_) rfl (by kernel_rfl) (by kernel_rfl) (by kernel_rfl) (fun _ _ _ h=>h) (Or.inl ⟨by rfl, ?_⟩) (by assumption) ?_
        rotate_left
        · intro wq hSw
          go_simp
          with_reducible rfl
        simp only [Act.put,List.setIfInBounds_toArray,List.set_cons_zero,List.set_cons_succ]
        refine wpAnyH_take (i:=3) (oi:=⟨some 41,.load 3 (.tmp 40),_,_,_,none⟩) (v:=?_) rfl (by kernel_rfl) (by kernel_rfl) (by kernel_rfl) (fun _ _ _ h=>h) (Or.inl ⟨by rfl, ?_⟩) (by assumption) ?_
        rotate_left
        · intro wq hSw
          go_simp
          with_reducible rfl
        simp only [Act.put,List.setIfInBounds_toArray,List.set_cons_zero,List.set_cons_succ]
        refine wpAnyH_take (i:=4) (oi:=⟨some 42,.move (.tmp 6),_,_,_,none⟩) (v:=?_) rfl (by kernel_rfl) (by kernel_rfl) (by kernel_rfl) (fun _ _ _ h=>h) (Or.inl ⟨by rfl, ?_⟩) (by assumption) ?_
        rotate_left
        · intro wq hSw
          go_simp
          with_reducible rfl
        simp only [Act.put,List.setIfInBounds_toArray,List.set_cons_zero,List.set_cons_succ]
        refine wpAnyH_take (i:=5) (oi:=⟨some 43,.fieldAddr 28 (.tmp 1) 2,_,_,_,none⟩) (v:=?_) rfl (by kernel_rfl) (by kernel_rfl) (by kernel_rfl) (fun _ _ _ h=>h) (Or.inl ⟨by rfl, ?_⟩) (by assumption) ?_
        rotate_left
        · intro wq hSw
          go_simp
          with_reducible rfl
        simp only [Act.put,List.setIfInBounds_toArray,List.set_cons_zero,List.set_cons_succ]
        refine wpAnyH_take (i:=6) (oi:=⟨some 44,.load 26 (.tmp 43),_,_,_,none⟩) (v:=?_) rfl (by kernel_rfl) (by kernel_rfl) (by kernel_rfl) (fun _ _ _ h=>h) (Or.inl ⟨by rfl, ?_⟩) (by assumption) ?_
        rotate_left
        · intro wq hSw
          go_simp
          with_reducible rfl
        simp only [Act.put,List.setIfInBounds_toArray,List.set_cons_zero,List.set_cons_succ]
        refine wpAnyH_take (i:=7) (oi:=⟨some 45,.call { callee:=.builtin .len,args:=#[.tmp 44],argTypes:=#[26] },_,_,_,none⟩) (v:=?_) rfl (by kernel_rfl) (by kernel_rfl) (by kernel_rfl) (fun _ _ _ h=>h) (Or.inl ⟨by rfl, ?_⟩) (by assumption) ?_
        rotate_left
        · intro wq hSw
          go_simp
          with_reducible rfl
        simp only [Act.put,List.setIfInBounds_toArray,List.set_cons_zero,List.set_cons_succ]
        refine wpAnyH_ready (rs:=[8]) (by kernel_rfl) (by simp) ?_
        refine AllReadyH.cons (o:=⟨some 46,.slice 26 (.tmp 42) none (some (.tmp 45)) none,_,_,_,none⟩) rfl (fun K hK=>?_) ?_
        · go_simp
          refine hK.out _ _ (⟨n0,n1,n2,n3,n4,n5,n6,x7⟩) (fun hHeld=>?_)
          clear hK K
          refine wpAnyH_take (i:=9) (oi:=⟨some 47,.build 28 #[(0,.tmp 39),(1,.tmp 41),(2,.tmp 46)],_,_,_,none⟩) (v:=?_) rfl (by kernel_rfl) (by kernel_rfl) (by kernel_rfl) (fun _ _ _ h=>h) (Or.inl ⟨by rfl, ?_⟩) (by assumption) ?_
          rotate_left
          · intro wq hSw
            go_simp
            with_reducible rfl
          simp only [Act.put,List.setIfInBounds_toArray,List.set_cons_zero,List.set_cons_succ]
          refine wpAnyH_ready (rs:=[10]) (by kernel_rfl) (by simp) ?_
          refine AllReadyH.cons (o:=⟨none,.store 28 (.tmp 2) (.tmp 47),_,_,_,none⟩) rfl (fun K hK=>?_) ?_
          · go_simp
            refine hK.out _ _ (by go_keep) (fun hHeld=>?_)
            clear hK K
            refine wpAnyH_done (by kernel_rfl) ?_ _
            have zu:w.heap.size + 1 < V.heap.size:=by have:=hvb.size;omega
            obtain ⟨⟨y_0,y_1,y_2,y_3,y_4,y_5,y_6,y_7⟩,SPF,BF⟩:=node_final (op:=op) (lo:=lo) (hi:=hi) (kind:=kind) (attr:=attr) (V:=V) (mb:=mb) (uh BX) (uh BW3) sXX (uh HG3) (uh HN3) s3 hne3 hg1n hgX sv2 zu hlen o0 o1 o2 o3 o4 o5 o6 o7 (uh HO3) (uh HI1) (uh HW1) (uh HSP) (uh HUS) r1 z1 r2 z2
            clear n0 n1 n2 n3 n4 n5 n6 x7 o0 o1 o2 o3 o4 o5 o6 o7 rf q1 q2 t1 t4
            go_wp2
            obtain ⟨WF,hWF⟩:∃ WF,((((((((w3.setCell ⟨w.heap.size + 1,0,none⟩ (.int .i64 kind)).setCell ⟨w.heap.size + 1,1,none⟩ (.string attr)).setCell ⟨w.heap.size + 1,2,none⟩ (.slice (some ⟨g1,0,none⟩) ints.length k1)).setCell ⟨w.heap.size + 1,3,none⟩ (.slice (some ⟨g2,0,none⟩) words.length k2)).setCell ⟨w.heap.size + 1,4,none⟩ (.int .i64 lo)).setCell ⟨w.heap.size + 1,5,none⟩ (.int .i64 hi)).setCell ⟨w.heap.size + 1,6,none⟩ (.int .i64 op)).setCell ⟨w.heap.size + 1,7,none⟩ (.slice (some ⟨gm,0,none⟩) kids.length (kids.length + 1)))=WF:=⟨_,rfl⟩
            rw [hWF] at SPF BF y_0 y_1 y_2 y_3 y_4 y_5 y_6 y_7
            rw [hWF]
            have SPF2:=hide SPF
            have BF2:=hide BF
            clear SPF BF hWF HO3 HG3 HN3 BW3 HSP HI1 HW1 HOWN HUS HB
            refine bodyPost_ret (v:=.agg #[.int .i64 kind,.string attr,.slice (some ⟨g1,0,none⟩) ints.length k1,.slice (some ⟨g2,0,none⟩) words.length k2,.int .i64 lo,.int .i64 hi,.int .i64 op,.slice (some ⟨gm,0,none⟩) kids.length (kids.length + 1)]) (by simp [results,Try.results5,go_sem,y_0,y_1,y_2,y_3,y_4,y_5,y_6,y_7]) rfl ⟨⟨⟨kind,attr,some ⟨g1,0,none⟩,ints.length,k1,some ⟨g2,0,none⟩,words.length,k2,lo,hi,op,some ⟨gm,0,none⟩,kids.length,kids.length + 1⟩,rfl,(uh SPF2).keep (Below.refl _ _).drew⟩,(uh BF2).drew⟩

          exact AllReadyH.nil

        exact AllReadyH.nil
  · have zr:=R2.size
    have zs:=hb1.size
    have ug1:g1 < w1.heap.size:=by obtain ⟨b,off,hq,hB,_⟩:=s1.1 (by simp [spI]);cases hq;exact hB
    have ug2:g2 < w1.heap.size:=by obtain ⟨b,off,hq,hB,_⟩:=t1.1 (by simp [spS]);cases hq;exact hB
    have zY:Y.heap.size=X.heap.size + 1:=by rw [hY,drew_heap];simp
    have hvo:OwnK encV 28 8 X.heap.size (((((((((w1.setCell ⟨X.heap.size,0,none⟩ (.int .i64 kind)).setCell ⟨X.heap.size,1,none⟩ (.string attr)).setCell ⟨X.heap.size,2,none⟩ (.slice (some ⟨g1,0,none⟩) ints.length k1)).setCell ⟨X.heap.size,3,none⟩ (.slice (some ⟨g2,0,none⟩) words.length k2)).setCell ⟨X.heap.size,4,none⟩ (.int .i64 lo)).setCell ⟨X.heap.size,5,none⟩ (.int .i64 hi)).setCell ⟨X.heap.size,6,none⟩ (.int .i64 op)).setCell ⟨X.heap.size,7,none⟩ (.slice (some ⟨w1.heap.size,0,none⟩) 0 (kids.length + 1))).alloc (.cells cur 28)) (some ⟨w1.heap.size,0,none⟩) (kids.length + 1) []:=(by have:=ownV (B:=X.heap.size) (w:=((((((((w1.setCell ⟨X.heap.size,0,none⟩ (.int .i64 kind)).setCell ⟨X.heap.size,1,none⟩ (.string attr)).setCell ⟨X.heap.size,2,none⟩ (.slice (some ⟨g1,0,none⟩) ints.length k1)).setCell ⟨X.heap.size,3,none⟩ (.slice (some ⟨g2,0,none⟩) words.length k2)).setCell ⟨X.heap.size,4,none⟩ (.int .i64 lo)).setCell ⟨X.heap.size,5,none⟩ (.int .i64 hi)).setCell ⟨X.heap.size,6,none⟩ (.int .i64 op)).setCell ⟨X.heap.size,7,none⟩ (.slice (some ⟨w1.heap.size,0,none⟩) 0 (kids.length + 1)))) (by simp;omega) (by unfold maxLen;omega) hcs;simpa using this)
    have hvb:Below X.heap.size X (((((((((w1.setCell ⟨X.heap.size,0,none⟩ (.int .i64 kind)).setCell ⟨X.heap.size,1,none⟩ (.string attr)).setCell ⟨X.heap.size,2,none⟩ (.slice (some ⟨g1,0,none⟩) ints.length k1)).setCell ⟨X.heap.size,3,none⟩ (.slice (some ⟨g2,0,none⟩) words.length k2)).setCell ⟨X.heap.size,4,none⟩ (.int .i64 lo)).setCell ⟨X.heap.size,5,none⟩ (.int .i64 hi)).setCell ⟨X.heap.size,6,none⟩ (.int .i64 op)).setCell ⟨X.heap.size,7,none⟩ (.slice (some ⟨w1.heap.size,0,none⟩) 0 (kids.length + 1))).alloc (.cells cur 28)):=bal _ _ (set8_below R2 (by omega) _ _ _ _ _ _ _ _)
    have hvi:LsB encI 3 1 (((((((((w1.setCell ⟨X.heap.size,0,none⟩ (.int .i64 kind)).setCell ⟨X.heap.size,1,none⟩ (.string attr)).setCell ⟨X.heap.size,2,none⟩ (.slice (some ⟨g1,0,none⟩) ints.length k1)).setCell ⟨X.heap.size,3,none⟩ (.slice (some ⟨g2,0,none⟩) words.length k2)).setCell ⟨X.heap.size,4,none⟩ (.int .i64 lo)).setCell ⟨X.heap.size,5,none⟩ (.int .i64 hi)).setCell ⟨X.heap.size,6,none⟩ (.int .i64 op)).setCell ⟨X.heap.size,7,none⟩ (.slice (some ⟨w1.heap.size,0,none⟩) 0 (kids.length + 1))).alloc (.cells cur 28)) g1 k1 (ints ++ spI):=((LsB.setOther (LsB.setOther (LsB.setOther (LsB.setOther (LsB.setOther (LsB.setOther (LsB.setOther (LsB.setOther s1 (by omega) _ _) (by omega) _ _) (by omega) _ _) (by omega) _ _) (by omega) _ _) (by omega) _ _) (by omega) _ _) (by omega) _ _).below ((Below.refl _ _).alloc (Nat.le_refl _) _))
    have hvw:LsB encS 9 1 (((((((((w1.setCell ⟨X.heap.size,0,none⟩ (.int .i64 kind)).setCell ⟨X.heap.size,1,none⟩ (.string attr)).setCell ⟨X.heap.size,2,none⟩ (.slice (some ⟨g1,0,none⟩) ints.length k1)).setCell ⟨X.heap.size,3,none⟩ (.slice (some ⟨g2,0,none⟩) words.length k2)).setCell ⟨X.heap.size,4,none⟩ (.int .i64 lo)).setCell ⟨X.heap.size,5,none⟩ (.int .i64 hi)).setCell ⟨X.heap.size,6,none⟩ (.int .i64 op)).setCell ⟨X.heap.size,7,none⟩ (.slice (some ⟨w1.heap.size,0,none⟩) 0 (kids.length + 1))).alloc (.cells cur 28)) g2 k2 (words ++ spS):=((LsB.setOther (LsB.setOther (LsB.setOther (LsB.setOther (LsB.setOther (LsB.setOther (LsB.setOther (LsB.setOther t1 (by omega) _ _) (by omega) _ _) (by omega) _ _) (by omega) _ _) (by omega) _ _) (by omega) _ _) (by omega) _ _) (by omega) _ _).below ((Below.refl _ _).alloc (Nat.le_refl _) _))
    have nlt:¬ X.heap.size=w1.heap.size:=by omega
    have v0:(((((((((w1.setCell ⟨X.heap.size,0,none⟩ (.int .i64 kind)).setCell ⟨X.heap.size,1,none⟩ (.string attr)).setCell ⟨X.heap.size,2,none⟩ (.slice (some ⟨g1,0,none⟩) ints.length k1)).setCell ⟨X.heap.size,3,none⟩ (.slice (some ⟨g2,0,none⟩) words.length k2)).setCell ⟨X.heap.size,4,none⟩ (.int .i64 lo)).setCell ⟨X.heap.size,5,none⟩ (.int .i64 hi)).setCell ⟨X.heap.size,6,none⟩ (.int .i64 op)).setCell ⟨X.heap.size,7,none⟩ (.slice (some ⟨w1.heap.size,0,none⟩) 0 (kids.length + 1))).alloc (.cells cur 28)).cell? ⟨X.heap.size,0,none⟩=some (.int .i64 kind):=by go_simp
    have v1:(((((((((w1.setCell ⟨X.heap.size,0,none⟩ (.int .i64 kind)).setCell ⟨X.heap.size,1,none⟩ (.string attr)).setCell ⟨X.heap.size,2,none⟩ (.slice (some ⟨g1,0,none⟩) ints.length k1)).setCell ⟨X.heap.size,3,none⟩ (.slice (some ⟨g2,0,none⟩) words.length k2)).setCell ⟨X.heap.size,4,none⟩ (.int .i64 lo)).setCell ⟨X.heap.size,5,none⟩ (.int .i64 hi)).setCell ⟨X.heap.size,6,none⟩ (.int .i64 op)).setCell ⟨X.heap.size,7,none⟩ (.slice (some ⟨w1.heap.size,0,none⟩) 0 (kids.length + 1))).alloc (.cells cur 28)).cell? ⟨X.heap.size,1,none⟩=some (.string attr):=by go_simp
    have v2:(((((((((w1.setCell ⟨X.heap.size,0,none⟩ (.int .i64 kind)).setCell ⟨X.heap.size,1,none⟩ (.string attr)).setCell ⟨X.heap.size,2,none⟩ (.slice (some ⟨g1,0,none⟩) ints.length k1)).setCell ⟨X.heap.size,3,none⟩ (.slice (some ⟨g2,0,none⟩) words.length k2)).setCell ⟨X.heap.size,4,none⟩ (.int .i64 lo)).setCell ⟨X.heap.size,5,none⟩ (.int .i64 hi)).setCell ⟨X.heap.size,6,none⟩ (.int .i64 op)).setCell ⟨X.heap.size,7,none⟩ (.slice (some ⟨w1.heap.size,0,none⟩) 0 (kids.length + 1))).alloc (.cells cur 28)).cell? ⟨X.heap.size,2,none⟩=some (.slice (some ⟨g1,0,none⟩) ints.length k1):=by go_simp
    have v3:(((((((((w1.setCell ⟨X.heap.size,0,none⟩ (.int .i64 kind)).setCell ⟨X.heap.size,1,none⟩ (.string attr)).setCell ⟨X.heap.size,2,none⟩ (.slice (some ⟨g1,0,none⟩) ints.length k1)).setCell ⟨X.heap.size,3,none⟩ (.slice (some ⟨g2,0,none⟩) words.length k2)).setCell ⟨X.heap.size,4,none⟩ (.int .i64 lo)).setCell ⟨X.heap.size,5,none⟩ (.int .i64 hi)).setCell ⟨X.heap.size,6,none⟩ (.int .i64 op)).setCell ⟨X.heap.size,7,none⟩ (.slice (some ⟨w1.heap.size,0,none⟩) 0 (kids.length + 1))).alloc (.cells cur 28)).cell? ⟨X.heap.size,3,none⟩=some (.slice (some ⟨g2,0,none⟩) words.length k2):=by go_simp
    have v4:(((((((((w1.setCell ⟨X.heap.size,0,none⟩ (.int .i64 kind)).setCell ⟨X.heap.size,1,none⟩ (.string attr)).setCell ⟨X.heap.size,2,none⟩ (.slice (some ⟨g1,0,none⟩) ints.length k1)).setCell ⟨X.heap.size,3,none⟩ (.slice (some ⟨g2,0,none⟩) words.length k2)).setCell ⟨X.heap.size,4,none⟩ (.int .i64 lo)).setCell ⟨X.heap.size,5,none⟩ (.int .i64 hi)).setCell ⟨X.heap.size,6,none⟩ (.int .i64 op)).setCell ⟨X.heap.size,7,none⟩ (.slice (some ⟨w1.heap.size,0,none⟩) 0 (kids.length + 1))).alloc (.cells cur 28)).cell? ⟨X.heap.size,4,none⟩=some (.int .i64 lo):=by go_simp
    have v5:(((((((((w1.setCell ⟨X.heap.size,0,none⟩ (.int .i64 kind)).setCell ⟨X.heap.size,1,none⟩ (.string attr)).setCell ⟨X.heap.size,2,none⟩ (.slice (some ⟨g1,0,none⟩) ints.length k1)).setCell ⟨X.heap.size,3,none⟩ (.slice (some ⟨g2,0,none⟩) words.length k2)).setCell ⟨X.heap.size,4,none⟩ (.int .i64 lo)).setCell ⟨X.heap.size,5,none⟩ (.int .i64 hi)).setCell ⟨X.heap.size,6,none⟩ (.int .i64 op)).setCell ⟨X.heap.size,7,none⟩ (.slice (some ⟨w1.heap.size,0,none⟩) 0 (kids.length + 1))).alloc (.cells cur 28)).cell? ⟨X.heap.size,5,none⟩=some (.int .i64 hi):=by go_simp
    have v6:(((((((((w1.setCell ⟨X.heap.size,0,none⟩ (.int .i64 kind)).setCell ⟨X.heap.size,1,none⟩ (.string attr)).setCell ⟨X.heap.size,2,none⟩ (.slice (some ⟨g1,0,none⟩) ints.length k1)).setCell ⟨X.heap.size,3,none⟩ (.slice (some ⟨g2,0,none⟩) words.length k2)).setCell ⟨X.heap.size,4,none⟩ (.int .i64 lo)).setCell ⟨X.heap.size,5,none⟩ (.int .i64 hi)).setCell ⟨X.heap.size,6,none⟩ (.int .i64 op)).setCell ⟨X.heap.size,7,none⟩ (.slice (some ⟨w1.heap.size,0,none⟩) 0 (kids.length + 1))).alloc (.cells cur 28)).cell? ⟨X.heap.size,6,none⟩=some (.int .i64 op):=by go_simp
    have v7:(((((((((w1.setCell ⟨X.heap.size,0,none⟩ (.int .i64 kind)).setCell ⟨X.heap.size,1,none⟩ (.string attr)).setCell ⟨X.heap.size,2,none⟩ (.slice (some ⟨g1,0,none⟩) ints.length k1)).setCell ⟨X.heap.size,3,none⟩ (.slice (some ⟨g2,0,none⟩) words.length k2)).setCell ⟨X.heap.size,4,none⟩ (.int .i64 lo)).setCell ⟨X.heap.size,5,none⟩ (.int .i64 hi)).setCell ⟨X.heap.size,6,none⟩ (.int .i64 op)).setCell ⟨X.heap.size,7,none⟩ (.slice (some ⟨w1.heap.size,0,none⟩) 0 (kids.length + 1))).alloc (.cells cur 28)).cell? ⟨X.heap.size,7,none⟩=some (.slice (some ⟨w1.heap.size,0,none⟩) 0 (kids.length + 1)):=by go_simp
    have vf:∀ o,(((((((((w1.setCell ⟨X.heap.size,0,none⟩ (.int .i64 kind)).setCell ⟨X.heap.size,1,none⟩ (.string attr)).setCell ⟨X.heap.size,2,none⟩ (.slice (some ⟨g1,0,none⟩) ints.length k1)).setCell ⟨X.heap.size,3,none⟩ (.slice (some ⟨g2,0,none⟩) words.length k2)).setCell ⟨X.heap.size,4,none⟩ (.int .i64 lo)).setCell ⟨X.heap.size,5,none⟩ (.int .i64 hi)).setCell ⟨X.heap.size,6,none⟩ (.int .i64 op)).setCell ⟨X.heap.size,7,none⟩ (.slice (some ⟨w1.heap.size,0,none⟩) 0 (kids.length + 1))).alloc (.cells cur 28)).frozen? ⟨X.heap.size,o,none⟩=false:=fun o=>by go_simp
    have sv:X.heap.size < (((((((((w1.setCell ⟨X.heap.size,0,none⟩ (.int .i64 kind)).setCell ⟨X.heap.size,1,none⟩ (.string attr)).setCell ⟨X.heap.size,2,none⟩ (.slice (some ⟨g1,0,none⟩) ints.length k1)).setCell ⟨X.heap.size,3,none⟩ (.slice (some ⟨g2,0,none⟩) words.length k2)).setCell ⟨X.heap.size,4,none⟩ (.int .i64 lo)).setCell ⟨X.heap.size,5,none⟩ (.int .i64 hi)).setCell ⟨X.heap.size,6,none⟩ (.int .i64 op)).setCell ⟨X.heap.size,7,none⟩ (.slice (some ⟨w1.heap.size,0,none⟩) 0 (kids.length + 1))).alloc (.cells cur 28)).heap.size∧w1.heap.size < (((((((((w1.setCell ⟨X.heap.size,0,none⟩ (.int .i64 kind)).setCell ⟨X.heap.size,1,none⟩ (.string attr)).setCell ⟨X.heap.size,2,none⟩ (.slice (some ⟨g1,0,none⟩) ints.length k1)).setCell ⟨X.heap.size,3,none⟩ (.slice (some ⟨g2,0,none⟩) words.length k2)).setCell ⟨X.heap.size,4,none⟩ (.int .i64 lo)).setCell ⟨X.heap.size,5,none⟩ (.int .i64 hi)).setCell ⟨X.heap.size,6,none⟩ (.int .i64 op)).setCell ⟨X.heap.size,7,none⟩ (.slice (some ⟨w1.heap.size,0,none⟩) 0 (kids.length + 1))).alloc (.cells cur 28)).heap.size∧w1.heap.size≤(((((((((w1.setCell ⟨X.heap.size,0,none⟩ (.int .i64 kind)).setCell ⟨X.heap.size,1,none⟩ (.string attr)).setCell ⟨X.heap.size,2,none⟩ (.slice (some ⟨g1,0,none⟩) ints.length k1)).setCell ⟨X.heap.size,3,none⟩ (.slice (some ⟨g2,0,none⟩) words.length k2)).setCell ⟨X.heap.size,4,none⟩ (.int .i64 lo)).setCell ⟨X.heap.size,5,none⟩ (.int .i64 hi)).setCell ⟨X.heap.size,6,none⟩ (.int .i64 op)).setCell ⟨X.heap.size,7,none⟩ (.slice (some ⟨w1.heap.size,0,none⟩) 0 (kids.length + 1))).alloc (.cells cur 28)).heap.size:=by refine ⟨?_, ?_, ?_⟩ <;> simp <;> omega
    obtain ⟨V,hV⟩:∃ V,(((((((((w1.setCell ⟨X.heap.size,0,none⟩ (.int .i64 kind)).setCell ⟨X.heap.size,1,none⟩ (.string attr)).setCell ⟨X.heap.size,2,none⟩ (.slice (some ⟨g1,0,none⟩) ints.length k1)).setCell ⟨X.heap.size,3,none⟩ (.slice (some ⟨g2,0,none⟩) words.length k2)).setCell ⟨X.heap.size,4,none⟩ (.int .i64 lo)).setCell ⟨X.heap.size,5,none⟩ (.int .i64 hi)).setCell ⟨X.heap.size,6,none⟩ (.int .i64 op)).setCell ⟨X.heap.size,7,none⟩ (.slice (some ⟨w1.heap.size,0,none⟩) 0 (kids.length + 1))).alloc (.cells cur 28))=V:=⟨_,rfl⟩
    obtain ⟨mb,hmb⟩:∃ mb,X.heap.size=mb:=⟨_,rfl⟩
    obtain ⟨gm,hgm⟩:∃ gm,w1.heap.size=gm:=⟨_,rfl⟩
    have hne1:mb ≠ gm:=by omega
    have hne2:X.heap.size≤mb:=by omega
    have hne3:X.heap.size≤gm:=by omega
    obtain ⟨sv1,sv2,_⟩:=sv
    have hg1n:g1 ≠ mb∧g1 ≠ gm∧g2 ≠ mb∧g2 ≠ gm:=(by refine ⟨?_, ?_, ?_, ?_⟩ <;> omega)
    have hgX:X.heap.size≤g1∧X.heap.size≤g2:=by omega
    rw [hV] at hvo hvb hvi hvw v0 v1 v2 v3 v4 v5 v6 v7 vf sv1 sv2
    rw [hV]
    rw [hgm] at hvo v7 sv2
    rw [hgm]
    rw [hmb] at v0 v1 v2 v3 v4 v5 v6 v7 vf sv1
    rw [hmb]
    have HX8:=hide (uh X8)
    clear hV hmb hgm s1 t1 hb1 R2 bY hY zr zs zY KS c0 c1 c2 c3 c4 c5 c6 c7 dX hmk3
    go_loopw [21] (fun i wr=>∃ (k:Nat) (us:List Nv),k≤kids.length∧i=.int .i64 k∧us.length=k∧Below X.heap.size X wr∧V.heap.size≤wr.heap.size∧(wr.cell? ⟨mb,0,none⟩=some (.int .i64 kind)∧wr.cell? ⟨mb,1,none⟩=some (.string attr)∧wr.cell? ⟨mb,2,none⟩=some (.slice (some ⟨g1,0,none⟩) ints.length k1)∧wr.cell? ⟨mb,3,none⟩=some (.slice (some ⟨g2,0,none⟩) words.length k2)∧wr.cell? ⟨mb,4,none⟩=some (.int .i64 lo)∧wr.cell? ⟨mb,5,none⟩=some (.int .i64 hi)∧wr.cell? ⟨mb,6,none⟩=some (.int .i64 op)∧wr.cell? ⟨mb,7,none⟩=some (.slice (some ⟨gm,0,none⟩) k (kids.length + 1)))∧(∀ o,wr.frozen? ⟨mb,o,none⟩=false)∧OwnK encV 28 8 X.heap.size wr (some ⟨gm,0,none⟩) (kids.length + 1) us∧LsB encI 3 1 wr g1 k1 (ints ++ spI)∧LsB encS 9 1 wr g2 k2 (words ++ spS)∧∀ (j:Nat) (v:Nv) (x:Nd),us[j]? = some v→kids[j]? = some x→SpIn wr V.heap.size v x) (fun i _=>kids.length - (intOf i).toNat)
    case atStart=>exact ⟨0,[],by omega,rfl,rfl,hvb,Nat.le_refl _,⟨v0,v1,v2,v3,v4,v5,v6,v7⟩,vf,OwnK.mono hvo (by omega),hvi,hvw,fun j v x h=>by simp at h⟩
    case round =>
      obtain ⟨k,us,hkk,rfl,hus,hbel,hVs,⟨c0,c1,c2,c3,c4,c5,c6,c7⟩,hcf,hown,hi1,hw1,hsp⟩:=hrel
      clear v0 v1 v2 v3 v4 v5 v6 v7 vf hvo hvi hvw
      by_cases hlt:k < kids.length
      · obtain ⟨x,hx,hd⟩:=get_at hlt
        clear hd
        obtain ⟨b,off,v,hq,hin,e0,e1,e2,e3,e4,e5,e6,e7⟩:=(uh HKX).on hx hbel
        subst hq
        have hxm:x ∈ kids:=List.mem_of_getElem? hx
        have ki0:(0:Int)≤(k:Int):=by omega
        have ki1:(k:Int) < (kids.length:Int):=by omega
        have HOWN:=hide hown
        have HI1:=hide hi1
        have HW1:=hide hw1
        have HSP:=hide hsp
        have HIN:=hide hin
        have HXX:=hide hx
        have HUS:=hide hus
        have HB:=hide hbel
        have hTT:=uh IH x hxm v
        have hwx:=Nat.le_trans (wtL_mem hxm) l3
        clear hown hi1 hw1 hsp hin hx hus hxm hbel
        go_wp2
        obtain ⟨Z,hZ⟩:∃ Z,wr.alloc (.cells #[.int .i64 v.kind,.string v.attr,.slice v.qi v.ni v.ci,.slice v.qw v.nw v.cw,.int .i64 v.lo,.int .i64 v.hi,.int .i64 v.op,.slice v.qk v.nk v.ck] 28)=Z:=⟨_,rfl⟩
        rw [hZ]
        have zk:Z.heap[wr.heap.size]? = some (.cells #[.int .i64 v.kind,.string v.attr,.slice v.qi v.ni v.ci,.slice v.qw v.nw v.cw,.int .i64 v.lo,.int .i64 v.hi,.int .i64 v.op,.slice v.qk v.nk v.ck] 28 (0,0)):=by rw [← hZ];exact box_nw _ _
        have bZ:Below wr.heap.size wr Z:=by rw [← hZ];exact (Below.refl _ _).alloc (Nat.le_refl _) _
        have sZ:Z.heap.size=wr.heap.size + 1:=by rw [← hZ];simp
        have hmr:mb < wr.heap.size:=by omega
        have hgr:gm < wr.heap.size:=by omega
        have q7:Z.cell? ⟨mb,7,none⟩=some (.slice (some ⟨gm,0,none⟩) k (kids.length + 1)):=(bZ.cell (p:=⟨mb,7,none⟩) (by exact hmr)).trans c7
        have qf:∀ o,Z.frozen? ⟨mb,o,none⟩=false:=fun o=>(bZ.frozen (by exact hmr)).trans (hcf o)
        have KS2:∀ W:World,(∀ o,W.cell? ⟨wr.heap.size,o,none⟩=Z.cell? ⟨wr.heap.size,o,none⟩)→(fun w'=>w'.cell? ⟨wr.heap.size,0,none⟩=some (.int .i64 v.kind)∧w'.cell? ⟨wr.heap.size,1,none⟩=some (.string v.attr)∧w'.cell? ⟨wr.heap.size,2,none⟩=some (.slice v.qi v.ni v.ci)∧w'.cell? ⟨wr.heap.size,3,none⟩=some (.slice v.qw v.nw v.cw)∧w'.cell? ⟨wr.heap.size,4,none⟩=some (.int .i64 v.lo)∧w'.cell? ⟨wr.heap.size,5,none⟩=some (.int .i64 v.hi)∧w'.cell? ⟨wr.heap.size,6,none⟩=some (.int .i64 v.op)∧w'.cell? ⟨wr.heap.size,7,none⟩=some (.slice v.qk v.nk v.ck)) W:=fun W hb=>by
          obtain ⟨a0,a1,a2,a3,a4,a5,a6,a7⟩:=of8' zk
          exact ⟨(hb 0).trans a0,(hb 1).trans a1,(hb 2).trans a2,(hb 3).trans a3,(hb 4).trans a4,(hb 5).trans a5,(hb 6).trans a6,(hb 7).trans a7⟩
        have E0:∀ o,Z.drew.cell? ⟨wr.heap.size,o,none⟩=Z.cell? ⟨wr.heap.size,o,none⟩:=fun o=>rfl
        obtain ⟨f0,f1,f2,f3,f4,f5,f6,f7⟩:=KS2 Z (fun o=>rfl)
        have hNd:=hTT Z.drew ((uh HIN).keep bZ.drew) hwx
        simp only [Nv.val] at hNd
        have ZK:=hide zk
        have HO2:=hide ((uh HOWN).below bZ)
        have hnn:¬ wr.heap.size=mb:=by omega
        clear e0 e1 e2 e3 e4 e5 e6 e7 zk hTT hwx
        refine wp_region_held_drew (S:=fun w'=>w'.cell? ⟨wr.heap.size,0,none⟩=some (.int .i64 v.kind)∧w'.cell? ⟨wr.heap.size,1,none⟩=some (.string v.attr)∧w'.cell? ⟨wr.heap.size,2,none⟩=some (.slice v.qi v.ni v.ci)∧w'.cell? ⟨wr.heap.size,3,none⟩=some (.slice v.qw v.nw v.cw)∧w'.cell? ⟨wr.heap.size,4,none⟩=some (.int .i64 v.lo)∧w'.cell? ⟨wr.heap.size,5,none⟩=some (.int .i64 v.hi)∧w'.cell? ⟨wr.heap.size,6,none⟩=some (.int .i64 v.op)∧w'.cell? ⟨wr.heap.size,7,none⟩=some (.slice v.qk v.nk v.ck)) (by kernel_rfl) (KS2 _ E0) (fun hHeld=>?_)
        refine wpAnyH_take (i:=0) (oi:=⟨some 25,.fieldAddr 28 (.tmp 3) 2,_,_,_,none⟩) (v:=?_) rfl (by kernel_rfl) (by kernel_rfl) (by kernel_rfl) (fun _ _ _ h=>h) (Or.inl ⟨by rfl, ?_⟩) (by assumption) ?_
        rotate_left
        · intro w hSw
          go_simp
          with_reducible rfl
        simp only [Act.put,List.setIfInBounds_toArray,List.set_cons_zero,List.set_cons_succ]
        refine wpAnyH_take (i:=2) (oi:=⟨some 27,.load 28 (.tmp 5),_,_,_,none⟩) (v:=?_) rfl (by kernel_rfl) (by kernel_rfl) (by kernel_rfl) (fun _ _ _ h=>h) (Or.inl ⟨by rfl, ?_⟩) (by assumption) ?_
        rotate_left
        · intro w hSw
          go_simp
          with_reducible rfl
        simp only [Act.put,List.setIfInBounds_toArray,List.set_cons_zero,List.set_cons_succ]
        refine wpAnyH_ready (rs:=[1,3]) (by kernel_rfl) (by simp) ?_
        refine AllReadyH.cons (o:=⟨some 26,.load 26 (.tmp 25),_,_,_,none⟩) rfl (fun K hK=>?_) ?_
        · go_simp
          refine hK.out _ _ (KS2 _ E0) (fun hHeld=>?_)
          clear hK K
          skip
          refine wpAnyH_ready (rs:=[3]) (by kernel_rfl) (by simp) ?_
          refine AllReadyH.cons (o:=⟨some 28,.call { callee:=.value (.func 5),args:=#[.tmp 27],argTypes:=#[28] },_,_,_,none⟩) rfl (fun K hK=>?_) ?_
          · go_simp
            refine hNd.mono ?_
            rintro e w2 ⟨⟨u,rfl,hu⟩,hb2⟩
            simp only
            have R3:Below Z.heap.size Z w2:=below_undrewM hb2
            have s2:=R3.size
            have E2:∀ o,w2.cell? ⟨wr.heap.size,o,none⟩=Z.cell? ⟨wr.heap.size,o,none⟩:=fun o=>R3.cell (p:=⟨wr.heap.size,o,none⟩) (by simp only;omega)
            have m7:w2.cell? ⟨mb,7,none⟩=some (.slice (some ⟨gm,0,none⟩) k (kids.length + 1)):=(R3.cell (p:=⟨mb,7,none⟩) (by simp only;omega)).trans q7
            have mf:∀ o,w2.frozen? ⟨mb,o,none⟩=false:=fun o=>(R3.frozen (by simp only;omega)).trans (qf o)
            have lm2:mb < w2.heap.size:=by omega
            have nm2:¬ mb=w2.heap.size:=by omega
            have E2a:∀ o,(w2.alloc (.cells #[.int .i64 u.kind,.string u.attr,.slice u.qi u.ni u.ci,.slice u.qw u.nw u.cw,.int .i64 u.lo,.int .i64 u.hi,.int .i64 u.op,.slice u.qk u.nk u.ck] 28)).cell? ⟨wr.heap.size,o,none⟩=Z.cell? ⟨wr.heap.size,o,none⟩:=fun o=>(((Below.refl w2.heap.size w2).alloc (Nat.le_refl _) _).cell (p:=⟨wr.heap.size,o,none⟩) (by simp only;omega)).trans (E2 o)
            have HU:=hide hu
            clear hu hb2
            refine hK.out _ _ (KS2 _ E2) (fun hHeld=>?_)
            clear hK K
            skip
            refine wpAnyH_ready (rs:=[4]) (by kernel_rfl) (by simp) ?_
            refine AllReadyH.cons (o:=⟨some 29,.buildSlice 26 1 #[(0,.tmp 28)],_,_,_,none⟩) rfl (fun K hK=>?_) ?_
            · go_simp
              refine hK.out _ _ (KS2 _ E2a) (fun hHeld=>?_)
              clear hK K
              skip
              refine wpAnyH_ready (rs:=[5]) (by kernel_rfl) (by simp) ?_
              refine AllReadyH.cons (o:=⟨some 30,.call { callee:=.builtin .append,args:=#[.tmp 26,.tmp 29],argTypes:=#[26,26] },_,_,_,none⟩) rfl (fun K hK=>?_) ?_
              · refine step_fit rowV (by rfl) (.tmp 26) (.tmp 29) (by rfl) X.heap.size gm (kids.length + 1) us ⟨w2.heap.size,0,none⟩ 1 [u] k 1 (k + 1) (uh HUS) rfl rfl (by rfl) (by rfl) (((uh HO2).below R3).below ((Below.refl _ _).alloc (Nat.le_refl _) _)) (node_src (box_nw _ _)) (by omega) ?_
                intro w3 hown3 hg3
                have s3:=hg3.size
                simp only [size_al] at s3
                have E3:∀ o,w3.cell? ⟨wr.heap.size,o,none⟩=Z.cell? ⟨wr.heap.size,o,none⟩:=fun o=>(World.cell?_of_block (w:=w2.alloc (.cells #[.int .i64 u.kind,.string u.attr,.slice u.qi u.ni u.ci,.slice u.qw u.nw u.cw,.int .i64 u.lo,.int .i64 u.hi,.int .i64 u.op,.slice u.qk u.nk u.ck] 28)) (a:=⟨wr.heap.size,o,none⟩) (hg3.block wr.heap.size (by simp only [size_al];omega) (fun e=>by cases e;omega))).trans (E2a o)
                have n7:w3.cell? ⟨mb,7,none⟩=some (.slice (some ⟨gm,0,none⟩) k (kids.length + 1)):=(World.cell?_of_block (w:=w2.alloc (.cells #[.int .i64 u.kind,.string u.attr,.slice u.qi u.ni u.ci,.slice u.qw u.nw u.cw,.int .i64 u.lo,.int .i64 u.hi,.int .i64 u.op,.slice u.qk u.nk u.ck] 28)) (a:=⟨mb,7,none⟩) (hg3.block mb (by simp only [size_al];omega) (fun e=>by cases e;omega))).trans ((((Below.refl w2.heap.size w2).alloc (Nat.le_refl _) _).cell (p:=⟨mb,7,none⟩) (by exact lm2)).trans m7)
                have nf:∀ o,w3.frozen? ⟨mb,o,none⟩=false:=fun o=>frz hg3 (by simp only [size_al];omega) (by omega) ((((Below.refl w2.heap.size w2).alloc (Nat.le_refl _) _).frozen (by exact lm2)).trans (mf o))
                have HO3:=hide hown3
                have HG3:=hide hg3
                clear hown3 hg3
                refine hK.out _ _ (KS2 _ E3) (fun hHeld=>?_)
                clear hK K
                simp only [Act.put,List.setIfInBounds_toArray,List.set_cons_zero,List.set_cons_succ]
                refine wpAnyH_take (i:=6) (oi:=⟨some 31,.fieldAddr 28 (.tmp 3) 2,_,_,_,none⟩) (v:=?_) rfl (by kernel_rfl) (by kernel_rfl) (by kernel_rfl) (fun _ _ _ h=>h) (Or.inl ⟨by rfl, ?_⟩) (by assumption) ?_
                rotate_left
                · intro w hSw
                  go_simp
                  with_reducible rfl
                simp only [Act.put,List.setIfInBounds_toArray,List.set_cons_zero,List.set_cons_succ]
                refine wpAnyH_ready (rs:=[7]) (by kernel_rfl) (by simp) ?_
                refine AllReadyH.cons (o:=⟨none,.store 26 (.tmp 31) (.tmp 30),_,_,_,none⟩) rfl (fun K hK=>?_) ?_
                · go_simp
                  refine hK.out _ _ (KS2 _ (fun o=>(set_other _ (by omega) o 7 _).trans (E3 o))) (fun hHeld=>?_)
                  clear hK K
                  skip
                  refine wpAnyH_done (by kernel_rfl) ?_ _
                  have P4:=hide (node_round (V:=V) (uh HB) bZ R3 (uh HG3) hne1 hne2 hne3 hg1n sv1 sv2 hVs sZ c0 c1 c2 c3 c4 c5 c6 n7 nf (uh HO3) (uh HI1) (uh HW1) (uh HSP) (uh HU) (uh HUS) (uh HXX))
                  have hl4:(us ++ [u]).length=k + 1:=by rw [List.length_append,uh HUS];rfl
                  go_wp2
                  go_roundw
                  case rel=>exact ⟨k + 1,us ++ [u],by omega,by go_num,hl4,uh P4⟩
                  case measure=>simp [intOf];omega
                exact AllReadyH.nil
              exact AllReadyH.nil
            exact AllReadyH.nil
          exact AllReadyH.nil
        refine AllReadyH.cons (o:=⟨some 28,.call { callee:=.value (.func 5),args:=#[.tmp 27],argTypes:=#[28] },_,_,_,none⟩) rfl (fun K hK=>?_) ?_
        · go_simp
          refine hNd.mono ?_
          rintro e w2 ⟨⟨u,rfl,hu⟩,hb2⟩
          simp only
          have R3:Below Z.heap.size Z w2:=below_undrewM hb2
          have s2:=R3.size
          have E2:∀ o,w2.cell? ⟨wr.heap.size,o,none⟩=Z.cell? ⟨wr.heap.size,o,none⟩:=fun o=>R3.cell (p:=⟨wr.heap.size,o,none⟩) (by simp only;omega)
          have m7:w2.cell? ⟨mb,7,none⟩=some (.slice (some ⟨gm,0,none⟩) k (kids.length + 1)):=(R3.cell (p:=⟨mb,7,none⟩) (by simp only;omega)).trans q7
          have mf:∀ o,w2.frozen? ⟨mb,o,none⟩=false:=fun o=>(R3.frozen (by simp only;omega)).trans (qf o)
          have lm2:mb < w2.heap.size:=by omega
          have nm2:¬ mb=w2.heap.size:=by omega
          have E2a:∀ o,(w2.alloc (.cells #[.int .i64 u.kind,.string u.attr,.slice u.qi u.ni u.ci,.slice u.qw u.nw u.cw,.int .i64 u.lo,.int .i64 u.hi,.int .i64 u.op,.slice u.qk u.nk u.ck] 28)).cell? ⟨wr.heap.size,o,none⟩=Z.cell? ⟨wr.heap.size,o,none⟩:=fun o=>(((Below.refl w2.heap.size w2).alloc (Nat.le_refl _) _).cell (p:=⟨wr.heap.size,o,none⟩) (by simp only;omega)).trans (E2 o)
          have HU:=hide hu
          clear hu hb2
          refine hK.out _ _ (KS2 _ E2) (fun hHeld=>?_)
          clear hK K
          skip
          refine wpAnyH_ready (rs:=[1,4]) (by kernel_rfl) (by simp) ?_
          refine AllReadyH.cons (o:=⟨some 26,.load 26 (.tmp 25),_,_,_,none⟩) rfl (fun K hK=>?_) ?_
          · go_simp
            refine hK.out _ _ (KS2 _ E2) (fun hHeld=>?_)
            clear hK K
            skip
            refine wpAnyH_ready (rs:=[4]) (by kernel_rfl) (by simp) ?_
            refine AllReadyH.cons (o:=⟨some 29,.buildSlice 26 1 #[(0,.tmp 28)],_,_,_,none⟩) rfl (fun K hK=>?_) ?_
            · go_simp
              refine hK.out _ _ (KS2 _ E2a) (fun hHeld=>?_)
              clear hK K
              skip
              refine wpAnyH_ready (rs:=[5]) (by kernel_rfl) (by simp) ?_
              refine AllReadyH.cons (o:=⟨some 30,.call { callee:=.builtin .append,args:=#[.tmp 26,.tmp 29],argTypes:=#[26,26] },_,_,_,none⟩) rfl (fun K hK=>?_) ?_
              · refine step_fit rowV (by rfl) (.tmp 26) (.tmp 29) (by rfl) X.heap.size gm (kids.length + 1) us ⟨w2.heap.size,0,none⟩ 1 [u] k 1 (k + 1) (uh HUS) rfl rfl (by rfl) (by rfl) (((uh HO2).below R3).below ((Below.refl _ _).alloc (Nat.le_refl _) _)) (node_src (box_nw _ _)) (by omega) ?_
                intro w3 hown3 hg3
                have s3:=hg3.size
                simp only [size_al] at s3
                have E3:∀ o,w3.cell? ⟨wr.heap.size,o,none⟩=Z.cell? ⟨wr.heap.size,o,none⟩:=fun o=>(World.cell?_of_block (w:=w2.alloc (.cells #[.int .i64 u.kind,.string u.attr,.slice u.qi u.ni u.ci,.slice u.qw u.nw u.cw,.int .i64 u.lo,.int .i64 u.hi,.int .i64 u.op,.slice u.qk u.nk u.ck] 28)) (a:=⟨wr.heap.size,o,none⟩) (hg3.block wr.heap.size (by simp only [size_al];omega) (fun e=>by cases e;omega))).trans (E2a o)
                have n7:w3.cell? ⟨mb,7,none⟩=some (.slice (some ⟨gm,0,none⟩) k (kids.length + 1)):=(World.cell?_of_block (w:=w2.alloc (.cells #[.int .i64 u.kind,.string u.attr,.slice u.qi u.ni u.ci,.slice u.qw u.nw u.cw,.int .i64 u.lo,.int .i64 u.hi,.int .i64 u.op,.slice u.qk u.nk u.ck] 28)) (a:=⟨mb,7,none⟩) (hg3.block mb (by simp only [size_al];omega) (fun e=>by cases e;omega))).trans ((((Below.refl w2.heap.size w2).alloc (Nat.le_refl _) _).cell (p:=⟨mb,7,none⟩) (by exact lm2)).trans m7)
                have nf:∀ o,w3.frozen? ⟨mb,o,none⟩=false:=fun o=>frz hg3 (by simp only [size_al];omega) (by omega) ((((Below.refl w2.heap.size w2).alloc (Nat.le_refl _) _).frozen (by exact lm2)).trans (mf o))
                have HO3:=hide hown3
                have HG3:=hide hg3
                clear hown3 hg3
                refine hK.out _ _ (KS2 _ E3) (fun hHeld=>?_)
                clear hK K
                simp only [Act.put,List.setIfInBounds_toArray,List.set_cons_zero,List.set_cons_succ]
                refine wpAnyH_take (i:=6) (oi:=⟨some 31,.fieldAddr 28 (.tmp 3) 2,_,_,_,none⟩) (v:=?_) rfl (by kernel_rfl) (by kernel_rfl) (by kernel_rfl) (fun _ _ _ h=>h) (Or.inl ⟨by rfl, ?_⟩) (by assumption) ?_
                rotate_left
                · intro w hSw
                  go_simp
                  with_reducible rfl
                simp only [Act.put,List.setIfInBounds_toArray,List.set_cons_zero,List.set_cons_succ]
                refine wpAnyH_ready (rs:=[7]) (by kernel_rfl) (by simp) ?_
                refine AllReadyH.cons (o:=⟨none,.store 26 (.tmp 31) (.tmp 30),_,_,_,none⟩) rfl (fun K hK=>?_) ?_
                · go_simp
                  refine hK.out _ _ (KS2 _ (fun o=>(set_other _ (by omega) o 7 _).trans (E3 o))) (fun hHeld=>?_)
                  clear hK K
                  skip
                  refine wpAnyH_done (by kernel_rfl) ?_ _
                  have P4:=hide (node_round (V:=V) (uh HB) bZ R3 (uh HG3) hne1 hne2 hne3 hg1n sv1 sv2 hVs sZ c0 c1 c2 c3 c4 c5 c6 n7 nf (uh HO3) (uh HI1) (uh HW1) (uh HSP) (uh HU) (uh HUS) (uh HXX))
                  have hl4:(us ++ [u]).length=k + 1:=by rw [List.length_append,uh HUS];rfl
                  go_wp2
                  go_roundw
                  case rel=>exact ⟨k + 1,us ++ [u],by omega,by go_num,hl4,uh P4⟩
                  case measure=>simp [intOf];omega
                exact AllReadyH.nil
              exact AllReadyH.nil
            exact AllReadyH.nil
          refine AllReadyH.cons (o:=⟨some 29,.buildSlice 26 1 #[(0,.tmp 28)],_,_,_,none⟩) rfl (fun K hK=>?_) ?_
          · go_simp
            refine hK.out _ _ (KS2 _ E2a) (fun hHeld=>?_)
            clear hK K
            skip
            refine wpAnyH_ready (rs:=[1]) (by kernel_rfl) (by simp) ?_
            refine AllReadyH.cons (o:=⟨some 26,.load 26 (.tmp 25),_,_,_,none⟩) rfl (fun K hK=>?_) ?_
            · go_simp
              refine hK.out _ _ (KS2 _ E2a) (fun hHeld=>?_)
              clear hK K
              skip
              refine wpAnyH_ready (rs:=[5]) (by kernel_rfl) (by simp) ?_
              refine AllReadyH.cons (o:=⟨some 30,.call { callee:=.builtin .append,args:=#[.tmp 26,.tmp 29],argTypes:=#[26,26] },_,_,_,none⟩) rfl (fun K hK=>?_) ?_
              · refine step_fit rowV (by rfl) (.tmp 26) (.tmp 29) (by rfl) X.heap.size gm (kids.length + 1) us ⟨w2.heap.size,0,none⟩ 1 [u] k 1 (k + 1) (uh HUS) rfl rfl (by rfl) (by rfl) (((uh HO2).below R3).below ((Below.refl _ _).alloc (Nat.le_refl _) _)) (node_src (box_nw _ _)) (by omega) ?_
                intro w3 hown3 hg3
                have s3:=hg3.size
                simp only [size_al] at s3
                have E3:∀ o,w3.cell? ⟨wr.heap.size,o,none⟩=Z.cell? ⟨wr.heap.size,o,none⟩:=fun o=>(World.cell?_of_block (w:=w2.alloc (.cells #[.int .i64 u.kind,.string u.attr,.slice u.qi u.ni u.ci,.slice u.qw u.nw u.cw,.int .i64 u.lo,.int .i64 u.hi,.int .i64 u.op,.slice u.qk u.nk u.ck] 28)) (a:=⟨wr.heap.size,o,none⟩) (hg3.block wr.heap.size (by simp only [size_al];omega) (fun e=>by cases e;omega))).trans (E2a o)
                have n7:w3.cell? ⟨mb,7,none⟩=some (.slice (some ⟨gm,0,none⟩) k (kids.length + 1)):=(World.cell?_of_block (w:=w2.alloc (.cells #[.int .i64 u.kind,.string u.attr,.slice u.qi u.ni u.ci,.slice u.qw u.nw u.cw,.int .i64 u.lo,.int .i64 u.hi,.int .i64 u.op,.slice u.qk u.nk u.ck] 28)) (a:=⟨mb,7,none⟩) (hg3.block mb (by simp only [size_al];omega) (fun e=>by cases e;omega))).trans ((((Below.refl w2.heap.size w2).alloc (Nat.le_refl _) _).cell (p:=⟨mb,7,none⟩) (by exact lm2)).trans m7)
                have nf:∀ o,w3.frozen? ⟨mb,o,none⟩=false:=fun o=>frz hg3 (by simp only [size_al];omega) (by omega) ((((Below.refl w2.heap.size w2).alloc (Nat.le_refl _) _).frozen (by exact lm2)).trans (mf o))
                have HO3:=hide hown3
                have HG3:=hide hg3
                clear hown3 hg3
                refine hK.out _ _ (KS2 _ E3) (fun hHeld=>?_)
                clear hK K
                simp only [Act.put,List.setIfInBounds_toArray,List.set_cons_zero,List.set_cons_succ]
                refine wpAnyH_take (i:=6) (oi:=⟨some 31,.fieldAddr 28 (.tmp 3) 2,_,_,_,none⟩) (v:=?_) rfl (by kernel_rfl) (by kernel_rfl) (by kernel_rfl) (fun _ _ _ h=>h) (Or.inl ⟨by rfl, ?_⟩) (by assumption) ?_
                rotate_left
                · intro w hSw
                  go_simp
                  with_reducible rfl
                simp only [Act.put,List.setIfInBounds_toArray,List.set_cons_zero,List.set_cons_succ]
                refine wpAnyH_ready (rs:=[7]) (by kernel_rfl) (by simp) ?_
                refine AllReadyH.cons (o:=⟨none,.store 26 (.tmp 31) (.tmp 30),_,_,_,none⟩) rfl (fun K hK=>?_) ?_
                · go_simp
                  refine hK.out _ _ (KS2 _ (fun o=>(set_other _ (by omega) o 7 _).trans (E3 o))) (fun hHeld=>?_)
                  clear hK K
                  skip
                  refine wpAnyH_done (by kernel_rfl) ?_ _
                  have P4:=hide (node_round (V:=V) (uh HB) bZ R3 (uh HG3) hne1 hne2 hne3 hg1n sv1 sv2 hVs sZ c0 c1 c2 c3 c4 c5 c6 n7 nf (uh HO3) (uh HI1) (uh HW1) (uh HSP) (uh HU) (uh HUS) (uh HXX))
                  have hl4:(us ++ [u]).length=k + 1:=by rw [List.length_append,uh HUS];rfl
                  go_wp2
                  go_roundw
                  case rel=>exact ⟨k + 1,us ++ [u],by omega,by go_num,hl4,uh P4⟩
                  case measure=>simp [intOf];omega
                exact AllReadyH.nil
              exact AllReadyH.nil
            exact AllReadyH.nil
          exact AllReadyH.nil
        exact AllReadyH.nil
      · have ki1:¬ (k:Int) < (kids.length:Int):=by omega
        obtain rfl:k=kids.length:=by omega
        have HOWN:=hide hown
        have HUS:=hide hus
        have HB:=hide hbel
        have HI1:=hide hi1
        have HW1:=hide hw1
        have HSP:=hide hsp
        have sXX:=uh SX
        have hmr:mb < wr.heap.size:=by omega
        have hgr:gm < wr.heap.size:=by omega
        clear hown hus hbel hi1 hw1 hsp
        go_wp2_with (at_builtin;refine wpList_fit rowV rfl _ _ rfl X.heap.size gm (kids.length + 1) us ⟨wr.heap.size,0,none⟩ 1 [spV] kids.length 1 (kids.length + 1) (uh HUS) rfl rfl rfl rfl ((uh HOWN).below ((Below.refl _ _).alloc (Nat.le_refl _) _)) (node_src (u:=spV) (box_nw _ _)) (Nat.le_refl _) ?_;intro w3 hown3 hg3;have HO3:=hide hown3;have HG3:=hide hg3;clear hown3 hg3)
        have AL:=(Below.refl wr.heap.size wr).alloc (Nat.le_refl _) (.cells #[.int .i64 0,.string ⟨#[]⟩,.slice none 0 0,.slice none 0 0,.int .i64 0,.int .i64 0,.int .i64 77,.slice none 0 0] 28)
        have s3:=(uh HG3).size
        simp only [size_al] at s3
        have N3:∀ g,g ≠ gm→g < wr.heap.size→∀ o,w3.cell? ⟨g,o,none⟩=wr.cell? ⟨g,o,none⟩:=fun g hg hl o=>(World.cell?_of_block (w:=wr.alloc (.cells #[.int .i64 0,.string ⟨#[]⟩,.slice none 0 0,.slice none 0 0,.int .i64 0,.int .i64 0,.int .i64 77,.slice none 0 0] 28)) (a:=⟨g,o,none⟩) ((uh HG3).block g (by simp only [size_al];omega) (fun e=>by cases e;exact hg rfl))).trans (AL.cell (p:=⟨g,o,none⟩) (by exact hl))
        have bw3:Below X.heap.size X w3:=(below_sub (uh HB) AL).grown (uh HG3) (by simp only [size_al];have:=(uh HB).size;omega) (fun k hk=>by cases hk;exact hne3)
        have n0:=(N3 mb hne1 hmr 0).trans c0
        have n1:=(N3 mb hne1 hmr 1).trans c1
        have n2:=(N3 mb hne1 hmr 2).trans c2
        have n3:=(N3 mb hne1 hmr 3).trans c3
        have n4:=(N3 mb hne1 hmr 4).trans c4
        have n5:=(N3 mb hne1 hmr 5).trans c5
        have n6:=(N3 mb hne1 hmr 6).trans c6
        obtain ⟨_,_,_,_,_,_,_,x7⟩:=of8' ((bw3.block _ (heap_lt (uh HX8))).trans (uh HX8))
        have hz3:=(bw3.block _ (heap_lt (uh XZ))).trans (uh XZ)
        obtain ⟨o0,o1,o2,o3,o4,o5,o6,o7⟩:=of8' hz3
        have rf:∀ o,w3.frozen? ⟨w.heap.size + 1,o,none⟩=false:=fun o=>frozen_free hz3
        have q1:¬ mb=w.heap.size + 1:=by omega
        have q2:¬ w.heap.size + 1=mb:=by omega
        have t1:(0:Int)≤(kids.length:Int):=by omega
        have t4:(kids.length:Int)≤(kids.length:Int) + 1:=by omega
        have BW3:=hide bw3
        have HN3:Hid (∀ g,g ≠ gm→g < wr.heap.size→w3.heap[g]? = wr.heap[g]?):=hide (fun g hg hl=>((uh HG3).block g (by simp only [size_al];omega) (fun e=>by cases e;exact hg rfl)).trans (heap_old hl))
        clear bw3 N3 c0 c1 c2 c3 c4 c5 c6 c7 hcf hz3 AL ki1
        refine wp_region_held_drew (S:=fun w'=>w'.cell? ⟨mb,0,none⟩=some (.int .i64 kind)∧w'.cell? ⟨mb,1,none⟩=some (.string attr)∧w'.cell? ⟨mb,2,none⟩=some (.slice (some ⟨g1,0,none⟩) ints.length k1)∧w'.cell? ⟨mb,3,none⟩=some (.slice (some ⟨g2,0,none⟩) words.length k2)∧w'.cell? ⟨mb,4,none⟩=some (.int .i64 lo)∧w'.cell? ⟨mb,5,none⟩=some (.int .i64 hi)∧w'.cell? ⟨mb,6,none⟩=some (.int .i64 op)∧w'.cell? ⟨w.heap.size,7,none⟩=some (.slice qk kids.length ck)) (by kernel_rfl) ⟨n0,n1,n2,n3,n4,n5,n6,x7⟩ (fun hHeld=>?_)
        refine wpAnyH_take (i:=0) (oi:=⟨some 38,.fieldAddr 28 (.tmp 3) 0,_,_,_,none⟩) (v:=?_) rfl (by kernel_rfl) (by kernel_rfl) (by kernel_rfl) (fun _ _ _ h=>h) (Or.inl ⟨by rfl, ?_⟩) (by assumption) ?_
        rotate_left
        · intro wq hSw
          go_simp
          with_reducible rfl
        simp only [Act.put,List.setIfInBounds_toArray,List.set_cons_zero,List.set_cons_succ]
        refine wpAnyH_take (i:=1) (oi:=⟨some 39,.load 25 (.tmp 38),_,_,_,none⟩) (v:=?_) rfl (by kernel_rfl) (by kernel_rfl) (by kernel_rfl) (fun _ _ _ h=>h) (Or.inl ⟨by rfl, ?_⟩) (by assumption) ?_
        rotate_left
        · intro wq hSw
          go_simp
          with_reducible rfl
        simp only [Act.put,List.setIfInBounds_toArray,List.set_cons_zero,List.set_cons_succ]
        refine wpAnyH_take (i:=2) (oi:=⟨some 40,.fieldAddr 28 (.tmp 3) 1,_,_,_,none⟩) (v:=?_) rfl (by kernel_rfl) (by kernel_rfl) (by kernel_rfl) (fun _ _ _ h=>h) (Or.inl ⟨by rfl, ?_⟩) (by assumption) ?_
        rotate_left
        · intro wq hSw
          go_simp
          with_reducible rfl
        simp only [Act.put,List.setIfInBounds_toArray,List.set_cons_zero,List.set_cons_succ]
        refine wpAnyH_take (i:=3) (oi:=⟨some 41,.load 3 (.tmp 40),_,_,_,none⟩) (v:=?_) rfl (by kernel_rfl) (by kernel_rfl) (by kernel_rfl) (fun _ _ _ h=>h) (Or.inl ⟨by rfl, ?_⟩) (by assumption) ?_
        rotate_left
        · intro wq hSw
          go_simp
          with_reducible rfl
        simp only [Act.put,List.setIfInBounds_toArray,List.set_cons_zero,List.set_cons_succ]
        refine wpAnyH_take (i:=4) (oi:=⟨some 42,.move (.tmp 6),_,_,_,none⟩) (v:=?_) rfl (by kernel_rfl) (by kernel_rfl) (by kernel_rfl) (fun _ _ _ h=>h) (Or.inl ⟨by rfl, ?_⟩) (by assumption) ?_
        rotate_left
        · intro wq hSw
          go_simp
          with_reducible rfl
        simp only [Act.put,List.setIfInBounds_toArray,List.set_cons_zero,List.set_cons_succ]
        refine wpAnyH_take (i:=5) (oi:=⟨some 43,.fieldAddr 28 (.tmp 1) 2,_,_,_,none⟩) (v:=?_) rfl (by kernel_rfl) (by kernel_rfl) (by kernel_rfl) (fun _ _ _ h=>h) (Or.inl ⟨by rfl, ?_⟩) (by assumption) ?_
        rotate_left
        · intro wq hSw
          go_simp
          with_reducible rfl
        simp only [Act.put,List.setIfInBounds_toArray,List.set_cons_zero,List.set_cons_succ]
        refine wpAnyH_take (i:=6) (oi:=⟨some 44,.load 26 (.tmp 43),_,_,_,none⟩) (v:=?_) rfl (by kernel_rfl) (by kernel_rfl) (by kernel_rfl) (fun _ _ _ h=>h) (Or.inl ⟨by rfl, ?_⟩) (by assumption) ?_
        rotate_left
        · intro wq hSw
          go_simp
          with_reducible rfl
        simp only [Act.put,List.setIfInBounds_toArray,List.set_cons_zero,List.set_cons_succ]
        refine wpAnyH_take (i:=7) (oi:=⟨some 45,.call { callee:=.builtin .len,args:=#[.tmp 44],argTypes:=#[26] },_,_,_,none⟩) (v:=?_) rfl (by kernel_rfl) (by kernel_rfl) (by kernel_rfl) (fun _ _ _ h=>h) (Or.inl ⟨by rfl, ?_⟩) (by assumption) ?_
        rotate_left
        · intro wq hSw
          go_simp
          with_reducible rfl
        simp only [Act.put,List.setIfInBounds_toArray,List.set_cons_zero,List.set_cons_succ]
        refine wpAnyH_ready (rs:=[8]) (by kernel_rfl) (by simp) ?_
        refine AllReadyH.cons (o:=⟨some 46,.slice 26 (.tmp 42) none (some (.tmp 45)) none,_,_,_,none⟩) rfl (fun K hK=>?_) ?_
        · go_simp
          refine hK.out _ _ (⟨n0,n1,n2,n3,n4,n5,n6,x7⟩) (fun hHeld=>?_)
          clear hK K
          refine wpAnyH_take (i:=9) (oi:=⟨some 47,.build 28 #[(0,.tmp 39),(1,.tmp 41),(2,.tmp 46)],_,_,_,none⟩) (v:=?_) rfl (by kernel_rfl) (by kernel_rfl) (by kernel_rfl) (fun _ _ _ h=>h) (Or.inl ⟨by rfl, ?_⟩) (by assumption) ?_
          rotate_left
          · intro wq hSw
            go_simp
            with_reducible rfl
          simp only [Act.put,List.setIfInBounds_toArray,List.set_cons_zero,List.set_cons_succ]
          refine wpAnyH_ready (rs:=[10]) (by kernel_rfl) (by simp) ?_
          refine AllReadyH.cons (o:=⟨none,.store 28 (.tmp 2) (.tmp 47),_,_,_,none⟩) rfl (fun K hK=>?_) ?_
          · go_simp
            refine hK.out _ _ (by go_keep) (fun hHeld=>?_)
            clear hK K
            refine wpAnyH_done (by kernel_rfl) ?_ _
            have zu:w.heap.size + 1 < V.heap.size:=by have:=hvb.size;omega
            obtain ⟨⟨y_0,y_1,y_2,y_3,y_4,y_5,y_6,y_7⟩,SPF,BF⟩:=node_final (op:=op) (lo:=lo) (hi:=hi) (kind:=kind) (attr:=attr) (V:=V) (mb:=mb) (uh BX) (uh BW3) sXX (uh HG3) (uh HN3) s3 hne3 hg1n hgX sv2 zu hlen o0 o1 o2 o3 o4 o5 o6 o7 (uh HO3) (uh HI1) (uh HW1) (uh HSP) (uh HUS) r1 z1 r2 z2
            clear n0 n1 n2 n3 n4 n5 n6 x7 o0 o1 o2 o3 o4 o5 o6 o7 rf q1 q2 t1 t4
            go_wp2
            obtain ⟨WF,hWF⟩:∃ WF,((((((((w3.setCell ⟨w.heap.size + 1,0,none⟩ (.int .i64 kind)).setCell ⟨w.heap.size + 1,1,none⟩ (.string attr)).setCell ⟨w.heap.size + 1,2,none⟩ (.slice (some ⟨g1,0,none⟩) ints.length k1)).setCell ⟨w.heap.size + 1,3,none⟩ (.slice (some ⟨g2,0,none⟩) words.length k2)).setCell ⟨w.heap.size + 1,4,none⟩ (.int .i64 lo)).setCell ⟨w.heap.size + 1,5,none⟩ (.int .i64 hi)).setCell ⟨w.heap.size + 1,6,none⟩ (.int .i64 op)).setCell ⟨w.heap.size + 1,7,none⟩ (.slice (some ⟨gm,0,none⟩) kids.length (kids.length + 1)))=WF:=⟨_,rfl⟩
            rw [hWF] at SPF BF y_0 y_1 y_2 y_3 y_4 y_5 y_6 y_7
            rw [hWF]
            have SPF2:=hide SPF
            have BF2:=hide BF
            clear SPF BF hWF HO3 HG3 HN3 BW3 HSP HI1 HW1 HOWN HUS HB
            refine bodyPost_ret (v:=.agg #[.int .i64 kind,.string attr,.slice (some ⟨g1,0,none⟩) ints.length k1,.slice (some ⟨g2,0,none⟩) words.length k2,.int .i64 lo,.int .i64 hi,.int .i64 op,.slice (some ⟨gm,0,none⟩) kids.length (kids.length + 1)]) (by simp [results,Try.results5,go_sem,y_0,y_1,y_2,y_3,y_4,y_5,y_6,y_7]) rfl ⟨⟨⟨kind,attr,some ⟨g1,0,none⟩,ints.length,k1,some ⟨g2,0,none⟩,words.length,k2,lo,hi,op,some ⟨gm,0,none⟩,kids.length,kids.length + 1⟩,rfl,(uh SPF2).keep (Below.refl _ _).drew⟩,(uh BF2).drew⟩

          exact AllReadyH.nil

        exact AllReadyH.nil
  · have zr:=R2.size
    have zs:=hb1.size
    have ug1:g1 < w1.heap.size:=by obtain ⟨b,off,hq,hB,_⟩:=s1.1 (by simp [spI]);cases hq;exact hB
    have ug2:g2 < w1.heap.size:=by obtain ⟨b,off,hq,hB,_⟩:=t1.1 (by simp [spS]);cases hq;exact hB
    have zY:Y.heap.size=X.heap.size + 2:=by rw [hY,drew_heap];simp
    have OW1:OwnK encV 28 8 X.heap.size w1 (some ⟨X.heap.size + 1,0,none⟩) (kids.length + 1) []:=OwnK.below (w:=Y) (by rw [hY];exact World.ownsRow.drew (by have:=ownV (B:=X.heap.size) (w:=X.alloc (.cells #[.int .i64 0,.string ⟨#[]⟩,.slice none 0 0,.slice none 0 0,.int .i64 0,.int .i64 0,.int .i64 0,.slice none 0 0] 28)) (by simp) (by unfold maxLen;omega) hcs;rwa [size_al] at this)) hb1
    have hvo:OwnK encV 28 8 X.heap.size ((((((((w1.setCell ⟨X.heap.size,0,none⟩ (.int .i64 kind)).setCell ⟨X.heap.size,1,none⟩ (.string attr)).setCell ⟨X.heap.size,2,none⟩ (.slice (some ⟨g1,0,none⟩) ints.length k1)).setCell ⟨X.heap.size,3,none⟩ (.slice (some ⟨g2,0,none⟩) words.length k2)).setCell ⟨X.heap.size,4,none⟩ (.int .i64 lo)).setCell ⟨X.heap.size,5,none⟩ (.int .i64 hi)).setCell ⟨X.heap.size,6,none⟩ (.int .i64 op)).setCell ⟨X.heap.size,7,none⟩ (.slice (some ⟨X.heap.size + 1,0,none⟩) 0 (kids.length + 1))) (some ⟨X.heap.size + 1,0,none⟩) (kids.length + 1) []:=(OwnK.setOther (OwnK.setOther (OwnK.setOther (OwnK.setOther (OwnK.setOther (OwnK.setOther (OwnK.setOther (OwnK.setOther OW1 (by first | (simp;done) | (simp;omega)) _) (by first | (simp;done) | (simp;omega)) _) (by first | (simp;done) | (simp;omega)) _) (by first | (simp;done) | (simp;omega)) _) (by first | (simp;done) | (simp;omega)) _) (by first | (simp;done) | (simp;omega)) _) (by first | (simp;done) | (simp;omega)) _) (by first | (simp;done) | (simp;omega)) _)
    have hvb:Below X.heap.size X ((((((((w1.setCell ⟨X.heap.size,0,none⟩ (.int .i64 kind)).setCell ⟨X.heap.size,1,none⟩ (.string attr)).setCell ⟨X.heap.size,2,none⟩ (.slice (some ⟨g1,0,none⟩) ints.length k1)).setCell ⟨X.heap.size,3,none⟩ (.slice (some ⟨g2,0,none⟩) words.length k2)).setCell ⟨X.heap.size,4,none⟩ (.int .i64 lo)).setCell ⟨X.heap.size,5,none⟩ (.int .i64 hi)).setCell ⟨X.heap.size,6,none⟩ (.int .i64 op)).setCell ⟨X.heap.size,7,none⟩ (.slice (some ⟨X.heap.size + 1,0,none⟩) 0 (kids.length + 1))):=set8_below R2 (by omega) _ _ _ _ _ _ _ _
    have hvi:LsB encI 3 1 ((((((((w1.setCell ⟨X.heap.size,0,none⟩ (.int .i64 kind)).setCell ⟨X.heap.size,1,none⟩ (.string attr)).setCell ⟨X.heap.size,2,none⟩ (.slice (some ⟨g1,0,none⟩) ints.length k1)).setCell ⟨X.heap.size,3,none⟩ (.slice (some ⟨g2,0,none⟩) words.length k2)).setCell ⟨X.heap.size,4,none⟩ (.int .i64 lo)).setCell ⟨X.heap.size,5,none⟩ (.int .i64 hi)).setCell ⟨X.heap.size,6,none⟩ (.int .i64 op)).setCell ⟨X.heap.size,7,none⟩ (.slice (some ⟨X.heap.size + 1,0,none⟩) 0 (kids.length + 1))) g1 k1 (ints ++ spI):=(LsB.setOther (LsB.setOther (LsB.setOther (LsB.setOther (LsB.setOther (LsB.setOther (LsB.setOther (LsB.setOther s1 (by omega) _ _) (by omega) _ _) (by omega) _ _) (by omega) _ _) (by omega) _ _) (by omega) _ _) (by omega) _ _) (by omega) _ _)
    have hvw:LsB encS 9 1 ((((((((w1.setCell ⟨X.heap.size,0,none⟩ (.int .i64 kind)).setCell ⟨X.heap.size,1,none⟩ (.string attr)).setCell ⟨X.heap.size,2,none⟩ (.slice (some ⟨g1,0,none⟩) ints.length k1)).setCell ⟨X.heap.size,3,none⟩ (.slice (some ⟨g2,0,none⟩) words.length k2)).setCell ⟨X.heap.size,4,none⟩ (.int .i64 lo)).setCell ⟨X.heap.size,5,none⟩ (.int .i64 hi)).setCell ⟨X.heap.size,6,none⟩ (.int .i64 op)).setCell ⟨X.heap.size,7,none⟩ (.slice (some ⟨X.heap.size + 1,0,none⟩) 0 (kids.length + 1))) g2 k2 (words ++ spS):=(LsB.setOther (LsB.setOther (LsB.setOther (LsB.setOther (LsB.setOther (LsB.setOther (LsB.setOther (LsB.setOther t1 (by omega) _ _) (by omega) _ _) (by omega) _ _) (by omega) _ _) (by omega) _ _) (by omega) _ _) (by omega) _ _) (by omega) _ _)
    have v0:((((((((w1.setCell ⟨X.heap.size,0,none⟩ (.int .i64 kind)).setCell ⟨X.heap.size,1,none⟩ (.string attr)).setCell ⟨X.heap.size,2,none⟩ (.slice (some ⟨g1,0,none⟩) ints.length k1)).setCell ⟨X.heap.size,3,none⟩ (.slice (some ⟨g2,0,none⟩) words.length k2)).setCell ⟨X.heap.size,4,none⟩ (.int .i64 lo)).setCell ⟨X.heap.size,5,none⟩ (.int .i64 hi)).setCell ⟨X.heap.size,6,none⟩ (.int .i64 op)).setCell ⟨X.heap.size,7,none⟩ (.slice (some ⟨X.heap.size + 1,0,none⟩) 0 (kids.length + 1))).cell? ⟨X.heap.size,0,none⟩=some (.int .i64 kind):=by go_simp
    have v1:((((((((w1.setCell ⟨X.heap.size,0,none⟩ (.int .i64 kind)).setCell ⟨X.heap.size,1,none⟩ (.string attr)).setCell ⟨X.heap.size,2,none⟩ (.slice (some ⟨g1,0,none⟩) ints.length k1)).setCell ⟨X.heap.size,3,none⟩ (.slice (some ⟨g2,0,none⟩) words.length k2)).setCell ⟨X.heap.size,4,none⟩ (.int .i64 lo)).setCell ⟨X.heap.size,5,none⟩ (.int .i64 hi)).setCell ⟨X.heap.size,6,none⟩ (.int .i64 op)).setCell ⟨X.heap.size,7,none⟩ (.slice (some ⟨X.heap.size + 1,0,none⟩) 0 (kids.length + 1))).cell? ⟨X.heap.size,1,none⟩=some (.string attr):=by go_simp
    have v2:((((((((w1.setCell ⟨X.heap.size,0,none⟩ (.int .i64 kind)).setCell ⟨X.heap.size,1,none⟩ (.string attr)).setCell ⟨X.heap.size,2,none⟩ (.slice (some ⟨g1,0,none⟩) ints.length k1)).setCell ⟨X.heap.size,3,none⟩ (.slice (some ⟨g2,0,none⟩) words.length k2)).setCell ⟨X.heap.size,4,none⟩ (.int .i64 lo)).setCell ⟨X.heap.size,5,none⟩ (.int .i64 hi)).setCell ⟨X.heap.size,6,none⟩ (.int .i64 op)).setCell ⟨X.heap.size,7,none⟩ (.slice (some ⟨X.heap.size + 1,0,none⟩) 0 (kids.length + 1))).cell? ⟨X.heap.size,2,none⟩=some (.slice (some ⟨g1,0,none⟩) ints.length k1):=by go_simp
    have v3:((((((((w1.setCell ⟨X.heap.size,0,none⟩ (.int .i64 kind)).setCell ⟨X.heap.size,1,none⟩ (.string attr)).setCell ⟨X.heap.size,2,none⟩ (.slice (some ⟨g1,0,none⟩) ints.length k1)).setCell ⟨X.heap.size,3,none⟩ (.slice (some ⟨g2,0,none⟩) words.length k2)).setCell ⟨X.heap.size,4,none⟩ (.int .i64 lo)).setCell ⟨X.heap.size,5,none⟩ (.int .i64 hi)).setCell ⟨X.heap.size,6,none⟩ (.int .i64 op)).setCell ⟨X.heap.size,7,none⟩ (.slice (some ⟨X.heap.size + 1,0,none⟩) 0 (kids.length + 1))).cell? ⟨X.heap.size,3,none⟩=some (.slice (some ⟨g2,0,none⟩) words.length k2):=by go_simp
    have v4:((((((((w1.setCell ⟨X.heap.size,0,none⟩ (.int .i64 kind)).setCell ⟨X.heap.size,1,none⟩ (.string attr)).setCell ⟨X.heap.size,2,none⟩ (.slice (some ⟨g1,0,none⟩) ints.length k1)).setCell ⟨X.heap.size,3,none⟩ (.slice (some ⟨g2,0,none⟩) words.length k2)).setCell ⟨X.heap.size,4,none⟩ (.int .i64 lo)).setCell ⟨X.heap.size,5,none⟩ (.int .i64 hi)).setCell ⟨X.heap.size,6,none⟩ (.int .i64 op)).setCell ⟨X.heap.size,7,none⟩ (.slice (some ⟨X.heap.size + 1,0,none⟩) 0 (kids.length + 1))).cell? ⟨X.heap.size,4,none⟩=some (.int .i64 lo):=by go_simp
    have v5:((((((((w1.setCell ⟨X.heap.size,0,none⟩ (.int .i64 kind)).setCell ⟨X.heap.size,1,none⟩ (.string attr)).setCell ⟨X.heap.size,2,none⟩ (.slice (some ⟨g1,0,none⟩) ints.length k1)).setCell ⟨X.heap.size,3,none⟩ (.slice (some ⟨g2,0,none⟩) words.length k2)).setCell ⟨X.heap.size,4,none⟩ (.int .i64 lo)).setCell ⟨X.heap.size,5,none⟩ (.int .i64 hi)).setCell ⟨X.heap.size,6,none⟩ (.int .i64 op)).setCell ⟨X.heap.size,7,none⟩ (.slice (some ⟨X.heap.size + 1,0,none⟩) 0 (kids.length + 1))).cell? ⟨X.heap.size,5,none⟩=some (.int .i64 hi):=by go_simp
    have v6:((((((((w1.setCell ⟨X.heap.size,0,none⟩ (.int .i64 kind)).setCell ⟨X.heap.size,1,none⟩ (.string attr)).setCell ⟨X.heap.size,2,none⟩ (.slice (some ⟨g1,0,none⟩) ints.length k1)).setCell ⟨X.heap.size,3,none⟩ (.slice (some ⟨g2,0,none⟩) words.length k2)).setCell ⟨X.heap.size,4,none⟩ (.int .i64 lo)).setCell ⟨X.heap.size,5,none⟩ (.int .i64 hi)).setCell ⟨X.heap.size,6,none⟩ (.int .i64 op)).setCell ⟨X.heap.size,7,none⟩ (.slice (some ⟨X.heap.size + 1,0,none⟩) 0 (kids.length + 1))).cell? ⟨X.heap.size,6,none⟩=some (.int .i64 op):=by go_simp
    have v7:((((((((w1.setCell ⟨X.heap.size,0,none⟩ (.int .i64 kind)).setCell ⟨X.heap.size,1,none⟩ (.string attr)).setCell ⟨X.heap.size,2,none⟩ (.slice (some ⟨g1,0,none⟩) ints.length k1)).setCell ⟨X.heap.size,3,none⟩ (.slice (some ⟨g2,0,none⟩) words.length k2)).setCell ⟨X.heap.size,4,none⟩ (.int .i64 lo)).setCell ⟨X.heap.size,5,none⟩ (.int .i64 hi)).setCell ⟨X.heap.size,6,none⟩ (.int .i64 op)).setCell ⟨X.heap.size,7,none⟩ (.slice (some ⟨X.heap.size + 1,0,none⟩) 0 (kids.length + 1))).cell? ⟨X.heap.size,7,none⟩=some (.slice (some ⟨X.heap.size + 1,0,none⟩) 0 (kids.length + 1)):=by go_simp
    have vf:∀ o,((((((((w1.setCell ⟨X.heap.size,0,none⟩ (.int .i64 kind)).setCell ⟨X.heap.size,1,none⟩ (.string attr)).setCell ⟨X.heap.size,2,none⟩ (.slice (some ⟨g1,0,none⟩) ints.length k1)).setCell ⟨X.heap.size,3,none⟩ (.slice (some ⟨g2,0,none⟩) words.length k2)).setCell ⟨X.heap.size,4,none⟩ (.int .i64 lo)).setCell ⟨X.heap.size,5,none⟩ (.int .i64 hi)).setCell ⟨X.heap.size,6,none⟩ (.int .i64 op)).setCell ⟨X.heap.size,7,none⟩ (.slice (some ⟨X.heap.size + 1,0,none⟩) 0 (kids.length + 1))).frozen? ⟨X.heap.size,o,none⟩=false:=fun o=>by go_simp
    have sv:X.heap.size < ((((((((w1.setCell ⟨X.heap.size,0,none⟩ (.int .i64 kind)).setCell ⟨X.heap.size,1,none⟩ (.string attr)).setCell ⟨X.heap.size,2,none⟩ (.slice (some ⟨g1,0,none⟩) ints.length k1)).setCell ⟨X.heap.size,3,none⟩ (.slice (some ⟨g2,0,none⟩) words.length k2)).setCell ⟨X.heap.size,4,none⟩ (.int .i64 lo)).setCell ⟨X.heap.size,5,none⟩ (.int .i64 hi)).setCell ⟨X.heap.size,6,none⟩ (.int .i64 op)).setCell ⟨X.heap.size,7,none⟩ (.slice (some ⟨X.heap.size + 1,0,none⟩) 0 (kids.length + 1))).heap.size∧X.heap.size + 1 < ((((((((w1.setCell ⟨X.heap.size,0,none⟩ (.int .i64 kind)).setCell ⟨X.heap.size,1,none⟩ (.string attr)).setCell ⟨X.heap.size,2,none⟩ (.slice (some ⟨g1,0,none⟩) ints.length k1)).setCell ⟨X.heap.size,3,none⟩ (.slice (some ⟨g2,0,none⟩) words.length k2)).setCell ⟨X.heap.size,4,none⟩ (.int .i64 lo)).setCell ⟨X.heap.size,5,none⟩ (.int .i64 hi)).setCell ⟨X.heap.size,6,none⟩ (.int .i64 op)).setCell ⟨X.heap.size,7,none⟩ (.slice (some ⟨X.heap.size + 1,0,none⟩) 0 (kids.length + 1))).heap.size∧w1.heap.size≤((((((((w1.setCell ⟨X.heap.size,0,none⟩ (.int .i64 kind)).setCell ⟨X.heap.size,1,none⟩ (.string attr)).setCell ⟨X.heap.size,2,none⟩ (.slice (some ⟨g1,0,none⟩) ints.length k1)).setCell ⟨X.heap.size,3,none⟩ (.slice (some ⟨g2,0,none⟩) words.length k2)).setCell ⟨X.heap.size,4,none⟩ (.int .i64 lo)).setCell ⟨X.heap.size,5,none⟩ (.int .i64 hi)).setCell ⟨X.heap.size,6,none⟩ (.int .i64 op)).setCell ⟨X.heap.size,7,none⟩ (.slice (some ⟨X.heap.size + 1,0,none⟩) 0 (kids.length + 1))).heap.size:=by refine ⟨?_, ?_, ?_⟩ <;> simp <;> omega
    obtain ⟨V,hV⟩:∃ V,((((((((w1.setCell ⟨X.heap.size,0,none⟩ (.int .i64 kind)).setCell ⟨X.heap.size,1,none⟩ (.string attr)).setCell ⟨X.heap.size,2,none⟩ (.slice (some ⟨g1,0,none⟩) ints.length k1)).setCell ⟨X.heap.size,3,none⟩ (.slice (some ⟨g2,0,none⟩) words.length k2)).setCell ⟨X.heap.size,4,none⟩ (.int .i64 lo)).setCell ⟨X.heap.size,5,none⟩ (.int .i64 hi)).setCell ⟨X.heap.size,6,none⟩ (.int .i64 op)).setCell ⟨X.heap.size,7,none⟩ (.slice (some ⟨X.heap.size + 1,0,none⟩) 0 (kids.length + 1)))=V:=⟨_,rfl⟩
    obtain ⟨mb,hmb⟩:∃ mb,X.heap.size=mb:=⟨_,rfl⟩
    obtain ⟨gm,hgm⟩:∃ gm,X.heap.size + 1=gm:=⟨_,rfl⟩
    have hne1:mb ≠ gm:=by omega
    have hne2:X.heap.size≤mb:=by omega
    have hne3:X.heap.size≤gm:=by omega
    obtain ⟨sv1,sv2,_⟩:=sv
    have hg1n:g1 ≠ mb∧g1 ≠ gm∧g2 ≠ mb∧g2 ≠ gm:=(by refine ⟨?_, ?_, ?_, ?_⟩ <;> omega)
    have hgX:X.heap.size≤g1∧X.heap.size≤g2:=by omega
    rw [hV] at hvo hvb hvi hvw v0 v1 v2 v3 v4 v5 v6 v7 vf sv1 sv2
    rw [hV]
    rw [hgm] at hvo v7 sv2
    rw [hgm]
    rw [hmb] at v0 v1 v2 v3 v4 v5 v6 v7 vf sv1
    rw [hmb]
    have HX8:=hide (uh X8)
    clear hV hmb hgm s1 t1 hb1 R2 bY hY zr zs zY KS c0 c1 c2 c3 c4 c5 c6 c7 dX hmk3
    go_loopw [21] (fun i wr=>∃ (k:Nat) (us:List Nv),k≤kids.length∧i=.int .i64 k∧us.length=k∧Below X.heap.size X wr∧V.heap.size≤wr.heap.size∧(wr.cell? ⟨mb,0,none⟩=some (.int .i64 kind)∧wr.cell? ⟨mb,1,none⟩=some (.string attr)∧wr.cell? ⟨mb,2,none⟩=some (.slice (some ⟨g1,0,none⟩) ints.length k1)∧wr.cell? ⟨mb,3,none⟩=some (.slice (some ⟨g2,0,none⟩) words.length k2)∧wr.cell? ⟨mb,4,none⟩=some (.int .i64 lo)∧wr.cell? ⟨mb,5,none⟩=some (.int .i64 hi)∧wr.cell? ⟨mb,6,none⟩=some (.int .i64 op)∧wr.cell? ⟨mb,7,none⟩=some (.slice (some ⟨gm,0,none⟩) k (kids.length + 1)))∧(∀ o,wr.frozen? ⟨mb,o,none⟩=false)∧OwnK encV 28 8 X.heap.size wr (some ⟨gm,0,none⟩) (kids.length + 1) us∧LsB encI 3 1 wr g1 k1 (ints ++ spI)∧LsB encS 9 1 wr g2 k2 (words ++ spS)∧∀ (j:Nat) (v:Nv) (x:Nd),us[j]? = some v→kids[j]? = some x→SpIn wr V.heap.size v x) (fun i _=>kids.length - (intOf i).toNat)
    case atStart=>exact ⟨0,[],by omega,rfl,rfl,hvb,Nat.le_refl _,⟨v0,v1,v2,v3,v4,v5,v6,v7⟩,vf,OwnK.mono hvo (by omega),hvi,hvw,fun j v x h=>by simp at h⟩
    case round =>
      obtain ⟨k,us,hkk,rfl,hus,hbel,hVs,⟨c0,c1,c2,c3,c4,c5,c6,c7⟩,hcf,hown,hi1,hw1,hsp⟩:=hrel
      clear v0 v1 v2 v3 v4 v5 v6 v7 vf hvo hvi hvw
      by_cases hlt:k < kids.length
      · obtain ⟨x,hx,hd⟩:=get_at hlt
        clear hd
        obtain ⟨b,off,v,hq,hin,e0,e1,e2,e3,e4,e5,e6,e7⟩:=(uh HKX).on hx hbel
        subst hq
        have hxm:x ∈ kids:=List.mem_of_getElem? hx
        have ki0:(0:Int)≤(k:Int):=by omega
        have ki1:(k:Int) < (kids.length:Int):=by omega
        have HOWN:=hide hown
        have HI1:=hide hi1
        have HW1:=hide hw1
        have HSP:=hide hsp
        have HIN:=hide hin
        have HXX:=hide hx
        have HUS:=hide hus
        have HB:=hide hbel
        have hTT:=uh IH x hxm v
        have hwx:=Nat.le_trans (wtL_mem hxm) l3
        clear hown hi1 hw1 hsp hin hx hus hxm hbel
        go_wp2
        obtain ⟨Z,hZ⟩:∃ Z,wr.alloc (.cells #[.int .i64 v.kind,.string v.attr,.slice v.qi v.ni v.ci,.slice v.qw v.nw v.cw,.int .i64 v.lo,.int .i64 v.hi,.int .i64 v.op,.slice v.qk v.nk v.ck] 28)=Z:=⟨_,rfl⟩
        rw [hZ]
        have zk:Z.heap[wr.heap.size]? = some (.cells #[.int .i64 v.kind,.string v.attr,.slice v.qi v.ni v.ci,.slice v.qw v.nw v.cw,.int .i64 v.lo,.int .i64 v.hi,.int .i64 v.op,.slice v.qk v.nk v.ck] 28 (0,0)):=by rw [← hZ];exact box_nw _ _
        have bZ:Below wr.heap.size wr Z:=by rw [← hZ];exact (Below.refl _ _).alloc (Nat.le_refl _) _
        have sZ:Z.heap.size=wr.heap.size + 1:=by rw [← hZ];simp
        have hmr:mb < wr.heap.size:=by omega
        have hgr:gm < wr.heap.size:=by omega
        have q7:Z.cell? ⟨mb,7,none⟩=some (.slice (some ⟨gm,0,none⟩) k (kids.length + 1)):=(bZ.cell (p:=⟨mb,7,none⟩) (by exact hmr)).trans c7
        have qf:∀ o,Z.frozen? ⟨mb,o,none⟩=false:=fun o=>(bZ.frozen (by exact hmr)).trans (hcf o)
        have KS2:∀ W:World,(∀ o,W.cell? ⟨wr.heap.size,o,none⟩=Z.cell? ⟨wr.heap.size,o,none⟩)→(fun w'=>w'.cell? ⟨wr.heap.size,0,none⟩=some (.int .i64 v.kind)∧w'.cell? ⟨wr.heap.size,1,none⟩=some (.string v.attr)∧w'.cell? ⟨wr.heap.size,2,none⟩=some (.slice v.qi v.ni v.ci)∧w'.cell? ⟨wr.heap.size,3,none⟩=some (.slice v.qw v.nw v.cw)∧w'.cell? ⟨wr.heap.size,4,none⟩=some (.int .i64 v.lo)∧w'.cell? ⟨wr.heap.size,5,none⟩=some (.int .i64 v.hi)∧w'.cell? ⟨wr.heap.size,6,none⟩=some (.int .i64 v.op)∧w'.cell? ⟨wr.heap.size,7,none⟩=some (.slice v.qk v.nk v.ck)) W:=fun W hb=>by
          obtain ⟨a0,a1,a2,a3,a4,a5,a6,a7⟩:=of8' zk
          exact ⟨(hb 0).trans a0,(hb 1).trans a1,(hb 2).trans a2,(hb 3).trans a3,(hb 4).trans a4,(hb 5).trans a5,(hb 6).trans a6,(hb 7).trans a7⟩
        have E0:∀ o,Z.drew.cell? ⟨wr.heap.size,o,none⟩=Z.cell? ⟨wr.heap.size,o,none⟩:=fun o=>rfl
        obtain ⟨f0,f1,f2,f3,f4,f5,f6,f7⟩:=KS2 Z (fun o=>rfl)
        have hNd:=hTT Z.drew ((uh HIN).keep bZ.drew) hwx
        simp only [Nv.val] at hNd
        have ZK:=hide zk
        have HO2:=hide ((uh HOWN).below bZ)
        have hnn:¬ wr.heap.size=mb:=by omega
        clear e0 e1 e2 e3 e4 e5 e6 e7 zk hTT hwx
        refine wp_region_held_drew (S:=fun w'=>w'.cell? ⟨wr.heap.size,0,none⟩=some (.int .i64 v.kind)∧w'.cell? ⟨wr.heap.size,1,none⟩=some (.string v.attr)∧w'.cell? ⟨wr.heap.size,2,none⟩=some (.slice v.qi v.ni v.ci)∧w'.cell? ⟨wr.heap.size,3,none⟩=some (.slice v.qw v.nw v.cw)∧w'.cell? ⟨wr.heap.size,4,none⟩=some (.int .i64 v.lo)∧w'.cell? ⟨wr.heap.size,5,none⟩=some (.int .i64 v.hi)∧w'.cell? ⟨wr.heap.size,6,none⟩=some (.int .i64 v.op)∧w'.cell? ⟨wr.heap.size,7,none⟩=some (.slice v.qk v.nk v.ck)) (by kernel_rfl) (KS2 _ E0) (fun hHeld=>?_)
        refine wpAnyH_take (i:=0) (oi:=⟨some 25,.fieldAddr 28 (.tmp 3) 2,_,_,_,none⟩) (v:=?_) rfl (by kernel_rfl) (by kernel_rfl) (by kernel_rfl) (fun _ _ _ h=>h) (Or.inl ⟨by rfl, ?_⟩) (by assumption) ?_
        rotate_left
        · intro w hSw
          go_simp
          with_reducible rfl
        simp only [Act.put,List.setIfInBounds_toArray,List.set_cons_zero,List.set_cons_succ]
        refine wpAnyH_take (i:=2) (oi:=⟨some 27,.load 28 (.tmp 5),_,_,_,none⟩) (v:=?_) rfl (by kernel_rfl) (by kernel_rfl) (by kernel_rfl) (fun _ _ _ h=>h) (Or.inl ⟨by rfl, ?_⟩) (by assumption) ?_
        rotate_left
        · intro w hSw
          go_simp
          with_reducible rfl
        simp only [Act.put,List.setIfInBounds_toArray,List.set_cons_zero,List.set_cons_succ]
        refine wpAnyH_ready (rs:=[1,3]) (by kernel_rfl) (by simp) ?_
        refine AllReadyH.cons (o:=⟨some 26,.load 26 (.tmp 25),_,_,_,none⟩) rfl (fun K hK=>?_) ?_
        · go_simp
          refine hK.out _ _ (KS2 _ E0) (fun hHeld=>?_)
          clear hK K
          skip
          refine wpAnyH_ready (rs:=[3]) (by kernel_rfl) (by simp) ?_
          refine AllReadyH.cons (o:=⟨some 28,.call { callee:=.value (.func 5),args:=#[.tmp 27],argTypes:=#[28] },_,_,_,none⟩) rfl (fun K hK=>?_) ?_
          · go_simp
            refine hNd.mono ?_
            rintro e w2 ⟨⟨u,rfl,hu⟩,hb2⟩
            simp only
            have R3:Below Z.heap.size Z w2:=below_undrewM hb2
            have s2:=R3.size
            have E2:∀ o,w2.cell? ⟨wr.heap.size,o,none⟩=Z.cell? ⟨wr.heap.size,o,none⟩:=fun o=>R3.cell (p:=⟨wr.heap.size,o,none⟩) (by simp only;omega)
            have m7:w2.cell? ⟨mb,7,none⟩=some (.slice (some ⟨gm,0,none⟩) k (kids.length + 1)):=(R3.cell (p:=⟨mb,7,none⟩) (by simp only;omega)).trans q7
            have mf:∀ o,w2.frozen? ⟨mb,o,none⟩=false:=fun o=>(R3.frozen (by simp only;omega)).trans (qf o)
            have lm2:mb < w2.heap.size:=by omega
            have nm2:¬ mb=w2.heap.size:=by omega
            have E2a:∀ o,(w2.alloc (.cells #[.int .i64 u.kind,.string u.attr,.slice u.qi u.ni u.ci,.slice u.qw u.nw u.cw,.int .i64 u.lo,.int .i64 u.hi,.int .i64 u.op,.slice u.qk u.nk u.ck] 28)).cell? ⟨wr.heap.size,o,none⟩=Z.cell? ⟨wr.heap.size,o,none⟩:=fun o=>(((Below.refl w2.heap.size w2).alloc (Nat.le_refl _) _).cell (p:=⟨wr.heap.size,o,none⟩) (by simp only;omega)).trans (E2 o)
            have HU:=hide hu
            clear hu hb2
            refine hK.out _ _ (KS2 _ E2) (fun hHeld=>?_)
            clear hK K
            skip
            refine wpAnyH_ready (rs:=[4]) (by kernel_rfl) (by simp) ?_
            refine AllReadyH.cons (o:=⟨some 29,.buildSlice 26 1 #[(0,.tmp 28)],_,_,_,none⟩) rfl (fun K hK=>?_) ?_
            · go_simp
              refine hK.out _ _ (KS2 _ E2a) (fun hHeld=>?_)
              clear hK K
              skip
              refine wpAnyH_ready (rs:=[5]) (by kernel_rfl) (by simp) ?_
              refine AllReadyH.cons (o:=⟨some 30,.call { callee:=.builtin .append,args:=#[.tmp 26,.tmp 29],argTypes:=#[26,26] },_,_,_,none⟩) rfl (fun K hK=>?_) ?_
              · refine step_fit rowV (by rfl) (.tmp 26) (.tmp 29) (by rfl) X.heap.size gm (kids.length + 1) us ⟨w2.heap.size,0,none⟩ 1 [u] k 1 (k + 1) (uh HUS) rfl rfl (by rfl) (by rfl) (((uh HO2).below R3).below ((Below.refl _ _).alloc (Nat.le_refl _) _)) (node_src (box_nw _ _)) (by omega) ?_
                intro w3 hown3 hg3
                have s3:=hg3.size
                simp only [size_al] at s3
                have E3:∀ o,w3.cell? ⟨wr.heap.size,o,none⟩=Z.cell? ⟨wr.heap.size,o,none⟩:=fun o=>(World.cell?_of_block (w:=w2.alloc (.cells #[.int .i64 u.kind,.string u.attr,.slice u.qi u.ni u.ci,.slice u.qw u.nw u.cw,.int .i64 u.lo,.int .i64 u.hi,.int .i64 u.op,.slice u.qk u.nk u.ck] 28)) (a:=⟨wr.heap.size,o,none⟩) (hg3.block wr.heap.size (by simp only [size_al];omega) (fun e=>by cases e;omega))).trans (E2a o)
                have n7:w3.cell? ⟨mb,7,none⟩=some (.slice (some ⟨gm,0,none⟩) k (kids.length + 1)):=(World.cell?_of_block (w:=w2.alloc (.cells #[.int .i64 u.kind,.string u.attr,.slice u.qi u.ni u.ci,.slice u.qw u.nw u.cw,.int .i64 u.lo,.int .i64 u.hi,.int .i64 u.op,.slice u.qk u.nk u.ck] 28)) (a:=⟨mb,7,none⟩) (hg3.block mb (by simp only [size_al];omega) (fun e=>by cases e;omega))).trans ((((Below.refl w2.heap.size w2).alloc (Nat.le_refl _) _).cell (p:=⟨mb,7,none⟩) (by exact lm2)).trans m7)
                have nf:∀ o,w3.frozen? ⟨mb,o,none⟩=false:=fun o=>frz hg3 (by simp only [size_al];omega) (by omega) ((((Below.refl w2.heap.size w2).alloc (Nat.le_refl _) _).frozen (by exact lm2)).trans (mf o))
                have HO3:=hide hown3
                have HG3:=hide hg3
                clear hown3 hg3
                refine hK.out _ _ (KS2 _ E3) (fun hHeld=>?_)
                clear hK K
                simp only [Act.put,List.setIfInBounds_toArray,List.set_cons_zero,List.set_cons_succ]
                refine wpAnyH_take (i:=6) (oi:=⟨some 31,.fieldAddr 28 (.tmp 3) 2,_,_,_,none⟩) (v:=?_) rfl (by kernel_rfl) (by kernel_rfl) (by kernel_rfl) (fun _ _ _ h=>h) (Or.inl ⟨by rfl, ?_⟩) (by assumption) ?_
                rotate_left
                · intro w hSw
                  go_simp
                  with_reducible rfl
                simp only [Act.put,List.setIfInBounds_toArray,List.set_cons_zero,List.set_cons_succ]
                refine wpAnyH_ready (rs:=[7]) (by kernel_rfl) (by simp) ?_
                refine AllReadyH.cons (o:=⟨none,.store 26 (.tmp 31) (.tmp 30),_,_,_,none⟩) rfl (fun K hK=>?_) ?_
                · go_simp
                  refine hK.out _ _ (KS2 _ (fun o=>(set_other _ (by omega) o 7 _).trans (E3 o))) (fun hHeld=>?_)
                  clear hK K
                  skip
                  refine wpAnyH_done (by kernel_rfl) ?_ _
                  have P4:=hide (node_round (V:=V) (uh HB) bZ R3 (uh HG3) hne1 hne2 hne3 hg1n sv1 sv2 hVs sZ c0 c1 c2 c3 c4 c5 c6 n7 nf (uh HO3) (uh HI1) (uh HW1) (uh HSP) (uh HU) (uh HUS) (uh HXX))
                  have hl4:(us ++ [u]).length=k + 1:=by rw [List.length_append,uh HUS];rfl
                  go_wp2
                  go_roundw
                  case rel=>exact ⟨k + 1,us ++ [u],by omega,by go_num,hl4,uh P4⟩
                  case measure=>simp [intOf];omega
                exact AllReadyH.nil
              exact AllReadyH.nil
            exact AllReadyH.nil
          exact AllReadyH.nil
        refine AllReadyH.cons (o:=⟨some 28,.call { callee:=.value (.func 5),args:=#[.tmp 27],argTypes:=#[28] },_,_,_,none⟩) rfl (fun K hK=>?_) ?_
        · go_simp
          refine hNd.mono ?_
          rintro e w2 ⟨⟨u,rfl,hu⟩,hb2⟩
          simp only
          have R3:Below Z.heap.size Z w2:=below_undrewM hb2
          have s2:=R3.size
          have E2:∀ o,w2.cell? ⟨wr.heap.size,o,none⟩=Z.cell? ⟨wr.heap.size,o,none⟩:=fun o=>R3.cell (p:=⟨wr.heap.size,o,none⟩) (by simp only;omega)
          have m7:w2.cell? ⟨mb,7,none⟩=some (.slice (some ⟨gm,0,none⟩) k (kids.length + 1)):=(R3.cell (p:=⟨mb,7,none⟩) (by simp only;omega)).trans q7
          have mf:∀ o,w2.frozen? ⟨mb,o,none⟩=false:=fun o=>(R3.frozen (by simp only;omega)).trans (qf o)
          have lm2:mb < w2.heap.size:=by omega
          have nm2:¬ mb=w2.heap.size:=by omega
          have E2a:∀ o,(w2.alloc (.cells #[.int .i64 u.kind,.string u.attr,.slice u.qi u.ni u.ci,.slice u.qw u.nw u.cw,.int .i64 u.lo,.int .i64 u.hi,.int .i64 u.op,.slice u.qk u.nk u.ck] 28)).cell? ⟨wr.heap.size,o,none⟩=Z.cell? ⟨wr.heap.size,o,none⟩:=fun o=>(((Below.refl w2.heap.size w2).alloc (Nat.le_refl _) _).cell (p:=⟨wr.heap.size,o,none⟩) (by simp only;omega)).trans (E2 o)
          have HU:=hide hu
          clear hu hb2
          refine hK.out _ _ (KS2 _ E2) (fun hHeld=>?_)
          clear hK K
          skip
          refine wpAnyH_ready (rs:=[1,4]) (by kernel_rfl) (by simp) ?_
          refine AllReadyH.cons (o:=⟨some 26,.load 26 (.tmp 25),_,_,_,none⟩) rfl (fun K hK=>?_) ?_
          · go_simp
            refine hK.out _ _ (KS2 _ E2) (fun hHeld=>?_)
            clear hK K
            skip
            refine wpAnyH_ready (rs:=[4]) (by kernel_rfl) (by simp) ?_
            refine AllReadyH.cons (o:=⟨some 29,.buildSlice 26 1 #[(0,.tmp 28)],_,_,_,none⟩) rfl (fun K hK=>?_) ?_
            · go_simp
              refine hK.out _ _ (KS2 _ E2a) (fun hHeld=>?_)
              clear hK K
              skip
              refine wpAnyH_ready (rs:=[5]) (by kernel_rfl) (by simp) ?_
              refine AllReadyH.cons (o:=⟨some 30,.call { callee:=.builtin .append,args:=#[.tmp 26,.tmp 29],argTypes:=#[26,26] },_,_,_,none⟩) rfl (fun K hK=>?_) ?_
              · refine step_fit rowV (by rfl) (.tmp 26) (.tmp 29) (by rfl) X.heap.size gm (kids.length + 1) us ⟨w2.heap.size,0,none⟩ 1 [u] k 1 (k + 1) (uh HUS) rfl rfl (by rfl) (by rfl) (((uh HO2).below R3).below ((Below.refl _ _).alloc (Nat.le_refl _) _)) (node_src (box_nw _ _)) (by omega) ?_
                intro w3 hown3 hg3
                have s3:=hg3.size
                simp only [size_al] at s3
                have E3:∀ o,w3.cell? ⟨wr.heap.size,o,none⟩=Z.cell? ⟨wr.heap.size,o,none⟩:=fun o=>(World.cell?_of_block (w:=w2.alloc (.cells #[.int .i64 u.kind,.string u.attr,.slice u.qi u.ni u.ci,.slice u.qw u.nw u.cw,.int .i64 u.lo,.int .i64 u.hi,.int .i64 u.op,.slice u.qk u.nk u.ck] 28)) (a:=⟨wr.heap.size,o,none⟩) (hg3.block wr.heap.size (by simp only [size_al];omega) (fun e=>by cases e;omega))).trans (E2a o)
                have n7:w3.cell? ⟨mb,7,none⟩=some (.slice (some ⟨gm,0,none⟩) k (kids.length + 1)):=(World.cell?_of_block (w:=w2.alloc (.cells #[.int .i64 u.kind,.string u.attr,.slice u.qi u.ni u.ci,.slice u.qw u.nw u.cw,.int .i64 u.lo,.int .i64 u.hi,.int .i64 u.op,.slice u.qk u.nk u.ck] 28)) (a:=⟨mb,7,none⟩) (hg3.block mb (by simp only [size_al];omega) (fun e=>by cases e;omega))).trans ((((Below.refl w2.heap.size w2).alloc (Nat.le_refl _) _).cell (p:=⟨mb,7,none⟩) (by exact lm2)).trans m7)
                have nf:∀ o,w3.frozen? ⟨mb,o,none⟩=false:=fun o=>frz hg3 (by simp only [size_al];omega) (by omega) ((((Below.refl w2.heap.size w2).alloc (Nat.le_refl _) _).frozen (by exact lm2)).trans (mf o))
                have HO3:=hide hown3
                have HG3:=hide hg3
                clear hown3 hg3
                refine hK.out _ _ (KS2 _ E3) (fun hHeld=>?_)
                clear hK K
                simp only [Act.put,List.setIfInBounds_toArray,List.set_cons_zero,List.set_cons_succ]
                refine wpAnyH_take (i:=6) (oi:=⟨some 31,.fieldAddr 28 (.tmp 3) 2,_,_,_,none⟩) (v:=?_) rfl (by kernel_rfl) (by kernel_rfl) (by kernel_rfl) (fun _ _ _ h=>h) (Or.inl ⟨by rfl, ?_⟩) (by assumption) ?_
                rotate_left
                · intro w hSw
                  go_simp
                  with_reducible rfl
                simp only [Act.put,List.setIfInBounds_toArray,List.set_cons_zero,List.set_cons_succ]
                refine wpAnyH_ready (rs:=[7]) (by kernel_rfl) (by simp) ?_
                refine AllReadyH.cons (o:=⟨none,.store 26 (.tmp 31) (.tmp 30),_,_,_,none⟩) rfl (fun K hK=>?_) ?_
                · go_simp
                  refine hK.out _ _ (KS2 _ (fun o=>(set_other _ (by omega) o 7 _).trans (E3 o))) (fun hHeld=>?_)
                  clear hK K
                  skip
                  refine wpAnyH_done (by kernel_rfl) ?_ _
                  have P4:=hide (node_round (V:=V) (uh HB) bZ R3 (uh HG3) hne1 hne2 hne3 hg1n sv1 sv2 hVs sZ c0 c1 c2 c3 c4 c5 c6 n7 nf (uh HO3) (uh HI1) (uh HW1) (uh HSP) (uh HU) (uh HUS) (uh HXX))
                  have hl4:(us ++ [u]).length=k + 1:=by rw [List.length_append,uh HUS];rfl
                  go_wp2
                  go_roundw
                  case rel=>exact ⟨k + 1,us ++ [u],by omega,by go_num,hl4,uh P4⟩
                  case measure=>simp [intOf];omega
                exact AllReadyH.nil
              exact AllReadyH.nil
            exact AllReadyH.nil
          refine AllReadyH.cons (o:=⟨some 29,.buildSlice 26 1 #[(0,.tmp 28)],_,_,_,none⟩) rfl (fun K hK=>?_) ?_
          · go_simp
            refine hK.out _ _ (KS2 _ E2a) (fun hHeld=>?_)
            clear hK K
            skip
            refine wpAnyH_ready (rs:=[1]) (by kernel_rfl) (by simp) ?_
            refine AllReadyH.cons (o:=⟨some 26,.load 26 (.tmp 25),_,_,_,none⟩) rfl (fun K hK=>?_) ?_
            · go_simp
              refine hK.out _ _ (KS2 _ E2a) (fun hHeld=>?_)
              clear hK K
              skip
              refine wpAnyH_ready (rs:=[5]) (by kernel_rfl) (by simp) ?_
              refine AllReadyH.cons (o:=⟨some 30,.call { callee:=.builtin .append,args:=#[.tmp 26,.tmp 29],argTypes:=#[26,26] },_,_,_,none⟩) rfl (fun K hK=>?_) ?_
              · refine step_fit rowV (by rfl) (.tmp 26) (.tmp 29) (by rfl) X.heap.size gm (kids.length + 1) us ⟨w2.heap.size,0,none⟩ 1 [u] k 1 (k + 1) (uh HUS) rfl rfl (by rfl) (by rfl) (((uh HO2).below R3).below ((Below.refl _ _).alloc (Nat.le_refl _) _)) (node_src (box_nw _ _)) (by omega) ?_
                intro w3 hown3 hg3
                have s3:=hg3.size
                simp only [size_al] at s3
                have E3:∀ o,w3.cell? ⟨wr.heap.size,o,none⟩=Z.cell? ⟨wr.heap.size,o,none⟩:=fun o=>(World.cell?_of_block (w:=w2.alloc (.cells #[.int .i64 u.kind,.string u.attr,.slice u.qi u.ni u.ci,.slice u.qw u.nw u.cw,.int .i64 u.lo,.int .i64 u.hi,.int .i64 u.op,.slice u.qk u.nk u.ck] 28)) (a:=⟨wr.heap.size,o,none⟩) (hg3.block wr.heap.size (by simp only [size_al];omega) (fun e=>by cases e;omega))).trans (E2a o)
                have n7:w3.cell? ⟨mb,7,none⟩=some (.slice (some ⟨gm,0,none⟩) k (kids.length + 1)):=(World.cell?_of_block (w:=w2.alloc (.cells #[.int .i64 u.kind,.string u.attr,.slice u.qi u.ni u.ci,.slice u.qw u.nw u.cw,.int .i64 u.lo,.int .i64 u.hi,.int .i64 u.op,.slice u.qk u.nk u.ck] 28)) (a:=⟨mb,7,none⟩) (hg3.block mb (by simp only [size_al];omega) (fun e=>by cases e;omega))).trans ((((Below.refl w2.heap.size w2).alloc (Nat.le_refl _) _).cell (p:=⟨mb,7,none⟩) (by exact lm2)).trans m7)
                have nf:∀ o,w3.frozen? ⟨mb,o,none⟩=false:=fun o=>frz hg3 (by simp only [size_al];omega) (by omega) ((((Below.refl w2.heap.size w2).alloc (Nat.le_refl _) _).frozen (by exact lm2)).trans (mf o))
                have HO3:=hide hown3
                have HG3:=hide hg3
                clear hown3 hg3
                refine hK.out _ _ (KS2 _ E3) (fun hHeld=>?_)
                clear hK K
                simp only [Act.put,List.setIfInBounds_toArray,List.set_cons_zero,List.set_cons_succ]
                refine wpAnyH_take (i:=6) (oi:=⟨some 31,.fieldAddr 28 (.tmp 3) 2,_,_,_,none⟩) (v:=?_) rfl (by kernel_rfl) (by kernel_rfl) (by kernel_rfl) (fun _ _ _ h=>h) (Or.inl ⟨by rfl, ?_⟩) (by assumption) ?_
                rotate_left
                · intro w hSw
                  go_simp
                  with_reducible rfl
                simp only [Act.put,List.setIfInBounds_toArray,List.set_cons_zero,List.set_cons_succ]
                refine wpAnyH_ready (rs:=[7]) (by kernel_rfl) (by simp) ?_
                refine AllReadyH.cons (o:=⟨none,.store 26 (.tmp 31) (.tmp 30),_,_,_,none⟩) rfl (fun K hK=>?_) ?_
                · go_simp
                  refine hK.out _ _ (KS2 _ (fun o=>(set_other _ (by omega) o 7 _).trans (E3 o))) (fun hHeld=>?_)
                  clear hK K
                  skip
                  refine wpAnyH_done (by kernel_rfl) ?_ _
                  have P4:=hide (node_round (V:=V) (uh HB) bZ R3 (uh HG3) hne1 hne2 hne3 hg1n sv1 sv2 hVs sZ c0 c1 c2 c3 c4 c5 c6 n7 nf (uh HO3) (uh HI1) (uh HW1) (uh HSP) (uh HU) (uh HUS) (uh HXX))
                  have hl4:(us ++ [u]).length=k + 1:=by rw [List.length_append,uh HUS];rfl
                  go_wp2
                  go_roundw
                  case rel=>exact ⟨k + 1,us ++ [u],by omega,by go_num,hl4,uh P4⟩
                  case measure=>simp [intOf];omega
                exact AllReadyH.nil
              exact AllReadyH.nil
            exact AllReadyH.nil
          exact AllReadyH.nil
        exact AllReadyH.nil
      · have ki1:¬ (k:Int) < (kids.length:Int):=by omega
        obtain rfl:k=kids.length:=by omega
        have HOWN:=hide hown
        have HUS:=hide hus
        have HB:=hide hbel
        have HI1:=hide hi1
        have HW1:=hide hw1
        have HSP:=hide hsp
        have sXX:=uh SX
        have hmr:mb < wr.heap.size:=by omega
        have hgr:gm < wr.heap.size:=by omega
        clear hown hus hbel hi1 hw1 hsp
        go_wp2_with (at_builtin;refine wpList_fit rowV rfl _ _ rfl X.heap.size gm (kids.length + 1) us ⟨wr.heap.size,0,none⟩ 1 [spV] kids.length 1 (kids.length + 1) (uh HUS) rfl rfl rfl rfl ((uh HOWN).below ((Below.refl _ _).alloc (Nat.le_refl _) _)) (node_src (u:=spV) (box_nw _ _)) (Nat.le_refl _) ?_;intro w3 hown3 hg3;have HO3:=hide hown3;have HG3:=hide hg3;clear hown3 hg3)
        have AL:=(Below.refl wr.heap.size wr).alloc (Nat.le_refl _) (.cells #[.int .i64 0,.string ⟨#[]⟩,.slice none 0 0,.slice none 0 0,.int .i64 0,.int .i64 0,.int .i64 77,.slice none 0 0] 28)
        have s3:=(uh HG3).size
        simp only [size_al] at s3
        have N3:∀ g,g ≠ gm→g < wr.heap.size→∀ o,w3.cell? ⟨g,o,none⟩=wr.cell? ⟨g,o,none⟩:=fun g hg hl o=>(World.cell?_of_block (w:=wr.alloc (.cells #[.int .i64 0,.string ⟨#[]⟩,.slice none 0 0,.slice none 0 0,.int .i64 0,.int .i64 0,.int .i64 77,.slice none 0 0] 28)) (a:=⟨g,o,none⟩) ((uh HG3).block g (by simp only [size_al];omega) (fun e=>by cases e;exact hg rfl))).trans (AL.cell (p:=⟨g,o,none⟩) (by exact hl))
        have bw3:Below X.heap.size X w3:=(below_sub (uh HB) AL).grown (uh HG3) (by simp only [size_al];have:=(uh HB).size;omega) (fun k hk=>by cases hk;exact hne3)
        have n0:=(N3 mb hne1 hmr 0).trans c0
        have n1:=(N3 mb hne1 hmr 1).trans c1
        have n2:=(N3 mb hne1 hmr 2).trans c2
        have n3:=(N3 mb hne1 hmr 3).trans c3
        have n4:=(N3 mb hne1 hmr 4).trans c4
        have n5:=(N3 mb hne1 hmr 5).trans c5
        have n6:=(N3 mb hne1 hmr 6).trans c6
        obtain ⟨_,_,_,_,_,_,_,x7⟩:=of8' ((bw3.block _ (heap_lt (uh HX8))).trans (uh HX8))
        have hz3:=(bw3.block _ (heap_lt (uh XZ))).trans (uh XZ)
        obtain ⟨o0,o1,o2,o3,o4,o5,o6,o7⟩:=of8' hz3
        have rf:∀ o,w3.frozen? ⟨w.heap.size + 1,o,none⟩=false:=fun o=>frozen_free hz3
        have q1:¬ mb=w.heap.size + 1:=by omega
        have q2:¬ w.heap.size + 1=mb:=by omega
        have t1:(0:Int)≤(kids.length:Int):=by omega
        have t4:(kids.length:Int)≤(kids.length:Int) + 1:=by omega
        have BW3:=hide bw3
        have HN3:Hid (∀ g,g ≠ gm→g < wr.heap.size→w3.heap[g]? = wr.heap[g]?):=hide (fun g hg hl=>((uh HG3).block g (by simp only [size_al];omega) (fun e=>by cases e;exact hg rfl)).trans (heap_old hl))
        clear bw3 N3 c0 c1 c2 c3 c4 c5 c6 c7 hcf hz3 AL ki1
        refine wp_region_held_drew (S:=fun w'=>w'.cell? ⟨mb,0,none⟩=some (.int .i64 kind)∧w'.cell? ⟨mb,1,none⟩=some (.string attr)∧w'.cell? ⟨mb,2,none⟩=some (.slice (some ⟨g1,0,none⟩) ints.length k1)∧w'.cell? ⟨mb,3,none⟩=some (.slice (some ⟨g2,0,none⟩) words.length k2)∧w'.cell? ⟨mb,4,none⟩=some (.int .i64 lo)∧w'.cell? ⟨mb,5,none⟩=some (.int .i64 hi)∧w'.cell? ⟨mb,6,none⟩=some (.int .i64 op)∧w'.cell? ⟨w.heap.size,7,none⟩=some (.slice qk kids.length ck)) (by kernel_rfl) ⟨n0,n1,n2,n3,n4,n5,n6,x7⟩ (fun hHeld=>?_)
        refine wpAnyH_take (i:=0) (oi:=⟨some 38,.fieldAddr 28 (.tmp 3) 0,_,_,_,none⟩) (v:=?_) rfl (by kernel_rfl) (by kernel_rfl) (by kernel_rfl) (fun _ _ _ h=>h) (Or.inl ⟨by rfl, ?_⟩) (by assumption) ?_
        rotate_left
        · intro wq hSw
          go_simp
          with_reducible rfl
        simp only [Act.put,List.setIfInBounds_toArray,List.set_cons_zero,List.set_cons_succ]
        refine wpAnyH_take (i:=1) (oi:=⟨some 39,.load 25 (.tmp 38),_,_,_,none⟩) (v:=?_) rfl (by kernel_rfl) (by kernel_rfl) (by kernel_rfl) (fun _ _ _ h=>h) (Or.inl ⟨by rfl, ?_⟩) (by assumption) ?_
        rotate_left
        · intro wq hSw
          go_simp
          with_reducible rfl
        simp only [Act.put,List.setIfInBounds_toArray,List.set_cons_zero,List.set_cons_succ]
        refine wpAnyH_take (i:=2) (oi:=⟨some 40,.fieldAddr 28 (.tmp 3) 1,_,_,_,none⟩) (v:=?_) rfl (by kernel_rfl) (by kernel_rfl) (by kernel_rfl) (fun _ _ _ h=>h) (Or.inl ⟨by rfl, ?_⟩) (by assumption) ?_
        rotate_left
        · intro wq hSw
          go_simp
          with_reducible rfl
        simp only [Act.put,List.setIfInBounds_toArray,List.set_cons_zero,List.set_cons_succ]
        refine wpAnyH_take (i:=3) (oi:=⟨some 41,.load 3 (.tmp 40),_,_,_,none⟩) (v:=?_) rfl (by kernel_rfl) (by kernel_rfl) (by kernel_rfl) (fun _ _ _ h=>h) (Or.inl ⟨by rfl, ?_⟩) (by assumption) ?_
        rotate_left
        · intro wq hSw
          go_simp
          with_reducible rfl
        simp only [Act.put,List.setIfInBounds_toArray,List.set_cons_zero,List.set_cons_succ]
        refine wpAnyH_take (i:=4) (oi:=⟨some 42,.move (.tmp 6),_,_,_,none⟩) (v:=?_) rfl (by kernel_rfl) (by kernel_rfl) (by kernel_rfl) (fun _ _ _ h=>h) (Or.inl ⟨by rfl, ?_⟩) (by assumption) ?_
        rotate_left
        · intro wq hSw
          go_simp
          with_reducible rfl
        simp only [Act.put,List.setIfInBounds_toArray,List.set_cons_zero,List.set_cons_succ]
        refine wpAnyH_take (i:=5) (oi:=⟨some 43,.fieldAddr 28 (.tmp 1) 2,_,_,_,none⟩) (v:=?_) rfl (by kernel_rfl) (by kernel_rfl) (by kernel_rfl) (fun _ _ _ h=>h) (Or.inl ⟨by rfl, ?_⟩) (by assumption) ?_
        rotate_left
        · intro wq hSw
          go_simp
          with_reducible rfl
        simp only [Act.put,List.setIfInBounds_toArray,List.set_cons_zero,List.set_cons_succ]
        refine wpAnyH_take (i:=6) (oi:=⟨some 44,.load 26 (.tmp 43),_,_,_,none⟩) (v:=?_) rfl (by kernel_rfl) (by kernel_rfl) (by kernel_rfl) (fun _ _ _ h=>h) (Or.inl ⟨by rfl, ?_⟩) (by assumption) ?_
        rotate_left
        · intro wq hSw
          go_simp
          with_reducible rfl
        simp only [Act.put,List.setIfInBounds_toArray,List.set_cons_zero,List.set_cons_succ]
        refine wpAnyH_take (i:=7) (oi:=⟨some 45,.call { callee:=.builtin .len,args:=#[.tmp 44],argTypes:=#[26] },_,_,_,none⟩) (v:=?_) rfl (by kernel_rfl) (by kernel_rfl) (by kernel_rfl) (fun _ _ _ h=>h) (Or.inl ⟨by rfl, ?_⟩) (by assumption) ?_
        rotate_left
        · intro wq hSw
          go_simp
          with_reducible rfl
        simp only [Act.put,List.setIfInBounds_toArray,List.set_cons_zero,List.set_cons_succ]
        refine wpAnyH_ready (rs:=[8]) (by kernel_rfl) (by simp) ?_
        refine AllReadyH.cons (o:=⟨some 46,.slice 26 (.tmp 42) none (some (.tmp 45)) none,_,_,_,none⟩) rfl (fun K hK=>?_) ?_
        · go_simp
          refine hK.out _ _ (⟨n0,n1,n2,n3,n4,n5,n6,x7⟩) (fun hHeld=>?_)
          clear hK K
          refine wpAnyH_take (i:=9) (oi:=⟨some 47,.build 28 #[(0,.tmp 39),(1,.tmp 41),(2,.tmp 46)],_,_,_,none⟩) (v:=?_) rfl (by kernel_rfl) (by kernel_rfl) (by kernel_rfl) (fun _ _ _ h=>h) (Or.inl ⟨by rfl, ?_⟩) (by assumption) ?_
          rotate_left
          · intro wq hSw
            go_simp
            with_reducible rfl
          simp only [Act.put,List.setIfInBounds_toArray,List.set_cons_zero,List.set_cons_succ]
          refine wpAnyH_ready (rs:=[10]) (by kernel_rfl) (by simp) ?_
          refine AllReadyH.cons (o:=⟨none,.store 28 (.tmp 2) (.tmp 47),_,_,_,none⟩) rfl (fun K hK=>?_) ?_
          · go_simp
            refine hK.out _ _ (by go_keep) (fun hHeld=>?_)
            clear hK K
            refine wpAnyH_done (by kernel_rfl) ?_ _
            have zu:w.heap.size + 1 < V.heap.size:=by have:=hvb.size;omega
            obtain ⟨⟨y_0,y_1,y_2,y_3,y_4,y_5,y_6,y_7⟩,SPF,BF⟩:=node_final (op:=op) (lo:=lo) (hi:=hi) (kind:=kind) (attr:=attr) (V:=V) (mb:=mb) (uh BX) (uh BW3) sXX (uh HG3) (uh HN3) s3 hne3 hg1n hgX sv2 zu hlen o0 o1 o2 o3 o4 o5 o6 o7 (uh HO3) (uh HI1) (uh HW1) (uh HSP) (uh HUS) r1 z1 r2 z2
            clear n0 n1 n2 n3 n4 n5 n6 x7 o0 o1 o2 o3 o4 o5 o6 o7 rf q1 q2 t1 t4
            go_wp2
            obtain ⟨WF,hWF⟩:∃ WF,((((((((w3.setCell ⟨w.heap.size + 1,0,none⟩ (.int .i64 kind)).setCell ⟨w.heap.size + 1,1,none⟩ (.string attr)).setCell ⟨w.heap.size + 1,2,none⟩ (.slice (some ⟨g1,0,none⟩) ints.length k1)).setCell ⟨w.heap.size + 1,3,none⟩ (.slice (some ⟨g2,0,none⟩) words.length k2)).setCell ⟨w.heap.size + 1,4,none⟩ (.int .i64 lo)).setCell ⟨w.heap.size + 1,5,none⟩ (.int .i64 hi)).setCell ⟨w.heap.size + 1,6,none⟩ (.int .i64 op)).setCell ⟨w.heap.size + 1,7,none⟩ (.slice (some ⟨gm,0,none⟩) kids.length (kids.length + 1)))=WF:=⟨_,rfl⟩
            rw [hWF] at SPF BF y_0 y_1 y_2 y_3 y_4 y_5 y_6 y_7
            rw [hWF]
            have SPF2:=hide SPF
            have BF2:=hide BF
            clear SPF BF hWF HO3 HG3 HN3 BW3 HSP HI1 HW1 HOWN HUS HB
            refine bodyPost_ret (v:=.agg #[.int .i64 kind,.string attr,.slice (some ⟨g1,0,none⟩) ints.length k1,.slice (some ⟨g2,0,none⟩) words.length k2,.int .i64 lo,.int .i64 hi,.int .i64 op,.slice (some ⟨gm,0,none⟩) kids.length (kids.length + 1)]) (by simp [results,Try.results5,go_sem,y_0,y_1,y_2,y_3,y_4,y_5,y_6,y_7]) rfl ⟨⟨⟨kind,attr,some ⟨g1,0,none⟩,ints.length,k1,some ⟨g2,0,none⟩,words.length,k2,lo,hi,op,some ⟨gm,0,none⟩,kids.length,kids.length + 1⟩,rfl,(uh SPF2).keep (Below.refl _ _).drew⟩,(uh BF2).drew⟩

          exact AllReadyH.nil

        exact AllReadyH.nil
theorem node_any:∀ x,NodeP x:=by
  intro x
  induction x using Nd.ind with
  | h kind attr ints words lo hi op kids ih =>
    intro v w hin hwt
    obtain ⟨qi,ci,qw,cw,qk,ck,rfl,h1,h2,hk⟩:=hin.parts
    simp only [wtN] at hwt
    have:=words_len words
    exact node_at kind attr qi ci ints qw cw words lo hi op qk ck kids w h1 h2 hk ih (by omega) (by omega) (by omega)
end Go.Proofs.Ytikhopiegaoacac

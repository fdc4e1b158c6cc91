/- TreeOwns: the law. -/
import Derived.Test.YtikhopiegaoacaaDoorTTwTwo
import Derived.Deep.CutBlock
import Derived.Deep.RegionHeld3
namespace Go.Proofs.YtikhopiegaoacaaDoor
open Go.RowKit Go.Sort

/-- One kid of many, under Not. -/
theorem kid_one {w:World} {b off c k:Nat} {kids:List Nd} {x:Nd} (h:NdsOf w (some ⟨b,off,none⟩) c kids) (hx:kids[k]? = some x) :
    kids.length≤c∧c≤maxLen∧NdIn w ⟨0,⟨#[]⟩,none,0,0,none,0,0,0,0,2,some ⟨b,off + k * 8,none⟩,1,c - k⟩ (notT x):=by
  obtain ⟨vs,h1,h2,h3⟩:=h
  have hk:k < kids.length:=(List.getElem?_eq_some_iff.1 hx).1
  obtain ⟨v,hv,_⟩:=get_at (l:=vs) (k:=k) (by omega)
  obtain ⟨b',off',hq,hb,hc⟩:=h1.2.2.2.at hv
  injection hq with hq
  injection hq with e1 e2
  subst e1 e2
  have hl:=h1.2.1
  refine ⟨by omega,h1.2.2.1,NdIn.mk (kind:=0) (attr:=⟨#[]⟩) (ints:=[]) (words:=[]) (lo:=0) (hi:=0) (op:=2) (kids:=[x]) (vs:=[v]) (SlOf.none w) (SlOf.none w) ⟨(fun h=>by cases h),show 1≤c - k by omega,Nat.le_trans (Nat.sub_le _ _) h1.2.2.1,fun _=>⟨b,off + k * 8,rfl,hb,fun j u hj=>(by rw [flat_1] at hj;have hj8:j < 8:=(by have:=(List.getElem?_eq_some_iff.1 hj).1;simpa [encV] using this);have h0:=hc j hj8;rw [h0];have:j=0 ∨ j=1 ∨ j=2 ∨ j=3 ∨ j=4 ∨ j=5 ∨ j=6 ∨ j=7:=(by omega);rcases this with e | e | e | e | e | e | e | e <;> rw [e] at hj ⊢ <;> exact hj)⟩⟩ rfl (fun j v' x' hj hx'=>?_)⟩
  have hj1:=(List.getElem?_eq_some_iff.1 hj).1
  rw [List.length_singleton] at hj1
  obtain rfl:j=0:=by omega
  cases hj
  cases hx'
  exact h3 k v x hv hx
set_option maxRecDepth 100000 in
set_option maxHeartbeats 16000000 in
theorem treeOwns_any (q:Option Addr) (c:Nat) (kids:List Nd) (w:World) (hG:G w) (hk:NdsOf w q c kids) (hwt:wtL kids≤10000000) :
    Calls Tryd.prog 3 #[.slice q kids.length c] w fun e w'=>e=.returned (.bool true)∧Below w.heap.size w w':=by
  have mixed:Tryd.prog.follows .mixedOrders=true:=by kernel_rfl
  have hfx:=fixed_any w hG
  have hlen:=Nat.le_trans (Nat.le_trans (len_size kids) (sizeL_wt kids)) hwt
  have a0:(kids.length:Int)≤10000000:=by omega
  have HK:=hide hk
  clear hk
  go_enter Tryd.func3,Tryd.ntmps3
  go_wp2_with (go_at_call 4;refine hfx.mono ?_;rintro e w1 ⟨rfl,b1⟩;have B1:=hide b1;clear b1)
  clear hfx
  go_loopw [3,22] (fun m i wr=>∃ (k:Nat) (qm:Option Addr) (cm:Nat) (us:List Nv) (ms:List Ob),k≤kids.length∧i=.int .i64 k∧m=.slice qm k cm∧us.length=k∧ms.length=k∧Hid (OwnK encV 29 8 w.heap.size wr qm cm us)∧Hid (Objs ms wr)∧Hid (Out ms qm)∧Hid (Fam cpOb w.heap.size kids us ms)∧Hid (Below w.heap.size w wr)) (fun _ i _=>kids.length - (intOf i).toNat)
  case atStart=>exact ⟨0,none,0,[],[],by omega,rfl,rfl,rfl,rfl,hide (OwnK.nil _ _),hide (Objs.nil _),hide (fun a h=>by cases h),hide (Fam.nil _ _ _),B1⟩
  case round =>
    clear B1
    obtain ⟨k,qm,cm,us,ms,hkk,rfl,rfl,hus,hms,HO,HOB,HOUT,HFM,HB⟩:=hrel
    obtain ⟨U,rfl⟩:∃ U,U=wr:=⟨_,rfl⟩
    by_cases hlt:k < kids.length
    · obtain ⟨x,hx,_⟩:=get_at hlt
      obtain ⟨b,off,v,hq,hin,g0,g1,g2,g3,g4,g5,g6,g7⟩:=(uh HK).on2 hx (uh HB)
      subst hq
      have hxw:=wtL_mem (List.mem_of_getElem? hx)
      have ki0:(0:Int)≤(k:Int):=by omega
      have ki1:(k:Int) < (kids.length:Int):=by omega
      obtain ⟨Y,HY⟩:∃ Y,U.alloc (.cells #[.int .i64 v.kind,.string v.attr,.slice v.qi v.ni v.ci,.slice v.qw v.nw v.cw,.int .i64 v.lo,.int .i64 v.hi,.int .i64 v.op,.slice v.qk v.nk v.ck] 29)=Y:=⟨_,rfl⟩
      have hM:Y.heap[U.heap.size]? = some (.cells #[.int .i64 v.kind,.string v.attr,.slice v.qi v.ni v.ci,.slice v.qw v.nw v.cw,.int .i64 v.lo,.int .i64 v.hi,.int .i64 v.op,.slice v.qk v.nk v.ck] 29 (0,0)):=by rw [← HY];exact box_nw _ _
      have hUY:Below U.heap.size U Y:=by rw [← HY];exact (Below.refl _ _).alloc (Nat.le_refl _) _
      have hYs:U.heap.size < Y.heap.size:=blk_lt hM
      obtain ⟨m0,m1,m2,m3,m4,m5,m6,m7⟩:=of8' hM
      have hN:=node_any x v Y (hin.keep (below_sub (uh HB) hUY)) (by omega)
      simp only [Nv.val] at hN
      have HN:=hide hN
      have HUY:=hide hUY
      have HYl:=hide hYs
      have HUS:=hide hus
      have HMS:=hide hms
      have HXX:=hide hx
      have HWX:=hide (show wtN x≤1000000000 by omega)
      have hUs:=(uh HB).size
      have HL:=hide ((uh HO).ownLt hus)
      have hkm:k + 1≤maxLen:=by unfold maxLen;omega
      have hkb:(k + 1) * 120≤140737488355328:=by omega
      clear hin hx hxw hUY hN hM hus hms
      go_wp2_with (first
        | (go_at_call 5;refine (uh HN).mono ?_;rintro e w2 ⟨⟨v',he,sp⟩,b2⟩;have he2:e=.returned (.agg #[.int .i64 v'.kind,.string v'.attr,.slice v'.qi v'.ni v'.ci,.slice v'.qw v'.nw v'.cw,.int .i64 v'.lo,.int .i64 v'.hi,.int .i64 v'.op,.slice v'.qk v'.nk v'.ck]):=he;clear he;subst he2;have OB2:=hide (Objs.ins (L2:=[]) (o:=cpOb Y.heap.size w2.heap.size v' x) (((List.append_nil _).symm ▸ (uh HOB).below (uh HUY):Objs (ms ++ []) Y)) b2 (sp.st (uh HWX) b2.size) (Nat.le_refl _));have B2:=hide b2;have hs2:=b2.size;clear sp b2)
        | (at_builtin;refine wpList_appG rowV rfl _ _ rfl w.heap.size qm cm us ⟨w2.heap.size,0,none⟩ 1 [v'] k 1 (k + 1) (uh HUS) rfl rfl rfl rfl (((uh HO).below (uh HUY)).below (below_sub (uh B2) ((Below.refl _ _).alloc (Nat.le_refl _) _))) (node_src (box_nw _ _)) hkm hkb (by simp;omega) ?_;intro q3 c3 w3 ho3 hb3 hg3 hor3;have HO3:=hide ho3;have HB3:=hide (show Below w.heap.size w w3 from (below_sub (below_sub (uh HB) (uh HUY)) (below_sub (uh B2) ((Below.refl _ _).alloc (Nat.le_refl _) _))).trans hb3);have hal:=out_all (L2:=[]) (o:=cpOb Y.heap.size w2.heap.size v' x) ((List.append_nil _).symm ▸ uh HOUT:Out (ms ++ []) qm) (uh HL) (Nat.le_of_lt (uh HYl));have OBZ:=(uh OB2).below (((Below.refl _ _).alloc (Nat.le_refl _) _):Below w2.heap.size w2 (w2.alloc (.cells #[.int .i64 v'.kind,.string v'.attr,.slice v'.qi v'.ni v'.ci,.slice v'.qw v'.nw v'.cw,.int .i64 v'.lo,.int .i64 v'.hi,.int .i64 v'.op,.slice v'.qk v'.nk v'.ck] 29)));have OB3:=hide (OBZ.grown hg3 hal);have OUT3:=hide (out_app hal OBZ hor3);clear ho3 hb3 hg3 hor3 hal OBZ))
      exact ⟨⟨k + 1,q3,c3,us ++ [v'],ms ++ [cpOb Y.heap.size w2.heap.size v' x],by omega,by go_num,rfl,by rw [List.length_append,uh HUS];rfl,by rw [List.length_append,uh HMS];rfl,HO3,OB3,OUT3,hide ((uh HFM).snoc (uh HUS) (uh HMS) (uh HXX) (by omega)),HB3⟩,by simp [intOf];omega⟩
    · obtain rfl:k=kids.length:=by omega
      have ki1:¬ (kids.length:Int) < (kids.length:Int):=by omega
      have HUS:=hide hus
      have HMS:=hide hms
      clear hlt hkk hus hms
      have KM0:=hide (Below.refl U.heap.size U)
      have OB0:=hide (show Objs ([] ++ ms) U from uh HOB)
      have hnd:=fam_nds (uh HO) (uh HOB) (fun _ h=>h) (uh HFM) (uh HUS)
      have HAND:=hide (fun (W:World) (hW:Below U.heap.size U W)=>and_any qm cm kids W (hnd.below hW) (by omega))
      have HOR:=hide (fun (W:World) (hW:Below U.heap.size U W)=>or_any qm cm kids W (hnd.below hW) (by omega))
      have HWJ3:=hide (show wtN (joinT 3 kids)≤1000000000 from Nat.le_trans (wt_join 3 kids) (by omega))
      have HWJ4:=hide (show wtN (joinT 4 kids)≤1000000000 from Nat.le_trans (wt_join 4 kids) (by omega))
      clear hnd
      go_upto_region 10 with (first
        | (go_at_call 7;have tb:=OB3;clear tb;refine (uh HOR w4 (uh KM3)).mono ?_;rintro e w5 ⟨⟨t4,he,f4⟩,b4⟩;have he2:e=.returned (.agg #[.int .i64 t4.kind,.string t4.attr,.slice t4.qi t4.ni t4.ci,.slice t4.qw t4.nw t4.cw,.int .i64 t4.lo,.int .i64 t4.hi,.int .i64 t4.op,.slice t4.qk t4.nk t4.ck]):=he;clear he;subst he2;obtain ⟨oD,hoD⟩:∃ o,trOb w4.heap.size w5.heap.size t4 (joinT 4 kids)=o:=⟨_,rfl⟩;have OUD:=hide (show U.heap.size≤oD.lo by rw [← hoD];exact (uh KM3).size);have OB4:=hide (Objs.ins (L1:=oA :: oC :: ms) (o:=oD) (uh OB3) b4 (by rw [← hoD];exact f4.st (uh HWJ4) b4.size) (by rw [← hoD];exact Nat.le_refl _));have KM4:=hide (below_sub (uh KM3) b4);have HDfD:=hide hoD;clear f4 b4 hoD)
        | (go_at_call 7;have tb:=OB2;clear tb;refine (uh HOR w3 (uh KM2)).mono ?_;rintro e w4 ⟨⟨t3,he,f3⟩,b3⟩;have he2:e=.returned (.agg #[.int .i64 t3.kind,.string t3.attr,.slice t3.qi t3.ni t3.ci,.slice t3.qw t3.nw t3.cw,.int .i64 t3.lo,.int .i64 t3.hi,.int .i64 t3.op,.slice t3.qk t3.nk t3.ck]):=he;clear he;subst he2;obtain ⟨oC,hoC⟩:∃ o,trOb w3.heap.size w4.heap.size t3 (joinT 4 kids)=o:=⟨_,rfl⟩;have OUC:=hide (show U.heap.size≤oC.lo by rw [← hoC];exact (uh KM2).size);have OB3:=hide (Objs.ins (L1:=[oA]) (o:=oC) (uh OB2) b3 (by rw [← hoC];exact f3.st (uh HWJ4) b3.size) (by rw [← hoC];exact Nat.le_refl _));have KM3:=hide (below_sub (uh KM2) b3);have HDfC:=hide hoC;clear f3 b3 hoC)
        | (go_at_call 6;have tb:=OB1;clear tb;refine (uh HAND w2 (uh KM1)).mono ?_;rintro e w3 ⟨⟨t2,he,f2⟩,b2⟩;have he2:e=.returned (.agg #[.int .i64 t2.kind,.string t2.attr,.slice t2.qi t2.ni t2.ci,.slice t2.qw t2.nw t2.cw,.int .i64 t2.lo,.int .i64 t2.hi,.int .i64 t2.op,.slice t2.qk t2.nk t2.ck]):=he;clear he;subst he2;obtain ⟨oB,hoB⟩:∃ o,trOb w2.heap.size w3.heap.size t2 (joinT 3 kids)=o:=⟨_,rfl⟩;have OUB:=hide (show U.heap.size≤oB.lo by rw [← hoB];exact (uh KM1).size);have OB2:=hide (Objs.ins (L1:=oA :: ms) (o:=oB) (show Objs (oA :: ms ++ []) w2 by rw [List.append_nil];exact uh OB1) b2 (by rw [← hoB];exact f2.st (uh HWJ3) b2.size) (by rw [← hoB];exact Nat.le_refl _));have KM2:=hide (below_sub (uh KM1) b2);have HDfB:=hide hoB;clear f2 b2 hoB)
        | (go_at_call 6;have tb:=OB0;clear tb;refine (uh HAND U (uh KM0)).mono ?_;rintro e w2 ⟨⟨t1,he,f1⟩,b1⟩;have he2:e=.returned (.agg #[.int .i64 t1.kind,.string t1.attr,.slice t1.qi t1.ni t1.ci,.slice t1.qw t1.nw t1.cw,.int .i64 t1.lo,.int .i64 t1.hi,.int .i64 t1.op,.slice t1.qk t1.nk t1.ck]):=he;clear he;subst he2;obtain ⟨oA,hoA⟩:∃ o,trOb U.heap.size w2.heap.size t1 (joinT 3 kids)=o:=⟨_,rfl⟩;have OUA:=hide (show U.heap.size≤oA.lo by rw [← hoA];exact (uh KM0).size);have OB1:=hide (Objs.ins (L1:=[]) (o:=oA) (uh OB0) b1 (by rw [← hoA];exact f1.st (uh HWJ3) b1.size) (by rw [← hoA];exact Nat.le_refl _));have KM1:=hide (below_sub (uh KM0) b1);have HDfA:=hide hoA;clear f1 b1 hoA))
      obtain ⟨V,HV⟩:∃ V,(((w5.alloc (.cells #[.int .i64 t1.kind,.string t1.attr,.slice t1.qi t1.ni t1.ci,.slice t1.qw t1.nw t1.cw,.int .i64 t1.lo,.int .i64 t1.hi,.int .i64 t1.op,.slice t1.qk t1.nk t1.ck] 29)).alloc (.cells #[.int .i64 t2.kind,.string t2.attr,.slice t2.qi t2.ni t2.ci,.slice t2.qw t2.nw t2.cw,.int .i64 t2.lo,.int .i64 t2.hi,.int .i64 t2.op,.slice t2.qk t2.nk t2.ck] 29)).alloc (.cells #[.int .i64 t3.kind,.string t3.attr,.slice t3.qi t3.ni t3.ci,.slice t3.qw t3.nw t3.cw,.int .i64 t3.lo,.int .i64 t3.hi,.int .i64 t3.op,.slice t3.qk t3.nk t3.ck] 29)).alloc (.cells #[.int .i64 t4.kind,.string t4.attr,.slice t4.qi t4.ni t4.ci,.slice t4.qw t4.nw t4.cw,.int .i64 t4.lo,.int .i64 t4.hi,.int .i64 t4.op,.slice t4.qk t4.nk t4.ck] 29)=V:=⟨_,rfl⟩
      have ob:=((((uh OB4).box (L1:=oA :: oC :: ms) t1 w5.heap.size rfl).box (L1:=oA :: oC :: ms) t2 (w5.heap.size + 1) (by simp)).box (L1:=oA :: oC :: ms) t3 (w5.heap.size + 1 + 1) (by simp)).box (L1:=oA :: oC :: ms) t4 (w5.heap.size + 1 + 1 + 1) (by simp)
      have bV:Below w5.heap.size w5 V:=by rw [← HV];exact (((Below.refl _ _).alloc (Nat.le_refl _) _).alloc (by simp) _ |>.alloc (by simp;omega) _).alloc (by simp;omega) _
      rw [HV] at ob
      have KV:=hide (below_sub (uh KM4) bV)
      have zU5:=(uh KM4).size
      have orow:=(uh HO).upF (uh HO).from (fun b _ hb=>(uh KV).block b hb)
      have hl:=(uh HO).ownLt (uh HUS)
      have out:=out_ins (L:=oA :: oC :: ms) (L2:=bxOb (w5.heap.size + 1 + 1) t3 :: bxOb (w5.heap.size + 1) t2 :: bxOb w5.heap.size t1 :: oD :: [oB]) (o:=bxOb (w5.heap.size + 1 + 1 + 1) t4) (out_ins (L:=oA :: oC :: ms) (L2:=bxOb (w5.heap.size + 1) t2 :: bxOb w5.heap.size t1 :: oD :: [oB]) (o:=bxOb (w5.heap.size + 1 + 1) t3) (out_ins (L:=oA :: oC :: ms) (L2:=bxOb w5.heap.size t1 :: oD :: [oB]) (o:=bxOb (w5.heap.size + 1) t2) (out_ins (L:=oA :: oC :: ms) (L2:=oD :: [oB]) (o:=bxOb w5.heap.size t1) (out_ins (L:=oA :: oC :: ms) (L2:=[oB]) (o:=oD) (out_ins (L:=[oA]) (L2:=ms ++ [oB]) (o:=oC) (out_ins (L:=oA :: ms) (L2:=[]) (o:=oB) (out_ins (L:=[]) (L2:=ms) (o:=oA) (uh HOUT) hl (uh OUA) |> (fun h=>show Out (oA :: ms ++ []) qm by rw [List.append_nil];exact h)) hl (uh OUB)) hl (uh OUC)) hl (uh OUD)) hl zU5) hl (Nat.le_trans zU5 (Nat.le_succ _))) hl (Nat.le_trans zU5 (by show w5.heap.size≤w5.heap.size + 1 + 1;omega))) hl (Nat.le_trans zU5 (by show w5.heap.size≤w5.heap.size + 1 + 1 + 1;omega))
      have ob2:=ob.row orow out
      obtain ⟨R,hR⟩:∃ R,bxOb (w5.heap.size + 1 + 1 + 1) t4 :: bxOb (w5.heap.size + 1 + 1) t3 :: bxOb (w5.heap.size + 1) t2 :: bxOb w5.heap.size t1 :: oD :: oB :: [rwOb qm cm us]=R:=⟨_,rfl⟩
      have OBV:=hide (show Objs (oA :: oC :: (ms ++ ([] ++ ([] ++ R)))) V by rw [← hR];simpa using ob2)
      have RM:=hide (show rwOb qm cm us ∈ R by rw [← hR];simp)
      have RB:=hide (show oB ∈ R by rw [← hR];simp)
      have RD:=hide (show oD ∈ R by rw [← hR];simp)
      have R1:=hide (show bxOb w5.heap.size t1 ∈ R by rw [← hR];simp)
      have R2:=hide (show bxOb (w5.heap.size + 1) t2 ∈ R by rw [← hR];simp)
      have R3:=hide (show bxOb (w5.heap.size + 1 + 1) t3 ∈ R by rw [← hR];simp)
      have R4:=hide (show bxOb (w5.heap.size + 1 + 1 + 1) t4 ∈ R by rw [← hR];simp)
      have BV:=hide (below_sub (uh HB) (uh KV))
      rw [HV]
      have zU:=(uh HB).size
      clear ob ob2 out orow hl hR HV bV HO HOB HOUT KM0 KM1 KM2 KM3 KM4 OB0 OB1 OB2 OB3 OB4 HAND HOR KV zU5 OUB OUD HB
      go_wp2
      go_loopw [10,11,42] (fun m1 m2 i wr=>∃ (k:Nat) (qn:Option Addr) (cn:Nat) (vs:List Nv) (qk:Option Addr) (ck:Nat) (ws:List Nv) (ns ks:List Ob),k≤kids.length∧i=.int .i64 k∧m1=.slice qn k cn∧m2=.slice qk k ck∧vs.length=k∧ws.length=k∧ns.length=k∧ks.length=k∧Hid (OwnK encV 29 8 w.heap.size wr qn cn vs)∧Hid (OwnK encV 29 8 w.heap.size wr qk ck ws)∧Hid (Objs (oA :: oC :: (ms ++ (ns ++ (ks ++ R)))) wr)∧Hid (Out (oA :: oC :: (ms ++ (ns ++ (ks ++ R)))) qn)∧Hid (Out (oA :: oC :: (ms ++ (ns ++ (ks ++ R)))) qk)∧Hid (∀ a b,qn=some a→qk=some b→a.block ≠ b.block)∧Hid (Fam (fun lo hi u x=>trOb lo hi u (notT x)) w.heap.size kids vs ns)∧Hid (Fam (fun lo hi u x=>trOb lo hi u (notT x)) w.heap.size kids ws ks)∧Hid (Below w.heap.size w wr)) (fun _ _ i _=>kids.length - (intOf i).toNat)
      case atStart=>exact ⟨0,none,0,[],none,0,[],[],[],by omega,rfl,rfl,rfl,rfl,rfl,rfl,rfl,hide (OwnK.nil _ _),hide (OwnK.nil _ _),OBV,hide (fun a h=>by cases h),hide (fun a h=>by cases h),hide (fun a b h=>by cases h),hide (Fam.nil _ _ _),hide (Fam.nil _ _ _),BV⟩
      case round =>
        clear OBV BV
        obtain ⟨k,qn,cn,vs,qk,ck,ws,ns,ks,hkk,rfl,rfl,rfl,hvs,hws,hns,hks,HNR,HKR,HOB,HQN,HQK,HNE,HF1,HF2,HB⟩:=hrel
        obtain ⟨wr,rfl⟩:∃ U,U=wr:=⟨_,rfl⟩
        have HVS:=hide hvs
        have HWS:=hide hws
        have HNS:=hide hns
        have HKS:=hide hks
        by_cases hlt:k < kids.length
        · obtain ⟨x,hx,_⟩:=get_at hlt
          have hrow:OwnK encV 29 8 0 wr qm cm us:=(uh HOB).get (o:=rwOb qm cm us) (by have:=uh RM;simp [this])
          obtain ⟨b,off,u,lo,hi,hq,hu,_,hmk,g0,g1,g2,g3,g4,g5,g6,g7⟩:=fam_at hrow (uh HFM) (uh HUS) hx
          subst hq
          have hxw:=wtL_mem (List.mem_of_getElem? hx)
          have ki0:(0:Int)≤(k:Int):=by omega
          have ki1:(k:Int) < (kids.length:Int):=by omega
          obtain ⟨Y,HY⟩:∃ Y,wr.alloc (.cells #[.int .i64 u.kind,.string u.attr,.slice u.qi u.ni u.ci,.slice u.qw u.nw u.cw,.int .i64 u.lo,.int .i64 u.hi,.int .i64 u.op,.slice u.qk u.nk u.ck] 29)=Y:=⟨_,rfl⟩
          have hM:Y.heap[wr.heap.size]? = some (.cells #[.int .i64 u.kind,.string u.attr,.slice u.qi u.ni u.ci,.slice u.qw u.nw u.cw,.int .i64 u.lo,.int .i64 u.hi,.int .i64 u.op,.slice u.qk u.nk u.ck] 29 (0,0)):=by rw [← HY];exact box_nw _ _
          have hUY:Below wr.heap.size wr Y:=by rw [← HY];exact (Below.refl _ _).alloc (Nat.le_refl _) _
          have hYs:wr.heap.size < Y.heap.size:=blk_lt hM
          obtain ⟨m0,m1,m2,m3,m4,m5,m6,m7⟩:=of8' hM
          have KSH:=hide (fun (W:World) (hW:W.heap[wr.heap.size]? = some (.cells #[.int .i64 u.kind,.string u.attr,.slice u.qi u.ni u.ci,.slice u.qw u.nw u.cw,.int .i64 u.lo,.int .i64 u.hi,.int .i64 u.op,.slice u.qk u.nk u.ck] 29 (0,0)))=>(show (fun w':World=>w'.cell? ⟨wr.heap.size,0,none⟩=some (.int .i64 u.kind)∧w'.cell? ⟨wr.heap.size,1,none⟩=some (.string u.attr)∧w'.cell? ⟨wr.heap.size,2,none⟩=some (.slice u.qi u.ni u.ci)∧w'.cell? ⟨wr.heap.size,3,none⟩=some (.slice u.qw u.nw u.cw)∧w'.cell? ⟨wr.heap.size,4,none⟩=some (.int .i64 u.lo)∧w'.cell? ⟨wr.heap.size,5,none⟩=some (.int .i64 u.hi)∧w'.cell? ⟨wr.heap.size,6,none⟩=some (.int .i64 u.op)∧w'.cell? ⟨wr.heap.size,7,none⟩=some (.slice u.qk u.nk u.ck)) W by
            obtain ⟨a0,a1,a2,a3,a4,a5,a6,a7⟩:=of8' hW
            exact ⟨a0,a1,a2,a3,a4,a5,a6,a7⟩))
          have MB1:=hide hM
          have hmem:=List.mem_of_getElem? hmk
          have OBY:=hide ((uh HOB).below hUY)
          have HNOT2:=hide (fun (W:World) (L:List Ob) (h:Objs (oA :: oC :: (ms ++ L)) W)=>not_any x u W (h.get (o:=cpOb lo hi u x) (by simp [hmem])).1.toIn (by omega))
          simp only [Nv.val] at HNOT2
          have HNOT:=hide (fun (W:World) (h:Objs (oA :: oC :: (ms ++ (ns ++ (ks ++ R)))) W)=>uh HNOT2 W _ h)
          have HUY:=hide hUY
          have HXX:=hide hx
          have HWN:=hide (show wtN (notT x)≤1000000000 by rw [wt_not];omega)
          have HLN:=hide ((uh HNR).ownLt hvs)
          have HLK:=hide ((uh HKR).ownLt hws)
          have hkm:k + 1≤maxLen:=by unfold maxLen;omega
          have hkb:(k + 1) * 120≤140737488355328:=by omega
          clear hrow hu hmk hmem hxw hUY hM hx hvs hws hns hks
          go_upto_region 14 with fail
          go_region_held3 (fun w':World=>w'.cell? ⟨wr.heap.size,0,none⟩=some (.int .i64 u.kind)∧w'.cell? ⟨wr.heap.size,1,none⟩=some (.string u.attr)∧w'.cell? ⟨wr.heap.size,2,none⟩=some (.slice u.qi u.ni u.ci)∧w'.cell? ⟨wr.heap.size,3,none⟩=some (.slice u.qw u.nw u.cw)∧w'.cell? ⟨wr.heap.size,4,none⟩=some (.int .i64 u.lo)∧w'.cell? ⟨wr.heap.size,5,none⟩=some (.int .i64 u.hi)∧w'.cell? ⟨wr.heap.size,6,none⟩=some (.int .i64 u.op)∧w'.cell? ⟨wr.heap.size,7,none⟩=some (.slice u.qk u.nk u.ck)) (first | exact uh KSH _ (uh MB5) | exact uh KSH _ (uh MB4) | exact uh KSH _ (uh MB3) | exact uh KSH _ (uh MB2) | exact uh KSH _ (uh MB1) | exact uh KSH _ ((heap_old (blk_lt (uh MB4))).trans (uh MB4)) | exact uh KSH _ ((heap_old (blk_lt (uh MB2))).trans (uh MB2))) (first
            | (refine step_appG rowV (by rfl) (.tmp 51) (.tmp 54) (by rfl) w.heap.size qk ck ws ⟨w4.heap.size,0,none⟩ 1 [v2] k 1 (k + 1) (uh HWS) rfl rfl (by rfl) (by rfl) (own_heap (w:=w4.alloc (.cells #[.int .i64 v2.kind,.string v2.attr,.slice v2.qi v2.ni v2.ci,.slice v2.qw v2.nw v2.cw,.int .i64 v2.lo,.int .i64 v2.hi,.int .i64 v2.op,.slice v2.qk v2.nk v2.ck] 29)) (by rfl) (((uh KR3).below (uh KY4)).below ((Below.refl _ _).alloc (Nat.le_refl _) _))) (src_node (W0:=w4) (by rfl) rfl) hkm hkb (show w.heap.size≤(w4.alloc (.cells #[.int .i64 v2.kind,.string v2.attr,.slice v2.qi v2.ni v2.ci,.slice v2.qw v2.nw v2.cw,.int .i64 v2.lo,.int .i64 v2.hi,.int .i64 v2.op,.slice v2.qk v2.nk v2.ck] 29)).heap.size by have:=(uh BW3).size;have:=(uh KY4).size;simp;omega) ?_;intro q5 c5 w5' ho3 hb3 hg3 hor3;have hg:=gr_like (Z:=w4.alloc (.cells #[.int .i64 v2.kind,.string v2.attr,.slice v2.qi v2.ni v2.ci,.slice v2.qw v2.nw v2.cw,.int .i64 v2.lo,.int .i64 v2.hi,.int .i64 v2.op,.slice v2.qk v2.nk v2.ck] 29)) hg3 rfl rfl rfl rfl;have OBZ:=(uh OB4).below (((Below.refl _ _).alloc (Nat.le_refl _) _):Below w4.heap.size w4 (w4.alloc (.cells #[.int .i64 v2.kind,.string v2.attr,.slice v2.qi v2.ni v2.ci,.slice v2.qw v2.nw v2.cw,.int .i64 v2.lo,.int .i64 v2.hi,.int .i64 v2.op,.slice v2.qk v2.nk v2.ck] 29)));have OB5:=hide (OBZ.grown hg (uh AL2));have QK5:=hide (out_app (Z:=w4.alloc (.cells #[.int .i64 v2.kind,.string v2.attr,.slice v2.qi v2.ni v2.ci,.slice v2.qw v2.nw v2.cw,.int .i64 v2.lo,.int .i64 v2.hi,.int .i64 v2.op,.slice v2.qk v2.nk v2.ck] 29)) (uh AL2) OBZ hor3);have NR5:=hide (own_kept (((uh NR3).below (uh KY4)).below (((Below.refl _ _).alloc (Nat.le_refl _) _):Below w4.heap.size w4 (w4.alloc (.cells #[.int .i64 v2.kind,.string v2.attr,.slice v2.qi v2.ni v2.ci,.slice v2.qw v2.nw v2.cw,.int .i64 v2.lo,.int .i64 v2.hi,.int .i64 v2.op,.slice v2.qk v2.nk v2.ck] 29)))) hg (uh NE3));have NE5:=hide (ne_app (Z:=w4.alloc (.cells #[.int .i64 v2.kind,.string v2.attr,.slice v2.qi v2.ni v2.ci,.slice v2.qw v2.nw v2.cw,.int .i64 v2.lo,.int .i64 v2.hi,.int .i64 v2.op,.slice v2.qk v2.nk v2.ck] 29)) (fun a b h1 h2 e=>uh NE3 b a h2 h1 e.symm) (((uh NR3).below (uh KY4)).below ((Below.refl _ _).alloc (Nat.le_refl _) _)) hor3);have MB5:=hide ((hg.block wr.heap.size (Nat.lt_of_lt_of_le (blk_lt (uh MB4)) ((Below.refl _ _).alloc (Nat.le_refl _) _).size) (fun e=>Nat.lt_irrefl _ (uh HLK _ e.symm))).trans ((heap_old (blk_lt (uh MB4))).trans (uh MB4)));have KR5:=hide ho3;have BW5:=hide (((uh BW3).trans (((uh KY4).trans ((uh KY4) |> fun h=>(((Below.refl _ _).alloc (Nat.le_refl _) _):Below w4.heap.size w4 (w4.alloc (.cells #[.int .i64 v2.kind,.string v2.attr,.slice v2.qi v2.ni v2.ci,.slice v2.qw v2.nw v2.cw,.int .i64 v2.lo,.int .i64 v2.hi,.int .i64 v2.op,.slice v2.qk v2.nk v2.ck] 29))).mono h.size)).mono (uh BW3).size)).trans (below_like hb3 rfl rfl rfl rfl));clear ho3 hb3 hg3 hor3 hg OBZ)
            | (go_at_call 8;have tb:=OB3;clear tb;refine name_world ?_;intro Y2 hY2;have bY2:Below w3.heap.size w3 Y2:=(by rw [hY2];(repeat (first | exact Below.refl _ _ | refine Below.drew ?_)));refine (uh HNOT2 Y2 _ ((uh OB3).below bY2)).mono ?_;rintro e w4 ⟨⟨v2,he,f2⟩,b4⟩;have he2:e=.returned (.agg #[.int .i64 v2.kind,.string v2.attr,.slice v2.qi v2.ni v2.ci,.slice v2.qw v2.nw v2.cw,.int .i64 v2.lo,.int .i64 v2.hi,.int .i64 v2.op,.slice v2.qk v2.nk v2.ck]):=he;clear he;subst he2;simp only;obtain ⟨n2,hn2⟩:∃ o,trOb Y2.heap.size w4.heap.size v2 (notT x)=o:=⟨_,rfl⟩;have l4:w3.heap.size≤n2.lo:=(by rw [← hn2];exact bY2.size);have OB4:=hide (show Objs (oA :: oC :: (ms ++ ((ns ++ [n1]) ++ ((ks ++ [n2]) ++ R)))) w4 by rw [← (show (oA :: oC :: (ms ++ ((ns ++ [n1]) ++ ks))) ++ n2 :: R=oA :: oC :: (ms ++ ((ns ++ [n1]) ++ ((ks ++ [n2]) ++ R))) by simp)];exact Objs.ins (o:=n2) (by rw [← (show oA :: oC :: (ms ++ ((ns ++ [n1]) ++ (ks ++ R)))=(oA :: oC :: (ms ++ ((ns ++ [n1]) ++ ks))) ++ R by simp)];exact (uh OB3).below bY2) b4 (by rw [← hn2];exact f2.st (uh HWN) b4.size) (by rw [← hn2];exact Nat.le_refl _));have hl3:=(uh NR3).ownLt (show (vs ++ [v1]).length=k + 1 by rw [List.length_append,uh HVS];rfl);have hl4:=(uh KR3).ownLt (uh HWS);have AL2:=hide (show ∀ g,(Value.slice qk k ck).ownBlock=some g→∀ p ∈ oA :: oC :: (ms ++ ((ns ++ [n1]) ++ ((ks ++ [n2]) ++ R))),g < p.lo ∨ p.hi≤g by rw [← (show (oA :: oC :: (ms ++ ((ns ++ [n1]) ++ ks))) ++ n2 :: R=oA :: oC :: (ms ++ ((ns ++ [n1]) ++ ((ks ++ [n2]) ++ R))) by simp)];exact out_all (by rw [← (show oA :: oC :: (ms ++ ((ns ++ [n1]) ++ (ks ++ R)))=(oA :: oC :: (ms ++ ((ns ++ [n1]) ++ ks))) ++ R by simp)];exact uh QK2) hl4 l4);have QN4:=hide (show Out (oA :: oC :: (ms ++ ((ns ++ [n1]) ++ ((ks ++ [n2]) ++ R)))) q3 by rw [← (show (oA :: oC :: (ms ++ ((ns ++ [n1]) ++ ks))) ++ n2 :: R=oA :: oC :: (ms ++ ((ns ++ [n1]) ++ ((ks ++ [n2]) ++ R))) by simp)];exact out_ins (by rw [← (show oA :: oC :: (ms ++ ((ns ++ [n1]) ++ (ks ++ R)))=(oA :: oC :: (ms ++ ((ns ++ [n1]) ++ ks))) ++ R by simp)];exact uh QN3) hl3 l4);have KY4:=hide (below_sub bY2 b4);have MB4:=hide ((b4.block _ (Nat.lt_of_lt_of_le (blk_lt (uh MB3)) bY2.size)).trans ((bY2.block _ (blk_lt (uh MB3))).trans (uh MB3)));have F2:=hide (show n2=(fun lo hi u x=>trOb lo hi u (notT x)) Y2.heap.size w4.heap.size v2 x from hn2.symm);have l5:w.heap.size≤Y2.heap.size:=(by have:=(uh BW3).size;have:=bY2.size;omega);clear f2 b4 hn2 hl3 hl4)
            | (refine step_appG rowV (by rfl) (.tmp 46) (.tmp 49) (by rfl) w.heap.size qn cn vs ⟨w2.heap.size,0,none⟩ 1 [v1] k 1 (k + 1) (uh HVS) rfl rfl (by rfl) (by rfl) (own_heap (w:=w2.alloc (.cells #[.int .i64 v1.kind,.string v1.attr,.slice v1.qi v1.ni v1.ci,.slice v1.qw v1.nw v1.cw,.int .i64 v1.lo,.int .i64 v1.hi,.int .i64 v1.op,.slice v1.qk v1.nk v1.ck] 29)) (by rfl) (((uh HNR).below (uh KY2)).below ((Below.refl _ _).alloc (Nat.le_refl _) _))) (src_node (W0:=w2) (by rfl) rfl) hkm hkb (show w.heap.size≤(w2.alloc (.cells #[.int .i64 v1.kind,.string v1.attr,.slice v1.qi v1.ni v1.ci,.slice v1.qw v1.nw v1.cw,.int .i64 v1.lo,.int .i64 v1.hi,.int .i64 v1.op,.slice v1.qk v1.nk v1.ck] 29)).heap.size by have:=(uh HB).size;have:=(uh KY2).size;simp;omega) ?_;intro q3 c3 w3 ho3 hb3 hg3 hor3;have hg:=gr_like (Z:=w2.alloc (.cells #[.int .i64 v1.kind,.string v1.attr,.slice v1.qi v1.ni v1.ci,.slice v1.qw v1.nw v1.cw,.int .i64 v1.lo,.int .i64 v1.hi,.int .i64 v1.op,.slice v1.qk v1.nk v1.ck] 29)) hg3 rfl rfl rfl rfl;have OBZ:=(uh OB2).below (((Below.refl _ _).alloc (Nat.le_refl _) _):Below w2.heap.size w2 (w2.alloc (.cells #[.int .i64 v1.kind,.string v1.attr,.slice v1.qi v1.ni v1.ci,.slice v1.qw v1.nw v1.cw,.int .i64 v1.lo,.int .i64 v1.hi,.int .i64 v1.op,.slice v1.qk v1.nk v1.ck] 29)));have OB3:=hide (OBZ.grown hg (uh AL1));have QN3:=hide (out_app (Z:=w2.alloc (.cells #[.int .i64 v1.kind,.string v1.attr,.slice v1.qi v1.ni v1.ci,.slice v1.qw v1.nw v1.cw,.int .i64 v1.lo,.int .i64 v1.hi,.int .i64 v1.op,.slice v1.qk v1.nk v1.ck] 29)) (uh AL1) OBZ hor3);have KR3:=hide (own_kept (((uh HKR).below (uh KY2)).below (((Below.refl _ _).alloc (Nat.le_refl _) _):Below w2.heap.size w2 (w2.alloc (.cells #[.int .i64 v1.kind,.string v1.attr,.slice v1.qi v1.ni v1.ci,.slice v1.qw v1.nw v1.cw,.int .i64 v1.lo,.int .i64 v1.hi,.int .i64 v1.op,.slice v1.qk v1.nk v1.ck] 29)))) hg (fun a b h1 h2 e=>uh HNE b a h2 h1 e.symm));have NE3:=hide (ne_app (Z:=w2.alloc (.cells #[.int .i64 v1.kind,.string v1.attr,.slice v1.qi v1.ni v1.ci,.slice v1.qw v1.nw v1.cw,.int .i64 v1.lo,.int .i64 v1.hi,.int .i64 v1.op,.slice v1.qk v1.nk v1.ck] 29)) (uh HNE) (((uh HKR).below (uh KY2)).below ((Below.refl _ _).alloc (Nat.le_refl _) _)) hor3);have MB3:=hide ((hg.block wr.heap.size (Nat.lt_of_lt_of_le (blk_lt (uh MB2)) ((Below.refl _ _).alloc (Nat.le_refl _) _).size) (fun e=>Nat.lt_irrefl _ (uh HLN _ e.symm))).trans ((heap_old (blk_lt (uh MB2))).trans (uh MB2)));have NR3:=hide ho3;have BW3:=hide (((uh HB).trans (((uh KY2).trans ((uh KY2) |> fun h=>(((Below.refl _ _).alloc (Nat.le_refl _) _):Below w2.heap.size w2 (w2.alloc (.cells #[.int .i64 v1.kind,.string v1.attr,.slice v1.qi v1.ni v1.ci,.slice v1.qw v1.nw v1.cw,.int .i64 v1.lo,.int .i64 v1.hi,.int .i64 v1.op,.slice v1.qk v1.nk v1.ck] 29))).mono h.size)).mono (uh HB).size)).trans (below_like hb3 rfl rfl rfl rfl));clear ho3 hb3 hg3 hor3 hg OBZ)
            | (go_at_call 8;refine name_world ?_;intro Y1 hY1;have bY1:Below Y.heap.size Y Y1:=(by rw [hY1];(repeat (first | exact Below.refl _ _ | refine Below.drew ?_)));refine (uh HNOT Y1 ((uh OBY).below bY1)).mono ?_;rintro e w2 ⟨⟨v1,he,f1⟩,b2⟩;have he2:e=.returned (.agg #[.int .i64 v1.kind,.string v1.attr,.slice v1.qi v1.ni v1.ci,.slice v1.qw v1.nw v1.cw,.int .i64 v1.lo,.int .i64 v1.hi,.int .i64 v1.op,.slice v1.qk v1.nk v1.ck]):=he;clear he;subst he2;simp only;obtain ⟨n1,hn1⟩:∃ o,trOb Y1.heap.size w2.heap.size v1 (notT x)=o:=⟨_,rfl⟩;have l1:wr.heap.size≤n1.lo:=(by rw [← hn1];exact Nat.le_trans (Nat.le_of_lt hYs) bY1.size);have OB2:=hide (show Objs (oA :: oC :: (ms ++ ((ns ++ [n1]) ++ (ks ++ R)))) w2 by rw [← (show (oA :: oC :: (ms ++ ns)) ++ n1 :: (ks ++ R)=oA :: oC :: (ms ++ ((ns ++ [n1]) ++ (ks ++ R))) by simp)];exact Objs.ins (o:=n1) (by rw [← (show oA :: oC :: (ms ++ (ns ++ (ks ++ R)))=(oA :: oC :: (ms ++ ns)) ++ (ks ++ R) by simp)];exact (uh OBY).below bY1) b2 (by rw [← hn1];exact f1.st (uh HWN) b2.size) (by rw [← hn1];exact Nat.le_refl _));have AL1:=hide (show ∀ g,(Value.slice qn k cn).ownBlock=some g→∀ p ∈ oA :: oC :: (ms ++ ((ns ++ [n1]) ++ (ks ++ R))),g < p.lo ∨ p.hi≤g by rw [← (show (oA :: oC :: (ms ++ ns)) ++ n1 :: (ks ++ R)=oA :: oC :: (ms ++ ((ns ++ [n1]) ++ (ks ++ R))) by simp)];exact out_all (by rw [← (show oA :: oC :: (ms ++ (ns ++ (ks ++ R)))=(oA :: oC :: (ms ++ ns)) ++ (ks ++ R) by simp)];exact uh HQN) (uh HLN) l1);have QK2:=hide (show Out (oA :: oC :: (ms ++ ((ns ++ [n1]) ++ (ks ++ R)))) qk by rw [← (show (oA :: oC :: (ms ++ ns)) ++ n1 :: (ks ++ R)=oA :: oC :: (ms ++ ((ns ++ [n1]) ++ (ks ++ R))) by simp)];exact out_ins (by rw [← (show oA :: oC :: (ms ++ (ns ++ (ks ++ R)))=(oA :: oC :: (ms ++ ns)) ++ (ks ++ R) by simp)];exact uh HQK) (uh HLK) l1);have KY2:=hide (below_sub (uh HUY) (below_sub bY1 b2));have MB2:=hide ((b2.block _ (Nat.lt_of_lt_of_le hYs bY1.size)).trans ((bY1.block _ hYs).trans (uh MB1)));have F1:=hide (show n1=(fun lo hi u x=>trOb lo hi u (notT x)) Y1.heap.size w2.heap.size v1 x from hn1.symm);have l3:w.heap.size≤Y1.heap.size:=(by have:=(uh HB).size;have:=bY1.size;omega);clear f1 b2 hn1))
          go_wp2
          exact ⟨⟨k + 1,q3,c3,vs ++ [v1],q5,c5,ws ++ [v2],ns ++ [n1],ks ++ [n2],by omega,by go_num,rfl,rfl,by rw [List.length_append,uh HVS];rfl,by rw [List.length_append,uh HWS];rfl,by rw [List.length_append,uh HNS];rfl,by rw [List.length_append,uh HKS];rfl,NR5,KR5,OB5,QN4,QK5,hide (fun a b h1 h2 e=>uh NE5 b a h2 h1 e.symm),hide (by rw [uh F1];exact (uh HF1).snoc (uh HVS) (uh HNS) (uh HXX) l3),hide (by rw [uh F2];exact (uh HF2).snoc (uh HWS) (uh HKS) (uh HXX) l5),BW5⟩,by simp [intOf];omega⟩
        · obtain rfl:k=kids.length:=by omega
          have ki1:¬ (kids.length:Int) < (kids.length:Int):=by omega
          clear hlt hkk hvs hws hns hks
          go_upto_region 16 with fail
          have hB0:=(uh HOB).get (o:=oB) (by have:=uh RB;simp [this])
          have hD0:=(uh HOB).get (o:=oD) (by have:=uh RD;simp [this])
          have xB0:=(uh HOB).get (o:=bxOb (w5.heap.size + 1) t2) (by have:=uh R2;simp [this])
          have xD0:=(uh HOB).get (o:=bxOb (w5.heap.size + 1 + 1 + 1) t4) (by have:=uh R4;simp [this])
          rw [← uh HDfB] at hB0
          rw [← uh HDfD] at hD0
          refine wp_region_noPanic (reg16 wr (w5.heap.size + 1) (w5.heap.size + 1 + 1 + 1) t2 t4 (joinT 3 kids) (joinT 4 kids) hB0.1.toIn hD0.1.toIn (uh HWJ3) (uh HWJ4) xB0 xD0 _ _ _ _ _ _ _ _ _ _ _ _ _ _ _ _ _ _ _ _ _ _ _ _ _ _ _ _ _ _ _ _ _ _ _ _ _ _ _ _ _ _ _ _ _ _ _ _ _ _ _ _ _ _ _ _ _ _ _ _ _ _ _ _ _ _ _ _ _ _ _ _ _ _ _ _ _ _ _ _ _ _ _ _ _ _ _ _ _ _ _ _ _ _ _ _ _ _ _ _ _ _ _ _ _ _ _ _ _ _ _ _ _ _ _ _ _ (fun _ _ _ _ _ h=>h) ?_)
          clear hB0 hD0 xB0 xD0
          intro W x y M N' s0 s1 s2 s3 hT
          refine NoPanic.normal ?_
          obtain ⟨oW,hoW⟩:∃ o:Ob,(⟨wr.heap.size,W.heap.size,fun V=>V.heap[M]? = some (.cells #[.int .i64 x.kind,.string x.attr,.slice x.qi x.ni x.ci,.slice x.qw x.nw x.cw,.int .i64 x.lo,.int .i64 x.hi,.int .i64 x.op,.slice x.qk x.nk x.ck] 29 (0,0))∧V.heap[N']? = some (.cells #[.int .i64 y.kind,.string y.attr,.slice y.qi y.ni y.ci,.slice y.qw y.nw y.cw,.int .i64 y.lo,.int .i64 y.hi,.int .i64 y.op,.slice y.qk y.nk y.ck] 29 (0,0))∧SpIn V wr.heap.size x (joinT 3 kids)∧SpIn V wr.heap.size y (joinT 4 kids)⟩:Ob)=o:=⟨_,rfl⟩
          have hst:St wr.heap.size W.heap.size (fun V=>V.heap[M]? = some (.cells #[.int .i64 x.kind,.string x.attr,.slice x.qi x.ni x.ci,.slice x.qw x.nw x.cw,.int .i64 x.lo,.int .i64 x.hi,.int .i64 x.op,.slice x.qk x.nk x.ck] 29 (0,0))∧V.heap[N']? = some (.cells #[.int .i64 y.kind,.string y.attr,.slice y.qi y.ni y.ci,.slice y.qw y.nw y.cw,.int .i64 y.lo,.int .i64 y.hi,.int .i64 y.op,.slice y.qk y.nk y.ck] 29 (0,0))∧SpIn V wr.heap.size x (joinT 3 kids)∧SpIn V wr.heap.size y (joinT 4 kids)) W:=⟨hT.below.size,Nat.le_refl _,fun V hs he=>⟨(he M hT.gx (blk_lt hT.hx)).trans hT.hx,(he N' hT.gy (blk_lt hT.hy)).trans hT.hy,hT.sx.up ⟨hs,he⟩,hT.sy.up ⟨hs,he⟩⟩⟩
          have OB6:Objs ((oA :: oC :: (ms ++ (ns ++ ks))) ++ oW :: R) W:=Objs.ins (L1:=oA :: oC :: (ms ++ (ns ++ ks))) (L2:=R) (o:=oW) (by have h:=uh HOB;simpa using h) hT.below (by rw [← hoW];exact hst) (by rw [← hoW];exact Nat.le_refl _)
          have N6:=(uh HNR).below hT.below
          have K6:=(uh HKR).below hT.below
          have O6:=out_ins (L:=oA :: oC :: (ms ++ (ns ++ ks))) (L2:=R) (o:=oW) (by have h:=uh HQN;simpa using h) ((uh HNR).ownLt (uh HVS)) (show wr.heap.size≤oW.lo by rw [← hoW];exact Nat.le_refl _)
          have P6:=out_ins (L:=oA :: oC :: (ms ++ (ns ++ ks))) (L2:=R) (o:=oW) (by have h:=uh HQK;simpa using h) ((uh HKR).ownLt (uh HWS)) (show wr.heap.size≤oW.lo by rw [← hoW];exact Nat.le_refl _)
          have OB7:=(OB6.row N6 O6).row K6 (out_row P6 (uh HNE))
          obtain ⟨S,hS⟩:∃ S,oW :: (R ++ [rwOb qn cn vs,rwOb qk ck ws])=S:=⟨_,rfl⟩
          have OB8:=hide (show Objs (oA :: oC :: (ms ++ (ns ++ (ks ++ S)))) W by rw [← hS];simpa using OB7)
          have SM:=hide (show rwOb qm cm us ∈ S by rw [← hS];have:=uh RM;simp [this])
          have SN:=hide (show rwOb qn cn vs ∈ S by rw [← hS];simp)
          have SK:=hide (show rwOb qk ck ws ∈ S by rw [← hS];simp)
          have SW:=hide (show oW ∈ S by rw [← hS];simp)
          have SB:=hide (show oB ∈ S by rw [← hS];have:=uh RB;simp [this])
          have SD:=hide (show oD ∈ S by rw [← hS];have:=uh RD;simp [this])
          have S1:=hide (show bxOb w5.heap.size t1 ∈ S by rw [← hS];have:=uh R1;simp [this])
          have S2:=hide (show bxOb (w5.heap.size + 1) t2 ∈ S by rw [← hS];have:=uh R2;simp [this])
          have S3:=hide (show bxOb (w5.heap.size + 1 + 1) t3 ∈ S by rw [← hS];have:=uh R3;simp [this])
          have S4:=hide (show bxOb (w5.heap.size + 1 + 1 + 1) t4 ∈ S by rw [← hS];have:=uh R4;simp [this])
          have BW6:=hide (below_sub (uh HB) hT.below)
          have HDfW:=hide hoW
          clear hst OB6 N6 K6 O6 P6 OB7 hS hT hoW HOB HNR HKR HQN HQK HNE RM RB RD R1 R2 R3 R4
          obtain ⟨a0,a1,a2,a3,a4,a5,a6,a7⟩:=of8' ((uh OB8).get (o:=bxOb w5.heap.size t1) (by have:=uh S1;simp [this]))
          go_upto_region 18 with (go_at_call 9;obtain ⟨na1,hra1⟩:=(show (trOb _ _ t1 _).P W from uh HDfA ▸ (uh OB8).get (o:=oA) (by simp)).2;have hst1:=(uh OB8).2 oA (by simp);refine (over_node na1 _ _ t1 W hra1 (by rw [← uh HDfA] at hst1;exact hst1.top)).mono ?_;rintro e w6 ⟨rfl,h6,_⟩;have h7:Wr [3,9,29] oA.lo oA.hi W w6:=(by rw [← uh HDfA];exact h6);have OB9:=hide ((uh OB8).wr (L1:=[]) h7);have BW9:=hide ((uh BW6).trans ((h7.below (Nat.le_trans hst1.le hst1.top)).mono (Nat.le_trans zU (uh OUA))));clear hra1 hst1 h6 h7)
          clear a0 a1 a2 a3 a4 a5 a6 a7
          obtain ⟨a0,a1,a2,a3,a4,a5,a6,a7⟩:=of8' ((uh OB9).get (o:=bxOb (w5.heap.size + 1 + 1) t3) (by have:=uh S3;simp [this]))
          go_upto_region 19 with (go_at_call 9;obtain ⟨na2,hra2⟩:=(show (trOb _ _ t3 _).P w6 from uh HDfC ▸ (uh OB9).get (o:=oC) (by simp)).2;have hst2:=(uh OB9).2 oC (by simp);refine (over_node na2 _ _ t3 w6 hra2 (by rw [← uh HDfC] at hst2;exact hst2.top)).mono ?_;rintro e w7 ⟨rfl,h6,_⟩;have h7:Wr [3,9,29] oC.lo oC.hi w6 w7:=(by rw [← uh HDfC];exact h6);have OB10:=hide ((uh OB9).wr (L1:=[]) h7);have BW10:=hide ((uh BW9).trans ((h7.below (Nat.le_trans hst2.le hst2.top)).mono (Nat.le_trans zU (uh OUC))));clear hra2 hst2 h6 h7)
          clear a0 a1 a2 a3 a4 a5 a6 a7
          have RUNM:∀ W:World,Objs (ms ++ (ns ++ (ks ++ S))) W→True:=fun _ _=>trivial
          clear RUNM
          go_wp2
          go_loopw [67] (fun i wr=>∃ k:Nat,k≤kids.length∧i=.int .i64 k∧Hid (Objs (ms.drop k ++ (ns.drop k ++ (ks ++ S))) wr)∧Hid (Below w.heap.size w wr)) (fun i _=>kids.length - (intOf i).toNat)
          case atStart=>exact ⟨0,by omega,rfl,hide (by have h:=uh OB10;simpa using h),BW10⟩
          case round =>
            clear OB8 OB9 OB10 BW6 BW9 BW10
            obtain ⟨k,hkk,rfl,HQ,HB⟩:=hrel
            obtain ⟨wr,rfl⟩:∃ U,U=wr:=⟨_,rfl⟩
            by_cases hlt:k < kids.length
            · obtain ⟨x,hx,_⟩:=get_at hlt
              have hN:OwnK encV 29 8 0 wr qn cn vs:=(uh HQ).get (o:=rwOb qn cn vs) (by have:=uh SN;simp [this])
              obtain ⟨bn,fn,un,lo1,hi1,hqn,hun,hlo1,hnk,e0,e1,e2,e3,e4,e5,e6,e7⟩:=fam_at hN (uh HF1) (uh HVS) hx
              have hM:OwnK encV 29 8 0 wr qm cm us:=(uh HQ).get (o:=rwOb qm cm us) (by have:=uh SM;simp [this])
              obtain ⟨bm,fm,um,lo2,hi2,hqm,hum,hlo2,hmk,_⟩:=fam_at hM (uh HFM) (uh HUS) hx
              obtain ⟨b0,f0,v0,hq0,hb0,hin0,c0,c1,c2,c3,c4,c5,c6,c7⟩:=(uh HK).at hx
              have HC0:=hide (show w.cell? ⟨b0,f0 + k * 8,none⟩=some (.int .i64 v0.kind)∧w.cell? ⟨b0,f0 + k * 8 + 1,none⟩=some (.string v0.attr)∧w.cell? ⟨b0,f0 + k * 8 + 2,none⟩=some (.slice v0.qi v0.ni v0.ci)∧w.cell? ⟨b0,f0 + k * 8 + 3,none⟩=some (.slice v0.qw v0.nw v0.cw)∧w.cell? ⟨b0,f0 + k * 8 + 4,none⟩=some (.int .i64 v0.lo)∧w.cell? ⟨b0,f0 + k * 8 + 5,none⟩=some (.int .i64 v0.hi)∧w.cell? ⟨b0,f0 + k * 8 + 6,none⟩=some (.int .i64 v0.op)∧w.cell? ⟨b0,f0 + k * 8 + 7,none⟩=some (.slice v0.qk v0.nk v0.ck) from ⟨c0,c1,c2,c3,c4,c5,c6,c7⟩)
              clear c0 c1 c2 c3 c4 c5 c6 c7
              subst hqn hqm hq0
              have HQ1:=hide (show Objs ((cpOb lo2 hi2 um x) :: ms.drop (k + 1) ++ (trOb lo1 hi1 un (notT x)) :: (ns.drop (k + 1) ++ (ks ++ S))) wr by have h:=uh HQ;rw [drop_at hmk,drop_at hnk] at h;exact h)
              have hxw:=wtL_mem (List.mem_of_getElem? hx)
              have ki0:(0:Int)≤(k:Int):=by omega
              have ki1:(k:Int) < (kids.length:Int):=by omega
              have HI0:=hide hin0
              have HUM:=hide hum
              have HXX:=hide hx
              have HKE:=hide (fun (B:Nat) (W:World) (hs:SpIn W B um x) (hn:NdIn W v0 x)=>kept_any x B um v0 W hs hn (by omega))
              simp only [Nv.val] at HKE
              clear hN hun hnk hM hum hmk hin0 hx hxw HQ
              go_upto_region 23 with (go_at_call 9;obtain ⟨na1,hra⟩:=((uh HQ1).get (o:=trOb lo1 hi1 un (notT x)) (by simp)).2;have hst:=(uh HQ1).2 (trOb lo1 hi1 un (notT x)) (by simp);refine (over_node na1 lo1 hi1 un wr hra hst.top).mono ?_;rintro e y1 ⟨rfl,h6,_⟩;have HQ2:=hide ((uh HQ1).wr (L1:=(cpOb lo2 hi2 um x) :: ms.drop (k + 1)) (o:=trOb lo1 hi1 un (notT x)) h6);have HB2:=hide ((uh HB).trans ((h6.below (Nat.le_trans hst.le hst.top)).mono hlo1));clear hra hst h6 e0 e1 e2 e3 e4 e5 e6 e7)
              have hM2:OwnK encV 29 8 0 y1 (some ⟨bm,fm,none⟩) cm us:=(uh HQ2).get (o:=rwOb (some ⟨bm,fm,none⟩) cm us) (by have:=uh SM;simp [this])
              have KSH:=hide (fun (W:World) (hW:Below y1.heap.size y1 W)=>(show (fun w':World=>w'.cell? ⟨bm,fm + k * 8,none⟩=some (.int .i64 um.kind)∧w'.cell? ⟨bm,fm + k * 8 + 1,none⟩=some (.string um.attr)∧w'.cell? ⟨bm,fm + k * 8 + 2,none⟩=some (.slice um.qi um.ni um.ci)∧w'.cell? ⟨bm,fm + k * 8 + 3,none⟩=some (.slice um.qw um.nw um.cw)∧w'.cell? ⟨bm,fm + k * 8 + 4,none⟩=some (.int .i64 um.lo)∧w'.cell? ⟨bm,fm + k * 8 + 5,none⟩=some (.int .i64 um.hi)∧w'.cell? ⟨bm,fm + k * 8 + 6,none⟩=some (.int .i64 um.op)∧w'.cell? ⟨bm,fm + k * 8 + 7,none⟩=some (.slice um.qk um.nk um.ck)∧w'.cell? ⟨b0,f0 + k * 8,none⟩=some (.int .i64 v0.kind)∧w'.cell? ⟨b0,f0 + k * 8 + 1,none⟩=some (.string v0.attr)∧w'.cell? ⟨b0,f0 + k * 8 + 2,none⟩=some (.slice v0.qi v0.ni v0.ci)∧w'.cell? ⟨b0,f0 + k * 8 + 3,none⟩=some (.slice v0.qw v0.nw v0.cw)∧w'.cell? ⟨b0,f0 + k * 8 + 4,none⟩=some (.int .i64 v0.lo)∧w'.cell? ⟨b0,f0 + k * 8 + 5,none⟩=some (.int .i64 v0.hi)∧w'.cell? ⟨b0,f0 + k * 8 + 6,none⟩=some (.int .i64 v0.op)∧w'.cell? ⟨b0,f0 + k * 8 + 7,none⟩=some (.slice v0.qk v0.nk v0.ck)) W by
                have hM3:=hM2.upF (B':=0) (fun _ _=>Nat.zero_le _) (fun b _ hb=>hW.block b hb)
                obtain ⟨a0,a1,a2,a3,a4,a5,a6,a7⟩:=row_at hM3 (uh HUM)
                obtain ⟨d0,d1,d2,d3,d4,d5,d6,d7⟩:=uh HC0
                have hb:=below_sub (uh HB2) hW
                exact ⟨a0,a1,a2,a3,a4,a5,a6,a7,(hb.cell hb0).trans d0,(hb.cell hb0).trans d1,(hb.cell hb0).trans d2,(hb.cell hb0).trans d3,(hb.cell hb0).trans d4,(hb.cell hb0).trans d5,(hb.cell hb0).trans d6,(hb.cell hb0).trans d7⟩))
              obtain ⟨g0,g1,g2,g3,g4,g5,g6,g7,d0,d1,d2,d3,d4,d5,d6,d7⟩:=uh KSH y1 (Below.refl _ _)
              clear hM2
              go_region_held3 (fun w':World=>w'.cell? ⟨bm,fm + k * 8,none⟩=some (.int .i64 um.kind)∧w'.cell? ⟨bm,fm + k * 8 + 1,none⟩=some (.string um.attr)∧w'.cell? ⟨bm,fm + k * 8 + 2,none⟩=some (.slice um.qi um.ni um.ci)∧w'.cell? ⟨bm,fm + k * 8 + 3,none⟩=some (.slice um.qw um.nw um.cw)∧w'.cell? ⟨bm,fm + k * 8 + 4,none⟩=some (.int .i64 um.lo)∧w'.cell? ⟨bm,fm + k * 8 + 5,none⟩=some (.int .i64 um.hi)∧w'.cell? ⟨bm,fm + k * 8 + 6,none⟩=some (.int .i64 um.op)∧w'.cell? ⟨bm,fm + k * 8 + 7,none⟩=some (.slice um.qk um.nk um.ck)∧w'.cell? ⟨b0,f0 + k * 8,none⟩=some (.int .i64 v0.kind)∧w'.cell? ⟨b0,f0 + k * 8 + 1,none⟩=some (.string v0.attr)∧w'.cell? ⟨b0,f0 + k * 8 + 2,none⟩=some (.slice v0.qi v0.ni v0.ci)∧w'.cell? ⟨b0,f0 + k * 8 + 3,none⟩=some (.slice v0.qw v0.nw v0.cw)∧w'.cell? ⟨b0,f0 + k * 8 + 4,none⟩=some (.int .i64 v0.lo)∧w'.cell? ⟨b0,f0 + k * 8 + 5,none⟩=some (.int .i64 v0.hi)∧w'.cell? ⟨b0,f0 + k * 8 + 6,none⟩=some (.int .i64 v0.op)∧w'.cell? ⟨b0,f0 + k * 8 + 7,none⟩=some (.slice v0.qk v0.nk v0.ck)) (exact uh KSH _ (by (repeat (first | exact Below.refl _ _ | exact uh KY | refine Below.drew ?_)))) (first
                | (go_at_call 10;refine name_world ?_;intro Y1 hY1;have bY1:Below y1.heap.size y1 Y1:=(by rw [hY1];(repeat (first | exact Below.refl _ _ | refine Below.drew ?_)));refine (uh HKE lo2 Y1 ((uh HQ2).get (o:=(cpOb lo2 hi2 um x)) (by simp) |>.1.keep bY1) ((uh HI0).keep (below_sub (uh HB2) bY1))).mono ?_;rintro e y2 ⟨rfl,b2⟩;simp only;have b3:=below_sub bY1 b2;have HQ3:=hide ((uh HQ2).below b3);have HB3:=hide (below_sub (uh HB2) b3);have KY:=hide (show Below y1.heap.size y1 y2 from b3);clear b2 b3))
              clear KSH
              obtain ⟨g0,g1,g2,g3,g4,g5,g6,g7⟩:=row_at ((uh HQ3).get (o:=rwOb (some ⟨bm,fm,none⟩) cm us) (by have:=uh SM;simp [this])) (uh HUM)
              go_wp2_with (go_at_call 9;have tb:=HQ3;clear tb;refine name_world ?_;intro Y2 hY2;have bY2:Below y2.heap.size y2 Y2:=(by rw [hY2];(repeat (first | exact Below.refl _ _ | refine Below.drew ?_)));have HQ4:=(uh HQ3).below bY2;obtain ⟨na2,hra⟩:=(HQ4.get (o:=(cpOb lo2 hi2 um x)) (by simp)).2;have hst:=HQ4.2 (cpOb lo2 hi2 um x) (by simp);refine (over_node na2 lo2 hi2 um Y2 hra hst.top).mono ?_;rintro e y3 ⟨rfl,h6,_⟩;have HQ5:=hide (HQ4.wr (L1:=[]) (o:=(cpOb lo2 hi2 um x)) h6);have HB5:=hide ((below_sub (uh HB3) bY2).trans ((h6.below (Nat.le_trans hst.le hst.top)).mono hlo2));clear hra hst h6 HQ4)
              exact ⟨⟨k + 1,by omega,by go_num,HQ5,HB5⟩,by simp [intOf];omega⟩
            · obtain rfl:k=kids.length:=by omega
              have ki1:¬ (kids.length:Int) < (kids.length:Int):=by omega
              have HQ6:=hide (show Objs (ks ++ S) wr by have h:=uh HQ;rw [List.drop_eq_nil_of_le (Nat.le_of_eq (uh HMS)),List.drop_eq_nil_of_le (Nat.le_of_eq (uh HNS))] at h;exact h)
              clear hlt hkk HQ
              go_wp2
              go_loopw [93] (fun i wr=>∃ k:Nat,k≤kids.length∧i=.int .i64 k∧Hid (Objs (ks ++ S) wr)∧Hid (Below w.heap.size w wr)) (fun i _=>kids.length - (intOf i).toNat)
              case atStart=>exact ⟨0,by omega,rfl,HQ6,HB⟩
              case round =>
                clear HQ6 HB
                obtain ⟨k,hkk,rfl,HQ,HB⟩:=hrel
                obtain ⟨wr,rfl⟩:∃ U,U=wr:=⟨_,rfl⟩
                by_cases hlt:k < kids.length
                · obtain ⟨x,hx,_⟩:=get_at hlt
                  have hN:OwnK encV 29 8 0 wr qk ck ws:=(uh HQ).get (o:=rwOb qk ck ws) (by have:=uh SK;simp [this])
                  obtain ⟨bk,fk,uk,lo3,hi3,hqk,huk,hlo3,hkk2,e0,e1,e2,e3,e4,e5,e6,e7⟩:=fam_at hN (uh HF2) (uh HWS) hx
                  obtain ⟨b0,f0,v0,hq0,hb0,hin0,_⟩:=(uh HK).at hx
                  subst hqk hq0
                  obtain ⟨hkc1,hkc2,hkid⟩:=kid_one (uh HK) hx
                  have hxw:=wtL_mem (List.mem_of_getElem? hx)
                  have ki0:(0:Int)≤(k:Int):=by omega
                  have ki1:(k:Int) < (kids.length:Int):=by omega
                  have ki2:(k:Int) + 1≤(c:Int):=by omega
                  have ki3:(k:Int)≤(k:Int) + 1:=by omega
                  have ki4:(0:Int)≤(k:Int) + 1:=by omega
                  have ki6:¬ c=k:=by omega
                  have ki5:IntKind.i64.wrap ((k:Int) + 1)=(k:Int) + 1:=wrap_i _ (by omega) (by omega)
                  have HSM:=hide (fun (W:World) (hW:Below wr.heap.size wr W)=>sameTT (t:=notT x) uk ⟨0,⟨#[]⟩,none,0,0,none,0,0,0,0,2,some ⟨b0,f0 + k * 8,none⟩,1,c - k⟩ W ((((uh HQ).get (o:=trOb lo3 hi3 uk (notT x)) (by simp [List.mem_of_getElem? hkk2])).1.toIn).keep hW) (hkid.keep (below_sub (uh HB) hW)) (by rw [wt_not];omega))
                  simp only [Nv.val] at HSM
                  have KSH:=hide (fun (W:World) (hW:Below wr.heap.size wr W)=>(show (fun w':World=>w'.cell? ⟨bk,fk + k * 8,none⟩=some (.int .i64 uk.kind)∧w'.cell? ⟨bk,fk + k * 8 + 1,none⟩=some (.string uk.attr)∧w'.cell? ⟨bk,fk + k * 8 + 2,none⟩=some (.slice uk.qi uk.ni uk.ci)∧w'.cell? ⟨bk,fk + k * 8 + 3,none⟩=some (.slice uk.qw uk.nw uk.cw)∧w'.cell? ⟨bk,fk + k * 8 + 4,none⟩=some (.int .i64 uk.lo)∧w'.cell? ⟨bk,fk + k * 8 + 5,none⟩=some (.int .i64 uk.hi)∧w'.cell? ⟨bk,fk + k * 8 + 6,none⟩=some (.int .i64 uk.op)∧w'.cell? ⟨bk,fk + k * 8 + 7,none⟩=some (.slice uk.qk uk.nk uk.ck)) W by
                    have hM3:=hN.upF (B':=0) (fun _ _=>Nat.zero_le _) (fun b _ hb=>hW.block b hb)
                    exact row_at hM3 huk))
                  clear hN hkk2 hin0 hb0 hkid hx hxw
                  go_upto_region 30 with fail
                  go_region_held3 (fun w':World=>w'.cell? ⟨bk,fk + k * 8,none⟩=some (.int .i64 uk.kind)∧w'.cell? ⟨bk,fk + k * 8 + 1,none⟩=some (.string uk.attr)∧w'.cell? ⟨bk,fk + k * 8 + 2,none⟩=some (.slice uk.qi uk.ni uk.ci)∧w'.cell? ⟨bk,fk + k * 8 + 3,none⟩=some (.slice uk.qw uk.nw uk.cw)∧w'.cell? ⟨bk,fk + k * 8 + 4,none⟩=some (.int .i64 uk.lo)∧w'.cell? ⟨bk,fk + k * 8 + 5,none⟩=some (.int .i64 uk.hi)∧w'.cell? ⟨bk,fk + k * 8 + 6,none⟩=some (.int .i64 uk.op)∧w'.cell? ⟨bk,fk + k * 8 + 7,none⟩=some (.slice uk.qk uk.nk uk.ck)) (exact uh KSH _ (by (repeat (first | exact Below.refl _ _ | exact uh KY | refine Below.drew ?_)))) (first
                    | (go_at_call 11;(try rw [if_neg ki6]);refine name_world ?_;intro Y1 hY1;have bY1:Below wr.heap.size wr Y1:=(by rw [hY1];(repeat (first | exact Below.refl _ _ | refine Below.drew ?_)));refine (uh HSM Y1 bY1).mono ?_;rintro e y1 ⟨rfl,b2⟩;simp only;have b3:=below_sub bY1 b2;have HQ2:=hide ((uh HQ).below b3);have HB2:=hide (below_sub (uh HB) b3);have KY:=hide (show Below wr.heap.size wr y1 from b3);clear b2 b3))
                  go_wp2
                  exact ⟨⟨k + 1,by omega,by go_num,HQ2,HB2⟩,by simp [intOf];omega⟩
                · obtain rfl:k=kids.length:=by omega
                  have ki1:¬ (kids.length:Int) < (kids.length:Int):=by omega
                  clear hlt hkk
                  obtain ⟨a0,a1,a2,a3,a4,a5,a6,a7⟩:=of8' ((uh HQ).get (o:=bxOb (w5.heap.size + 1) t2) (by have:=uh S2;simp [this]))
                  have hW:=(uh HQ).get (o:=oW) (by have:=uh SW;simp [this])
                  rw [← uh HDfW] at hW
                  obtain ⟨hMx,_,sx,_⟩:=hW
                  obtain ⟨e0,e1,e2,e3,e4,e5,e6,e7⟩:=of8' hMx
                  have sB:=(uh HQ).get (o:=oB) (by have:=uh SB;simp [this])
                  rw [← uh HDfB] at sB
                  go_wp2_with (first
                    | (go_at_call 11;have tb:=HQ7;clear tb;refine (sameTT t4 y y1 (uh HDN) (uh HSY) (uh HWJ4)).mono ?_;rintro e y2 ⟨rfl,b2⟩;have HB8:=hide (below_sub (uh HB7) b2);clear b2)
                    | (go_at_call 11;refine (sameTT t2 x wr sB.1.toIn sx.toIn (uh HWJ3)).mono ?_;rintro e y1 ⟨rfl,b2⟩;have HQ7:=hide ((uh HQ).below b2);have HB7:=hide (below_sub (uh HB) b2);clear b2;obtain ⟨d0,d1,d2,d3,d4,d5,d6,d7⟩:=of8' ((uh HQ7).get (o:=bxOb (w5.heap.size + 1 + 1 + 1) t4) (by have:=uh S4;simp [this]));have hW7:=(uh HQ7).get (o:=oW) (by have:=uh SW;simp [this]);rw [← uh HDfW] at hW7;obtain ⟨_,hNy7,_,sy7⟩:=hW7;obtain ⟨f0,f1,f2,f3,f4,f5,f6,f7⟩:=of8' hNy7;have sD:=(uh HQ7).get (o:=oD) (by have:=uh SD;simp [this]);rw [← uh HDfD] at sD;have HSY:=hide sy7.toIn;have HDN:=hide sD.1.toIn;clear hNy7 sy7 sD))
                  go_ret
                  exact ⟨rfl,uh HB8⟩
end Go.Proofs.YtikhopiegaoacaaDoor

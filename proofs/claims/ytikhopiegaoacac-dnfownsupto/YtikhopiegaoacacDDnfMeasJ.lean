/- measured of a join. -/
import Derived.Test.YtikhopiegaoacacDZah
import Derived.Deep.RegionHeld3
namespace Go.Proofs.Ytikhopiegaoacac
open Go.RowKit Go.Sort

set_option maxRecDepth 100000 in
set_option maxHeartbeats 4000000 in
theorem meas_3 (kind:Int) (attr:ByteArray) (qi:Option Addr) (ci:Nat) (ints:List Int) (qw:Option Addr) (cw:Nat) (words:List ByteArray) (lo hi:Int) (qk:Option Addr) (ck:Nat) (kids:List Nd) (w0 w:World) (hk:NdsOf w0 qk ck kids) (hb:Below w0.heap.size w0 w) (ih:∀ x ∈ kids,MsP x) (hC:∀ x ∈ kids,chkN x=true) (hA:∀ x ∈ kids,atN x=true) (hW:∀ x ∈ kids,wN x≤64) (l3:wtL kids≤1000000000) :
  Calls Try.prog 23 #[.agg #[.int .i64 kind,.string attr,.slice qi ints.length ci,.slice qw words.length cw,.int .i64 lo,.int .i64 hi,.int .i64 3,.slice qk kids.length ck]] w fun e w'=>(∃ (gk:Nat) (us:List Sv),e=.returned (.agg #[.int .i64 0,.string ⟨#[]⟩,.slice none 0 0,.slice none 0 0,.int .i64 0,.int .i64 0,.bool false,.int .i64 3,.int .i64 (prodB 64 (kids.map wN)),.slice (some ⟨gk,0,none⟩) kids.length kids.length])∧w.heap.size≤gk∧SlOf encSd 10 w' (some ⟨gk,0,none⟩) kids.length us∧us.length=kids.length∧∀ (j:Nat) (v:Sv) (x:Nd),us[j]? = some v→kids[j]? = some x→SdSt w0.heap.size w.heap.size v x w')∧Below w.heap.size w w':=by
 have hlen:=Nat.le_trans (Nat.le_trans (len_size kids) (sizeL_wt kids)) l3
 have hmx:kids.length≤maxLen:=by unfold maxLen;omega
 have a0:(kids.length:Int)≤1000000000:=by omega
 have a1:(0:Int)≤(kids.length:Int):=by omega
 have hw0:=hb.size
 obtain ⟨cur,hcs,hmk⟩:=makeSd kids.length (by omega)
 obtain ⟨cui,hci,hmi⟩:=makeIn kids.length (by omega)
 obtain ⟨X,HX⟩:∃ X,(w.alloc (.cells #[.int .i64 kind,.string attr,.slice qi ints.length ci,.slice qw words.length cw,.int .i64 lo,.int .i64 hi,.int .i64 3,.slice qk kids.length ck] 28)).alloc (.cells #[.int .i64 0,.string ⟨#[]⟩,.slice none 0 0,.slice none 0 0,.int .i64 0,.int .i64 0,.bool false,.int .i64 0,.int .i64 0,.slice none 0 0] 62)=X:=⟨_,rfl⟩
 obtain ⟨x8,xz,bX,sX⟩:=twoM HX
 have X8:=hide x8
 have XZ:=hide xz
 have BX:=hide bX
 have KS:∀ W,Below X.heap.size X W→(fun w'=>w'.cell? ⟨w.heap.size,6,none⟩=some (.int .i64 3)∧w'.cell? ⟨w.heap.size,7,none⟩=some (.slice qk kids.length ck)) W:=fun W hb=>by
  obtain ⟨a0,a1,a2,a3,a4,a5,a6,a7⟩:=of8' ((hb.block _ (heap_lt (uh X8))).trans (uh X8))
  exact ⟨a6,a7⟩
 obtain ⟨c0,c1,c2,c3,c4,c5,c6,c7⟩:=of8' x8
 have bal:∀ W (ob:Obj),Below X.heap.size X W→Below X.heap.size X (W.alloc ob):=fun W ob hb=>hb.alloc hb.size _
 have dX:Below X.heap.size X X.drew:=(Below.refl _ _).drew
 have HK:=hide hk
 have IH:=hide ih
 have HB0:=hide hb
 have HC:=hide hC
 have HA:=hide hA
 have HW:=hide hW
 have HCS:=hide hcs
 have HCI:=hide hci
 clear hk ih hb hC hA hW hcs hci x8 xz bX
 go_enter Try.func23,Try.ntmps23
 go_wp2
 go_cut [3] from 7 (fun s3 V=>∃ mb gk:Nat,s3=.pointer (some ⟨mb,0,none⟩)∧mb ≠ gk∧V.ownsRow (w.heap.size + 2) 62 10 (.slice (some ⟨mb,0,none⟩) 1 1) 1 [.int .i64 0,.string ⟨#[]⟩,.slice none 0 0,.slice none 0 0,.int .i64 0,.int .i64 0,.bool false,.int .i64 3,.int .i64 0,.slice (some ⟨gk,0,none⟩) kids.length kids.length]∧V.ownsRow (w.heap.size + 2) 62 10 (.slice (some ⟨gk,0,none⟩) kids.length kids.length) kids.length cur.toList∧Below X.heap.size X V∧w.heap.size + 2≤V.heap.size)
 case first =>
  refine wp_region_held_drew (S:=fun w'=>w'.cell? ⟨w.heap.size,6,none⟩=some (.int .i64 3)∧w'.cell? ⟨w.heap.size,7,none⟩=some (.slice qk kids.length ck)) (by kernel_rfl) (KS _ dX) (fun hHeld=>?_)
  refine wpAnyH_take (i:=0) (oi:=⟨some 24,.fieldAddr 28 (.tmp 1) 1,_,_,_,none⟩) (v:=?_) rfl (by kernel_rfl) (by kernel_rfl) (by kernel_rfl) (fun _ _ _ h=>h) (Or.inl ⟨by rfl, ?_⟩) (by assumption) ?_
  rotate_left
  ·intro wq hSw
   go_simp
   with_reducible rfl
  simp only [Act.put,List.setIfInBounds_toArray,List.set_cons_zero,List.set_cons_succ]
  refine wpAnyH_take (i:=1) (oi:=⟨some 25,.load 3 (.tmp 24),_,_,_,none⟩) (v:=?_) rfl (by kernel_rfl) (by kernel_rfl) (by kernel_rfl) (fun _ _ _ h=>h) (Or.inl ⟨by rfl, ?_⟩) (by assumption) ?_
  rotate_left
  ·intro wq hSw
   go_simp
   with_reducible rfl
  simp only [Act.put,List.setIfInBounds_toArray,List.set_cons_zero,List.set_cons_succ]
  refine wpAnyH_take (i:=2) (oi:=⟨some 26,.fieldAddr 28 (.tmp 1) 2,_,_,_,none⟩) (v:=?_) rfl (by kernel_rfl) (by kernel_rfl) (by kernel_rfl) (fun _ _ _ h=>h) (Or.inl ⟨by rfl, ?_⟩) (by assumption) ?_
  rotate_left
  ·intro wq hSw
   go_simp
   with_reducible rfl
  simp only [Act.put,List.setIfInBounds_toArray,List.set_cons_zero,List.set_cons_succ]
  refine wpAnyH_take (i:=3) (oi:=⟨some 27,.load 26 (.tmp 26),_,_,_,none⟩) (v:=?_) rfl (by kernel_rfl) (by kernel_rfl) (by kernel_rfl) (fun _ _ _ h=>h) (Or.inl ⟨by rfl, ?_⟩) (by assumption) ?_
  rotate_left
  ·intro wq hSw
   go_simp
   with_reducible rfl
  simp only [Act.put,List.setIfInBounds_toArray,List.set_cons_zero,List.set_cons_succ]
  refine wpAnyH_take (i:=4) (oi:=⟨some 28,.call { callee:=.builtin .len,args:=#[.tmp 27],argTypes:=#[26] },_,_,_,none⟩) (v:=?_) rfl (by kernel_rfl) (by kernel_rfl) (by kernel_rfl) (fun _ _ _ h=>h) (Or.inl ⟨by rfl, ?_⟩) (by assumption) ?_
  rotate_left
  ·intro wq hSw
   go_simp
   with_reducible rfl
  simp only [Act.put,List.setIfInBounds_toArray,List.set_cons_zero,List.set_cons_succ]
  refine wpAnyH_ready (rs:=[5,7]) (by kernel_rfl) (by simp) ?_
  refine AllReadyH.cons (o:=⟨some 29,.makeSlice 60 (.tmp 28) (.tmp 28),_,_,_,none⟩) rfl (fun K hK=>?_) ?_
  ·go_simp
   refine hK.out _ _ (KS _ (by first | with_reducible exact (bal _ _ (bal _ _ (Below.refl _ _))).drew | with_reducible exact (bal _ _ (Below.refl _ _)).drew | with_reducible exact (set10_below (bal _ _ (bal _ _ (Below.refl _ _))) (by omega) _ _ _ _ _ _ _ _ _ _).drew | with_reducible exact set10_below (bal _ _ (bal _ _ (Below.refl _ _))).drew (by omega) _ _ _ _ _ _ _ _ _ _)) (fun hHeld=>?_)
   clear hK K
   refine wpAnyH_take (i:=6) (oi:=⟨some 30,.build 62 #[(1,.tmp 25),(3,.tmp 29)],_,_,_,none⟩) (v:=?_) rfl (by kernel_rfl) (by kernel_rfl) (by kernel_rfl) (fun _ _ _ h=>h) (Or.inl ⟨by rfl, ?_⟩) (by assumption) ?_
   rotate_left
   ·intro wq hSw
    go_simp
    with_reducible rfl
   simp only [Act.put,List.setIfInBounds_toArray,List.set_cons_zero,List.set_cons_succ]
   refine wpAnyH_ready (rs:=[7]) (by kernel_rfl) (by simp) ?_
   refine AllReadyH.cons (o:=⟨some 3,.alloc 62,_,_,_,none⟩) rfl (fun K hK=>?_) ?_
   ·go_simp
    refine hK.out _ _ (KS _ (by first | with_reducible exact (bal _ _ (bal _ _ (Below.refl _ _))).drew | with_reducible exact (bal _ _ (Below.refl _ _)).drew | with_reducible exact (set10_below (bal _ _ (bal _ _ (Below.refl _ _))) (by omega) _ _ _ _ _ _ _ _ _ _).drew | with_reducible exact set10_below (bal _ _ (bal _ _ (Below.refl _ _))).drew (by omega) _ _ _ _ _ _ _ _ _ _)) (fun hHeld=>?_)
    clear hK K
    refine wpAnyH_ready (rs:=[8]) (by kernel_rfl) (by simp) ?_
    refine AllReadyH.cons (o:=⟨none,.store 62 (.tmp 3) (.tmp 30),_,_,_,none⟩) rfl (fun K hK=>?_) ?_
    ·go_simp
     refine hK.out _ _ (KS _ (by first | with_reducible exact (bal _ _ (bal _ _ (Below.refl _ _))).drew | with_reducible exact (bal _ _ (Below.refl _ _)).drew | with_reducible exact (set10_below (bal _ _ (bal _ _ (Below.refl _ _))) (by omega) _ _ _ _ _ _ _ _ _ _).drew | with_reducible exact set10_below (bal _ _ (bal _ _ (Below.refl _ _))).drew (by omega) _ _ _ _ _ _ _ _ _ _)) (fun hHeld=>?_)
     clear hK K
     refine wpAnyH_done (by kernel_rfl) ?_ _
     go_wp2
     go_meet
     case rel=>exact ⟨w.heap.size + 2 + 1,w.heap.size + 2,rfl,by omega,rowA X cur _ _ _ _ _ _ _ _ _ _ sX,rowA2 X cur _ sX (uh HCS) hmx,(bal _ _ (bal _ _ (Below.refl _ _))).drew,by simp only [size_al,drew_heap];omega⟩
    exact AllReadyH.nil
   exact AllReadyH.nil
  refine AllReadyH.cons (o:=⟨some 3,.alloc 62,_,_,_,none⟩) rfl (fun K hK=>?_) ?_
  ·go_simp
   refine hK.out _ _ (KS _ (by first | with_reducible exact (bal _ _ (bal _ _ (Below.refl _ _))).drew | with_reducible exact (bal _ _ (Below.refl _ _)).drew | with_reducible exact (set10_below (bal _ _ (bal _ _ (Below.refl _ _))) (by omega) _ _ _ _ _ _ _ _ _ _).drew | with_reducible exact set10_below (bal _ _ (bal _ _ (Below.refl _ _))).drew (by omega) _ _ _ _ _ _ _ _ _ _)) (fun hHeld=>?_)
   clear hK K
   refine wpAnyH_ready (rs:=[5]) (by kernel_rfl) (by simp) ?_
   refine AllReadyH.cons (o:=⟨some 29,.makeSlice 60 (.tmp 28) (.tmp 28),_,_,_,none⟩) rfl (fun K hK=>?_) ?_
   ·go_simp
    refine hK.out _ _ (KS _ (by first | with_reducible exact (bal _ _ (bal _ _ (Below.refl _ _))).drew | with_reducible exact (bal _ _ (Below.refl _ _)).drew | with_reducible exact (set10_below (bal _ _ (bal _ _ (Below.refl _ _))) (by omega) _ _ _ _ _ _ _ _ _ _).drew | with_reducible exact set10_below (bal _ _ (bal _ _ (Below.refl _ _))).drew (by omega) _ _ _ _ _ _ _ _ _ _)) (fun hHeld=>?_)
    clear hK K
    refine wpAnyH_take (i:=6) (oi:=⟨some 30,.build 62 #[(1,.tmp 25),(3,.tmp 29)],_,_,_,none⟩) (v:=?_) rfl (by kernel_rfl) (by kernel_rfl) (by kernel_rfl) (fun _ _ _ h=>h) (Or.inl ⟨by rfl, ?_⟩) (by assumption) ?_
    rotate_left
    ·intro wq hSw
     go_simp
     with_reducible rfl
    simp only [Act.put,List.setIfInBounds_toArray,List.set_cons_zero,List.set_cons_succ]
    refine wpAnyH_ready (rs:=[8]) (by kernel_rfl) (by simp) ?_
    refine AllReadyH.cons (o:=⟨none,.store 62 (.tmp 3) (.tmp 30),_,_,_,none⟩) rfl (fun K hK=>?_) ?_
    ·go_simp
     refine hK.out _ _ (KS _ (by first | with_reducible exact (bal _ _ (bal _ _ (Below.refl _ _))).drew | with_reducible exact (bal _ _ (Below.refl _ _)).drew | with_reducible exact (set10_below (bal _ _ (bal _ _ (Below.refl _ _))) (by omega) _ _ _ _ _ _ _ _ _ _).drew | with_reducible exact set10_below (bal _ _ (bal _ _ (Below.refl _ _))).drew (by omega) _ _ _ _ _ _ _ _ _ _)) (fun hHeld=>?_)
     clear hK K
     refine wpAnyH_done (by kernel_rfl) ?_ _
     go_wp2
     go_meet
     case rel=>exact ⟨w.heap.size + 2,w.heap.size + 2 + 1,rfl,by omega,rowB X _ _ _ _ _ _ _ _ _ _ _ sX,rowB2 X cur _ sX (uh HCS) hmx,(bal _ _ (bal _ _ (Below.refl _ _))).drew,by simp only [size_al,drew_heap];omega⟩
    exact AllReadyH.nil
   exact AllReadyH.nil
  exact AllReadyH.nil
 case rest =>
  obtain ⟨mb,gk,rfl,hne1,rm,rg,bV,sV⟩:=hcut
  obtain ⟨V,rfl⟩:∃ V,V=wc:=⟨_,rfl⟩
  have lm:=World.ownsRow.lt rm mb (by simp [Value.ownBlock])
  have lg:=World.ownsRow.lt rg gk (by simp [Value.ownBlock])
  have hne3:V.heap.size ≠ gk:=by omega
  have hne4:mb ≠ V.heap.size:=by omega
  have hne5:gk ≠ V.heap.size:=by omega
  obtain ⟨Y,HY⟩:∃ Y,V.alloc (.cells cui 3)=Y:=⟨_,rfl⟩
  have hVY:Below V.heap.size V Y:=by rw [← HY];exact (Below.refl _ _).alloc (Nat.le_refl _) _
  have hYi:Y.heap[V.heap.size]? = some (.cells cui 3 (0,0)):=by rw [← HY];exact box_nw _ _
  have hYs:Y.heap.size=V.heap.size + 1:=by rw [← HY];simp
  have RI:=hide (show Y.ownsRow (w.heap.size + 2) 3 1 (.slice (some ⟨V.heap.size,0,none⟩) kids.length kids.length) kids.length cui.toList from rowOf10 hYi (by omega) (uh HCI) hmx)
  have RM:=hide (row_below rm hVY)
  have RG:=hide (row_below rg hVY)
  have BY:=hide (below_sub bV hVY)
  have cV:=KS V bV
  have cY:=KS Y (uh BY)
  obtain ⟨v6,v7⟩:=cV
  obtain ⟨y6,y7⟩:=cY
  clear rm rg bV hVY hYi c0 c1 c2 c3 c4 c5 c6 c7 dX hmk
  go_wp2
  go_loopw [38] (fun i wr=>∃ (k:Nat) (us:List Sv),k≤kids.length∧i=.int .i64 k∧us.length=k∧Hid (wr.ownsRow (w.heap.size + 2) 62 10 (.slice (some ⟨mb,0,none⟩) 1 1) 1 [.int .i64 0,.string ⟨#[]⟩,.slice none 0 0,.slice none 0 0,.int .i64 0,.int .i64 0,.bool false,.int .i64 3,.int .i64 0,.slice (some ⟨gk,0,none⟩) kids.length kids.length])∧Hid (wr.ownsRow (w.heap.size + 2) 62 10 (.slice (some ⟨gk,0,none⟩) kids.length kids.length) kids.length ((flatK encSd 10 us.toArray).toList ++ cur.toList.drop (k * 10)))∧Hid (wr.ownsRow (w.heap.size + 2) 3 1 (.slice (some ⟨V.heap.size,0,none⟩) kids.length kids.length) kids.length (((kids.take k).map wN).map (fun x=>Value.int .i64 x) ++ cui.toList.drop k))∧Hid (Below X.heap.size X wr)∧V.heap.size + 1≤wr.heap.size∧Hid (∀ (j:Nat) (v:Sv) (x:Nd),us[j]? = some v→kids[j]? = some x→SdSt w0.heap.size (V.heap.size + 1) v x wr)) (fun i _=>kids.length - (intOf i).toNat)
  case atStart=>exact ⟨0,[],by omega,rfl,rfl,RM,by simpa [flatK] using RG,by simpa using RI,BY,by omega,hide (fun j v x h=>by simp at h)⟩
  case round =>
   obtain ⟨k,us,hkk,rfl,hus,RMr,RGr,RIr,HB,hsz,HSP⟩:=hrel
   clear v6 v7 y6 y7
   obtain ⟨r6,r7⟩:=KS wr (uh HB)
   have HUS:=hide hus
   clear hus
   by_cases hlt:k < kids.length
   ·obtain ⟨x,hx,hxd⟩:=get_at hlt
    clear hxd
    have hb0:Below w0.heap.size w0 wr:=below_sub (below_sub (uh HB0) (uh BX)) (uh HB)
    obtain ⟨b,off,v,hq,hin,g0,g1,g2,g3,g4,g5,g6,g7⟩:=(uh HK).on2 hx hb0
    subst hq
    have hxm:x ∈ kids:=List.mem_of_getElem? hx
    have hxw:=wtL_mem hxm
    have ki0:(0:Int)≤(k:Int):=by omega
    have ki1:(k:Int) < (kids.length:Int):=by omega
    obtain ⟨Z,HZ⟩:∃ Z,wr.alloc (.cells #[.int .i64 v.kind,.string v.attr,.slice v.qi v.ni v.ci,.slice v.qw v.nw v.cw,.int .i64 v.lo,.int .i64 v.hi,.int .i64 v.op,.slice v.qk v.nk v.ck] 28)=Z:=⟨_,rfl⟩
    have bZ:Below wr.heap.size wr Z:=by rw [← HZ];exact (Below.refl _ _).alloc (Nat.le_refl _) _
    have zk:Z.heap[wr.heap.size]? = some (.cells #[.int .i64 v.kind,.string v.attr,.slice v.qi v.ni v.ci,.slice v.qw v.nw v.cw,.int .i64 v.lo,.int .i64 v.hi,.int .i64 v.op,.slice v.qk v.nk v.ck] 28 (0,0)):=by rw [← HZ];exact box_nw _ _
    have sZ:Z.heap.size=wr.heap.size + 1:=by rw [← HZ];simp
    have ZK:=hide zk
    have lm2:mb < wr.heap.size:=by omega
    have hM:=fun (Wd:World) (hWd:Below Z.heap.size Z Wd)=>uh IH x hxm v w0 Wd hin (below_sub (below_sub hb0 bZ) hWd) (uh HC x hxm) (uh HA x hxm) (by omega) (uh HW x hxm)
    simp only [Nv.val] at hM
    obtain ⟨z0,z1,z2,z3,z4,z5,z6,z7,z8,z9,hz⟩:=ten_of (d:=cur.toList) (o:=k * 10) (by have:=uh HCS;simp only [Array.length_toList];omega)
    obtain ⟨zi,hzi⟩:∃ zi,cui.toList.drop k=[zi] ++ cui.toList.drop (k + 1):=⟨_,List.drop_eq_getElem_cons (by have:=uh HCI;simp only [Array.length_toList];omega)⟩
    have RGZ:=hide (show Z.ownsRow (w.heap.size + 2) 62 10 (.slice (some ⟨gk,0,none⟩) kids.length kids.length) kids.length ((flatK encSd 10 us.toArray).toList ++ [z0,z1,z2,z3,z4,z5,z6,z7,z8,z9] ++ cur.toList.drop (k * 10 + 10)) by have h:=row_below (uh RGr) bZ;rw [hz,← List.append_assoc] at h;exact h)
    have RMZ:=hide (row_below (uh RMr) bZ)
    have RIZ:=hide (show Z.ownsRow (w.heap.size + 2) 3 1 (.slice (some ⟨V.heap.size,0,none⟩) kids.length kids.length) kids.length (((kids.take k).map wN).map (fun x=>Value.int .i64 x) ++ [zi] ++ cui.toList.drop (k + 1)) by have h:=row_below (uh RIr) bZ;rw [hzi,← List.append_assoc] at h;exact h)
    have hm9:Z.cell? ⟨mb,9,none⟩=some (.slice (some ⟨gk,0,none⟩) kids.length kids.length):=World.ownsRow.cellAt (uh RMZ) 9 (by omega)
    have cell10:∀ {W:World},W.ownsRow (w.heap.size + 2) 62 10 (.slice (some ⟨gk,0,none⟩) kids.length kids.length) kids.length ((flatK encSd 10 us.toArray).toList ++ [z0,z1,z2,z3,z4,z5,z6,z7,z8,z9] ++ cur.toList.drop (k * 10 + 10))→∀ i:Nat,i < 10→∃ u,W.cell? ⟨gk,k * 10 + i,none⟩=some u:=fun h i hi=>by
     have h2:=World.ownsRow.cellAt h (k * 10 + i) (by omega)
     rw [List.append_assoc,List.getElem?_append_right (by rw [flat_len10,uh HUS];omega),flat_len10,uh HUS,Nat.add_sub_cancel_left,List.getElem?_append_left (by simpa using hi)] at h2
     exact ⟨_,h2.trans (List.getElem?_eq_getElem (by simpa using hi))⟩
    have KS2:∀ W,Below Z.heap.size Z W→(fun w'=>w'.cell? ⟨wr.heap.size,0,none⟩=some (.int .i64 v.kind)∧w'.cell? ⟨wr.heap.size,1,none⟩=some (.string v.attr)∧w'.cell? ⟨wr.heap.size,2,none⟩=some (.slice v.qi v.ni v.ci)∧w'.cell? ⟨wr.heap.size,3,none⟩=some (.slice v.qw v.nw v.cw)∧w'.cell? ⟨wr.heap.size,4,none⟩=some (.int .i64 v.lo)∧w'.cell? ⟨wr.heap.size,5,none⟩=some (.int .i64 v.hi)∧w'.cell? ⟨wr.heap.size,6,none⟩=some (.int .i64 v.op)∧w'.cell? ⟨wr.heap.size,7,none⟩=some (.slice v.qk v.nk v.ck)∧w'.cell? ⟨mb,9,none⟩=some (.slice (some ⟨gk,0,none⟩) kids.length kids.length)) W:=fun W hW=>by
     obtain ⟨a0,a1,a2,a3,a4,a5,a6,a7⟩:=of8' ((hW.block _ (heap_lt (uh ZK))).trans (uh ZK))
     exact ⟨a0,a1,a2,a3,a4,a5,a6,a7,(hW.cell (p:=⟨mb,9,none⟩) (by simp only;omega)).trans hm9⟩
    have KS3:∀ W W',Below Z.heap.size Z W→W.grownBy W' (some gk)→(fun w'=>w'.cell? ⟨wr.heap.size,0,none⟩=some (.int .i64 v.kind)∧w'.cell? ⟨wr.heap.size,1,none⟩=some (.string v.attr)∧w'.cell? ⟨wr.heap.size,2,none⟩=some (.slice v.qi v.ni v.ci)∧w'.cell? ⟨wr.heap.size,3,none⟩=some (.slice v.qw v.nw v.cw)∧w'.cell? ⟨wr.heap.size,4,none⟩=some (.int .i64 v.lo)∧w'.cell? ⟨wr.heap.size,5,none⟩=some (.int .i64 v.hi)∧w'.cell? ⟨wr.heap.size,6,none⟩=some (.int .i64 v.op)∧w'.cell? ⟨wr.heap.size,7,none⟩=some (.slice v.qk v.nk v.ck)∧w'.cell? ⟨mb,9,none⟩=some (.slice (some ⟨gk,0,none⟩) kids.length kids.length)) W':=fun W W' hW hg=>by
     have hs:=hW.size
     obtain ⟨a0,a1,a2,a3,a4,a5,a6,a7⟩:=of8' ((hg.block wr.heap.size (by omega) (fun e=>by cases e;omega)).trans ((hW.block _ (heap_lt (uh ZK))).trans (uh ZK)))
     exact ⟨a0,a1,a2,a3,a4,a5,a6,a7,(World.cell?_of_block (w:=W) (a:=⟨mb,9,none⟩) (hg.block mb (by omega) (fun e=>by cases e;exact hne1 rfl))).trans ((hW.cell (p:=⟨mb,9,none⟩) (by simp only;omega)).trans hm9)⟩
    obtain ⟨f0,f1,f2,f3,f4,f5,f6,f7,f9⟩:=KS2 Z (Below.refl _ _)
    have HXX:=hide hx
    clear hin hx zk hz hzi
    go_wp2
    refine wp_region_held_drew (S:=fun w'=>w'.cell? ⟨wr.heap.size,0,none⟩=some (.int .i64 v.kind)∧w'.cell? ⟨wr.heap.size,1,none⟩=some (.string v.attr)∧w'.cell? ⟨wr.heap.size,2,none⟩=some (.slice v.qi v.ni v.ci)∧w'.cell? ⟨wr.heap.size,3,none⟩=some (.slice v.qw v.nw v.cw)∧w'.cell? ⟨wr.heap.size,4,none⟩=some (.int .i64 v.lo)∧w'.cell? ⟨wr.heap.size,5,none⟩=some (.int .i64 v.hi)∧w'.cell? ⟨wr.heap.size,6,none⟩=some (.int .i64 v.op)∧w'.cell? ⟨wr.heap.size,7,none⟩=some (.slice v.qk v.nk v.ck)∧w'.cell? ⟨mb,9,none⟩=some (.slice (some ⟨gk,0,none⟩) kids.length kids.length)) (by kernel_rfl) (KS2 _ ((Below.refl _ _).drew)) (fun hHeld=>?_)
    refine wpAnyH_take (i:=0) (oi:=⟨some 43,.fieldAddr 62 (.tmp 3) 3,_,_,_,none⟩) (v:=?_) rfl (by kernel_rfl) (by kernel_rfl) (by kernel_rfl) (fun _ _ _ h=>h) (Or.inl ⟨by rfl, ?_⟩) (by assumption) ?_
    rotate_left
    ·intro wq hSw
     go_simp
     with_reducible rfl
    simp only [Act.put,List.setIfInBounds_toArray,List.set_cons_zero,List.set_cons_succ]
    refine wpAnyH_take (i:=1) (oi:=⟨some 44,.load 60 (.tmp 43),_,_,_,none⟩) (v:=?_) rfl (by kernel_rfl) (by kernel_rfl) (by kernel_rfl) (fun _ _ _ h=>h) (Or.inl ⟨by rfl, ?_⟩) (by assumption) ?_
    rotate_left
    ·intro wq hSw
     go_simp
     with_reducible rfl
    simp only [Act.put,List.setIfInBounds_toArray,List.set_cons_zero,List.set_cons_succ]
    refine wpAnyH_take (i:=2) (oi:=⟨some 45,.move (.tmp 5),_,_,_,none⟩) (v:=?_) rfl (by kernel_rfl) (by kernel_rfl) (by kernel_rfl) (fun _ _ _ h=>h) (Or.inl ⟨by rfl, ?_⟩) (by assumption) ?_
    rotate_left
    ·intro wq hSw
     go_simp
     with_reducible rfl
    simp only [Act.put,List.setIfInBounds_toArray,List.set_cons_zero,List.set_cons_succ]
    refine wpAnyH_take (i:=3) (oi:=⟨some 46,.load 28 (.tmp 6),_,_,_,none⟩) (v:=?_) rfl (by kernel_rfl) (by kernel_rfl) (by kernel_rfl) (fun _ _ _ h=>h) (Or.inl ⟨by rfl, ?_⟩) (by assumption) ?_
    rotate_left
    ·intro wq hSw
     go_simp
     with_reducible rfl
    simp only [Act.put,List.setIfInBounds_toArray,List.set_cons_zero,List.set_cons_succ]
    refine wpAnyH_ready (rs:=[4]) (by kernel_rfl) (by simp) ?_
    refine AllReadyH.cons (o:=⟨some 47,.call { callee:=.value (.func 23),args:=#[.tmp 46],argTypes:=#[28] },_,_,_,none⟩) rfl (fun K hK=>?_) ?_
    ·go_simp
     refine (hM _ ((Below.refl _ _).drew)).mono ?_
     rintro e w2 ⟨⟨s,rfl,hst⟩,b2⟩
     simp only [Sv.val]
     have HST:=hide hst
     have B2:=hide (show Below Z.heap.size Z w2 from below_sub ((Below.refl Z.heap.size Z).drew) b2)
     have RG2:=hide (row_below (uh RGZ) (uh B2))
     have RM2:=hide (row_below (uh RMZ) (uh B2))
     have RI2:=hide (row_below (uh RIZ) (uh B2))
     have cf:∀ o,w2.frozen? ⟨gk,o,none⟩=false:=ownsRow_free (uh RG2)
     obtain ⟨y0,cg0⟩:=cell10 (uh RG2) 0 (by omega)
     obtain ⟨y1,cg1⟩:=cell10 (uh RG2) 1 (by omega)
     obtain ⟨y2,cg2⟩:=cell10 (uh RG2) 2 (by omega)
     obtain ⟨y3,cg3⟩:=cell10 (uh RG2) 3 (by omega)
     obtain ⟨y4,cg4⟩:=cell10 (uh RG2) 4 (by omega)
     obtain ⟨y5,cg5⟩:=cell10 (uh RG2) 5 (by omega)
     obtain ⟨y6,cg6⟩:=cell10 (uh RG2) 6 (by omega)
     obtain ⟨y7,cg7⟩:=cell10 (uh RG2) 7 (by omega)
     obtain ⟨y8,cg8⟩:=cell10 (uh RG2) 8 (by omega)
     obtain ⟨y9,cg9⟩:=cell10 (uh RG2) 9 (by omega)
     simp only [Nat.add_zero] at cg0
     clear hst b2
     refine hK.out _ _ (KS2 w2 (uh B2)) (fun hHeld=>?_)
     clear hK K
     refine wpAnyH_take (i:=5) (oi:=⟨some 48,.indexAddr 60 (.tmp 44) (.tmp 45),_,_,_,none⟩) (v:=?_) rfl (by kernel_rfl) (by kernel_rfl) (by kernel_rfl) (fun _ _ _ h=>h) (Or.inl ⟨by rfl, ?_⟩) (by assumption) ?_
     rotate_left
     ·intro wq hSw
      go_simp
      with_reducible rfl
     simp only [Act.put,List.setIfInBounds_toArray,List.set_cons_zero,List.set_cons_succ]
     refine wpAnyH_ready (rs:=[6]) (by kernel_rfl) (by simp) ?_
     refine AllReadyH.cons (o:=⟨none,.store 62 (.tmp 48) (.tmp 47),_,_,_,none⟩) rfl (fun K hK=>?_) ?_
     ·go_simp
      refine hK.out _ _ (KS3 w2 _ (uh B2) (g10 w2 gk (k * 10) _ _ _ _ _ _ _ _ _ _)) (fun hHeld=>?_)
      clear hK K
      refine wpAnyH_done (by kernel_rfl) ?_ _
      obtain ⟨W3,hW3⟩:∃ W3,((((((((((w2.setCell ⟨gk,k * 10,none⟩ (.int .i64 s.lit.kind)).setCell ⟨gk,k * 10 + 1,none⟩ (.string s.lit.attr)).setCell ⟨gk,k * 10 + 2,none⟩ (.slice s.lit.qi s.lit.ni s.lit.ci)).setCell ⟨gk,k * 10 + 3,none⟩ (.slice s.lit.qw s.lit.nw s.lit.cw)).setCell ⟨gk,k * 10 + 4,none⟩ (.int .i64 s.lit.lo)).setCell ⟨gk,k * 10 + 5,none⟩ (.int .i64 s.lit.hi)).setCell ⟨gk,k * 10 + 6,none⟩ (.bool s.lit.neg)).setCell ⟨gk,k * 10 + 7,none⟩ (.int .i64 s.op)).setCell ⟨gk,k * 10 + 8,none⟩ (.int .i64 s.width)).setCell ⟨gk,k * 10 + 9,none⟩ (.slice s.qk s.nk s.ck))=W3:=⟨_,rfl⟩
      rw [hW3]
      have hG3:w2.grownBy W3 (some gk):=by rw [← hW3];exact g10 w2 gk (k * 10) _ _ _ _ _ _ _ _ _ _
      have RM3:=hide (row_off (uh RM2) hG3 hne1)
      have RI3:=hide (row_off (uh RI2) hG3 hne3)
      have RG3:W3.ownsRow (w.heap.size + 2) 62 10 (.slice (some ⟨gk,0,none⟩) kids.length kids.length) kids.length ((flatK encSd 10 us.toArray).toList ++ [.int .i64 s.lit.kind,.string s.lit.attr,.slice s.lit.qi s.lit.ni s.lit.ci,.slice s.lit.qw s.lit.nw s.lit.cw,.int .i64 s.lit.lo,.int .i64 s.lit.hi,.bool s.lit.neg,.int .i64 s.op,.int .i64 s.width,.slice s.qk s.nk s.ck] ++ cur.toList.drop (k * 10 + 10)):=by rw [← hW3];exact row10 z0 z1 z2 z3 z4 z5 z6 z7 z8 z9 _ _ _ _ _ _ _ _ _ _ (uh RG2) (by rw [flat_len10,uh HUS])
      have RG3H:=hide RG3
      have m9:=World.ownsRow.cellAt (uh RM3) 9 (by omega)
      have g8:=World.ownsRow.cellAt RG3 (k * 10 + 8) (by omega)
      rw [List.append_assoc,List.getElem?_append_right (by rw [flat_len10,uh HUS];omega),flat_len10,uh HUS,Nat.add_sub_cancel_left] at g8
      simp only [List.getElem?_cons_succ,List.getElem?_cons_zero,List.cons_append,List.nil_append] at m9 g8
      have if3:∀ o,W3.frozen? ⟨V.heap.size,o,none⟩=false:=ownsRow_free (uh RI3)
      have ic3:=World.ownsRow.cellAt (uh RI3) k (by omega)
      rw [List.append_assoc,List.getElem?_append_right (by simp;omega)] at ic3
      have e0:k - (((kids.take k).map wN).map (fun x=>Value.int .i64 x)).length=0:=by simp;omega
      rw [e0] at ic3
      simp only [List.cons_append,List.getElem?_cons_zero] at ic3
      have AG3:=hide (show Ags w0.heap.size (V.heap.size + 1) wr W3 by rw [← hW3];exact ags10 (Ags.of (below_sub bZ (uh B2))) _ (by omega) (by omega) _ _ _ _ _ _ _ _ _ _)
      have AS3:=hide (show Ags w0.heap.size Z.drew.heap.size w2 W3 by rw [← hW3];exact ags10 (Ags.refl _ _ _) _ (by omega) (by simp only [drew_heap];omega) _ _ _ _ _ _ _ _ _ _)
      have BW3:=hide (show Below X.heap.size X W3 by rw [← hW3];exact set10b (g:=gk) (below_sub (uh HB) (below_sub bZ (uh B2))) (by omega) _ _ _ _ _ _ _ _ _ _)
      have sz3:wr.heap.size≤W3.heap.size:=(uh AG3).1
      have hwx:s.width=wN x:=(SdSt.now (uh HST)).wide (uh HC x hxm) (uh HA x hxm)
      clear hW3 RG3 hG3 hHeld
      go_wp2
      exact ⟨⟨k + 1,us ++ [s],by omega,by go_num,by rw [List.length_append,uh HUS];rfl,hide (row_off (uh RM3) (gset (grefl W3 _) _ _) hne4),hide (by
      have h:=row_off (uh RG3H) (gset (grefl W3 (some V.heap.size)) k (.int .i64 (wN x))) hne5
      rw [flat_app encSd 10 (by decide),flat_one10,Nat.add_mul,Nat.one_mul]
      exact h),hide (by
      have h:=row1 (o:=k) zi (.int .i64 (wN x)) (uh RI3) (by simp;omega)
      rw [take_snoc_of (uh HXX),List.map_append,List.map_append,List.map_singleton,List.map_singleton]
      exact h),hide ((uh BW3).setCell (by simp only;omega) _),by simp only [World.size_setCell];omega,hide (snocS (uh HUS) (uh HXX) (fun j v x h1 h2=>((uh HSP) j v x h1 h2).step ((uh AG3).set (by simp only;omega) (by simp only;omega) _)) ((((uh HST).step (uh AS3)).step ((Ags.refl _ _ _).set (by simp only;omega) (by simp only [drew_heap];omega) _)).mono (by simp only [drew_heap];omega)))⟩,by simp [intOf];omega⟩
     exact AllReadyH.nil
    exact AllReadyH.nil
   ·have hkl:k=kids.length:=by omega
    subst hkl
    have ki1:¬ (kids.length:Int) < (kids.length:Int):=by omega
    have RG4:=uh RGr
    rw [List.drop_of_length_le (by have:=uh HCS;simp only [Array.length_toList];omega),List.append_nil] at RG4
    have RI4:=uh RIr
    rw [List.take_of_length_le (Nat.le_refl _),List.drop_of_length_le (by have:=uh HCI;simp only [Array.length_toList];omega),List.append_nil,← flatI_map] at RI4
    have hsl:SlOf encI 1 wr (some ⟨V.heap.size,0,none⟩) kids.length (kids.map wN):=(show OwnK encI 3 1 (w.heap.size + 2) wr (some ⟨V.heap.size,0,none⟩) kids.length (kids.map wN) by unfold OwnK;rw [List.length_map];exact RI4).ls
    have hsm:=prod_any 64 (some ⟨V.heap.size,0,none⟩) kids.length (kids.map wN) wr hsl (by rw [List.length_map];omega)
    rw [List.length_map] at hsm
    have RG5:=hide RG4
    have xr:=((uh HB).block _ (heap_lt (uh XZ))).trans (uh XZ)
    have XR:=hide xr
    have lx:=heap_lt xr
    obtain ⟨W,hWd⟩:∃ W,prodB 64 (kids.map wN)=W:=⟨_,rfl⟩
    rw [hWd] at hsm
    have HWD:=hide hWd
    clear RG4 RI4 hsl hWd xr
    go_wp2_with (go_at_call 41;refine hsm.mono ?_;rintro e w2 ⟨rfl,b2⟩;have B2:=hide b2;have RM2:=hide (row_below (uh RMr) b2);have mf:∀ o,w2.frozen? ⟨mb,o,none⟩=false:=ownsRow_free (uh RM2);(have xq:=(b2.block _ lx).trans (uh XR));have xf:∀ o,w2.frozen? ⟨w.heap.size + 1,o,none⟩=false:=(fun o=>frozen_free xq);(obtain ⟨t0,t1,t2,t3,t4,t5,t6,t7,t8,t9⟩:=of10' xq);have m0:=World.ownsRow.cellAt (uh RM2) 0 (by omega);have m1:=World.ownsRow.cellAt (uh RM2) 1 (by omega);have m2:=World.ownsRow.cellAt (uh RM2) 2 (by omega);have m3:=World.ownsRow.cellAt (uh RM2) 3 (by omega);have m4:=World.ownsRow.cellAt (uh RM2) 4 (by omega);have m5:=World.ownsRow.cellAt (uh RM2) 5 (by omega);have m6:=World.ownsRow.cellAt (uh RM2) 6 (by omega);have m7:=World.ownsRow.cellAt (uh RM2) 7 (by omega);have m8:=World.ownsRow.cellAt (uh RM2) 8 (by omega);have m9:=World.ownsRow.cellAt (uh RM2) 9 (by omega);simp only [List.getElem?_cons_succ,List.getElem?_cons_zero] at m0 m1 m2 m3 m4 m5 m6 m7 m8 m9;clear b2 xq)
    refine bodyPost_ret (v:=.agg #[.int .i64 0,.string ⟨#[]⟩,.slice none 0 0,.slice none 0 0,.int .i64 0,.int .i64 0,.bool false,.int .i64 3,.int .i64 W,.slice (some ⟨gk,0,none⟩) kids.length kids.length]) (by simp [results,Try.results23,go_sem, *]) rfl ⟨⟨gk,us,by rw [uh HWD],by omega, ?_,uh HUS, ?_⟩, ?_⟩
    ·have h:=row_off (row_off (row_below (uh RG5) (uh B2)) (gset (grefl w2 (some mb)) 8 (.int .i64 W)) (fun e=>hne1 e.symm)) (g10z _ (w.heap.size + 1) (.int .i64 0) (.string ⟨#[]⟩) (.slice none 0 0) (.slice none 0 0) (.int .i64 0) (.int .i64 0) (.bool false) (.int .i64 3) (.int .i64 W) (.slice (some ⟨gk,0,none⟩) kids.length kids.length)) (by omega)
     refine OwnK.ls (B:=w.heap.size + 2) (e:=62) ?_
     unfold OwnK
     rw [uh HUS]
     exact h
    ·intro j v x h1 h2
     exact ((uh HSP j v x h1 h2).step (ags10z ((Ags.of (uh B2)).set (by simp only;omega) (by simp only;omega) _) (by omega) (by omega) _ _ _ _ _ _ _ _ _ _)).mono (by omega)
    ·exact set10_below ((below_sub (uh BX) (below_sub (uh HB) (uh B2))).setCell (by simp only;omega) _) (by omega) _ _ _ _ _ _ _ _ _ _
set_option maxRecDepth 100000 in
set_option maxHeartbeats 4000000 in
theorem meas_4 (kind:Int) (attr:ByteArray) (qi:Option Addr) (ci:Nat) (ints:List Int) (qw:Option Addr) (cw:Nat) (words:List ByteArray) (lo hi:Int) (qk:Option Addr) (ck:Nat) (kids:List Nd) (w0 w:World) (hk:NdsOf w0 qk ck kids) (hb:Below w0.heap.size w0 w) (ih:∀ x ∈ kids,MsP x) (hC:∀ x ∈ kids,chkN x=true) (hA:∀ x ∈ kids,atN x=true) (hW:∀ x ∈ kids,wN x≤64) (l3:wtL kids≤1000000000) :
  Calls Try.prog 23 #[.agg #[.int .i64 kind,.string attr,.slice qi ints.length ci,.slice qw words.length cw,.int .i64 lo,.int .i64 hi,.int .i64 4,.slice qk kids.length ck]] w fun e w'=>(∃ (gk:Nat) (us:List Sv),e=.returned (.agg #[.int .i64 0,.string ⟨#[]⟩,.slice none 0 0,.slice none 0 0,.int .i64 0,.int .i64 0,.bool false,.int .i64 4,.int .i64 (sumB 64 (kids.map wN)),.slice (some ⟨gk,0,none⟩) kids.length kids.length])∧w.heap.size≤gk∧SlOf encSd 10 w' (some ⟨gk,0,none⟩) kids.length us∧us.length=kids.length∧∀ (j:Nat) (v:Sv) (x:Nd),us[j]? = some v→kids[j]? = some x→SdSt w0.heap.size w.heap.size v x w')∧Below w.heap.size w w':=by
 have hlen:=Nat.le_trans (Nat.le_trans (len_size kids) (sizeL_wt kids)) l3
 have hmx:kids.length≤maxLen:=by unfold maxLen;omega
 have a0:(kids.length:Int)≤1000000000:=by omega
 have a1:(0:Int)≤(kids.length:Int):=by omega
 have hw0:=hb.size
 obtain ⟨cur,hcs,hmk⟩:=makeSd kids.length (by omega)
 obtain ⟨cui,hci,hmi⟩:=makeIn kids.length (by omega)
 obtain ⟨X,HX⟩:∃ X,(w.alloc (.cells #[.int .i64 kind,.string attr,.slice qi ints.length ci,.slice qw words.length cw,.int .i64 lo,.int .i64 hi,.int .i64 4,.slice qk kids.length ck] 28)).alloc (.cells #[.int .i64 0,.string ⟨#[]⟩,.slice none 0 0,.slice none 0 0,.int .i64 0,.int .i64 0,.bool false,.int .i64 0,.int .i64 0,.slice none 0 0] 62)=X:=⟨_,rfl⟩
 obtain ⟨x8,xz,bX,sX⟩:=twoM HX
 have X8:=hide x8
 have XZ:=hide xz
 have BX:=hide bX
 have KS:∀ W,Below X.heap.size X W→(fun w'=>w'.cell? ⟨w.heap.size,6,none⟩=some (.int .i64 4)∧w'.cell? ⟨w.heap.size,7,none⟩=some (.slice qk kids.length ck)) W:=fun W hb=>by
  obtain ⟨a0,a1,a2,a3,a4,a5,a6,a7⟩:=of8' ((hb.block _ (heap_lt (uh X8))).trans (uh X8))
  exact ⟨a6,a7⟩
 obtain ⟨c0,c1,c2,c3,c4,c5,c6,c7⟩:=of8' x8
 have bal:∀ W (ob:Obj),Below X.heap.size X W→Below X.heap.size X (W.alloc ob):=fun W ob hb=>hb.alloc hb.size _
 have dX:Below X.heap.size X X.drew:=(Below.refl _ _).drew
 have HK:=hide hk
 have IH:=hide ih
 have HB0:=hide hb
 have HC:=hide hC
 have HA:=hide hA
 have HW:=hide hW
 have HCS:=hide hcs
 have HCI:=hide hci
 clear hk ih hb hC hA hW hcs hci x8 xz bX
 go_enter Try.func23,Try.ntmps23
 go_wp2
 go_cut [3] from 7 (fun s3 V=>∃ mb gk:Nat,s3=.pointer (some ⟨mb,0,none⟩)∧mb ≠ gk∧V.ownsRow (w.heap.size + 2) 62 10 (.slice (some ⟨mb,0,none⟩) 1 1) 1 [.int .i64 0,.string ⟨#[]⟩,.slice none 0 0,.slice none 0 0,.int .i64 0,.int .i64 0,.bool false,.int .i64 4,.int .i64 0,.slice (some ⟨gk,0,none⟩) kids.length kids.length]∧V.ownsRow (w.heap.size + 2) 62 10 (.slice (some ⟨gk,0,none⟩) kids.length kids.length) kids.length cur.toList∧Below X.heap.size X V∧w.heap.size + 2≤V.heap.size)
 case first =>
  refine wp_region_held_drew (S:=fun w'=>w'.cell? ⟨w.heap.size,6,none⟩=some (.int .i64 4)∧w'.cell? ⟨w.heap.size,7,none⟩=some (.slice qk kids.length ck)) (by kernel_rfl) (KS _ dX) (fun hHeld=>?_)
  refine wpAnyH_take (i:=0) (oi:=⟨some 24,.fieldAddr 28 (.tmp 1) 1,_,_,_,none⟩) (v:=?_) rfl (by kernel_rfl) (by kernel_rfl) (by kernel_rfl) (fun _ _ _ h=>h) (Or.inl ⟨by rfl, ?_⟩) (by assumption) ?_
  rotate_left
  ·intro wq hSw
   go_simp
   with_reducible rfl
  simp only [Act.put,List.setIfInBounds_toArray,List.set_cons_zero,List.set_cons_succ]
  refine wpAnyH_take (i:=1) (oi:=⟨some 25,.load 3 (.tmp 24),_,_,_,none⟩) (v:=?_) rfl (by kernel_rfl) (by kernel_rfl) (by kernel_rfl) (fun _ _ _ h=>h) (Or.inl ⟨by rfl, ?_⟩) (by assumption) ?_
  rotate_left
  ·intro wq hSw
   go_simp
   with_reducible rfl
  simp only [Act.put,List.setIfInBounds_toArray,List.set_cons_zero,List.set_cons_succ]
  refine wpAnyH_take (i:=2) (oi:=⟨some 26,.fieldAddr 28 (.tmp 1) 2,_,_,_,none⟩) (v:=?_) rfl (by kernel_rfl) (by kernel_rfl) (by kernel_rfl) (fun _ _ _ h=>h) (Or.inl ⟨by rfl, ?_⟩) (by assumption) ?_
  rotate_left
  ·intro wq hSw
   go_simp
   with_reducible rfl
  simp only [Act.put,List.setIfInBounds_toArray,List.set_cons_zero,List.set_cons_succ]
  refine wpAnyH_take (i:=3) (oi:=⟨some 27,.load 26 (.tmp 26),_,_,_,none⟩) (v:=?_) rfl (by kernel_rfl) (by kernel_rfl) (by kernel_rfl) (fun _ _ _ h=>h) (Or.inl ⟨by rfl, ?_⟩) (by assumption) ?_
  rotate_left
  ·intro wq hSw
   go_simp
   with_reducible rfl
  simp only [Act.put,List.setIfInBounds_toArray,List.set_cons_zero,List.set_cons_succ]
  refine wpAnyH_take (i:=4) (oi:=⟨some 28,.call { callee:=.builtin .len,args:=#[.tmp 27],argTypes:=#[26] },_,_,_,none⟩) (v:=?_) rfl (by kernel_rfl) (by kernel_rfl) (by kernel_rfl) (fun _ _ _ h=>h) (Or.inl ⟨by rfl, ?_⟩) (by assumption) ?_
  rotate_left
  ·intro wq hSw
   go_simp
   with_reducible rfl
  simp only [Act.put,List.setIfInBounds_toArray,List.set_cons_zero,List.set_cons_succ]
  refine wpAnyH_ready (rs:=[5,7]) (by kernel_rfl) (by simp) ?_
  refine AllReadyH.cons (o:=⟨some 29,.makeSlice 60 (.tmp 28) (.tmp 28),_,_,_,none⟩) rfl (fun K hK=>?_) ?_
  ·go_simp
   refine hK.out _ _ (KS _ (by first | with_reducible exact (bal _ _ (bal _ _ (Below.refl _ _))).drew | with_reducible exact (bal _ _ (Below.refl _ _)).drew | with_reducible exact (set10_below (bal _ _ (bal _ _ (Below.refl _ _))) (by omega) _ _ _ _ _ _ _ _ _ _).drew | with_reducible exact set10_below (bal _ _ (bal _ _ (Below.refl _ _))).drew (by omega) _ _ _ _ _ _ _ _ _ _)) (fun hHeld=>?_)
   clear hK K
   refine wpAnyH_take (i:=6) (oi:=⟨some 30,.build 62 #[(1,.tmp 25),(3,.tmp 29)],_,_,_,none⟩) (v:=?_) rfl (by kernel_rfl) (by kernel_rfl) (by kernel_rfl) (fun _ _ _ h=>h) (Or.inl ⟨by rfl, ?_⟩) (by assumption) ?_
   rotate_left
   ·intro wq hSw
    go_simp
    with_reducible rfl
   simp only [Act.put,List.setIfInBounds_toArray,List.set_cons_zero,List.set_cons_succ]
   refine wpAnyH_ready (rs:=[7]) (by kernel_rfl) (by simp) ?_
   refine AllReadyH.cons (o:=⟨some 3,.alloc 62,_,_,_,none⟩) rfl (fun K hK=>?_) ?_
   ·go_simp
    refine hK.out _ _ (KS _ (by first | with_reducible exact (bal _ _ (bal _ _ (Below.refl _ _))).drew | with_reducible exact (bal _ _ (Below.refl _ _)).drew | with_reducible exact (set10_below (bal _ _ (bal _ _ (Below.refl _ _))) (by omega) _ _ _ _ _ _ _ _ _ _).drew | with_reducible exact set10_below (bal _ _ (bal _ _ (Below.refl _ _))).drew (by omega) _ _ _ _ _ _ _ _ _ _)) (fun hHeld=>?_)
    clear hK K
    refine wpAnyH_ready (rs:=[8]) (by kernel_rfl) (by simp) ?_
    refine AllReadyH.cons (o:=⟨none,.store 62 (.tmp 3) (.tmp 30),_,_,_,none⟩) rfl (fun K hK=>?_) ?_
    ·go_simp
     refine hK.out _ _ (KS _ (by first | with_reducible exact (bal _ _ (bal _ _ (Below.refl _ _))).drew | with_reducible exact (bal _ _ (Below.refl _ _)).drew | with_reducible exact (set10_below (bal _ _ (bal _ _ (Below.refl _ _))) (by omega) _ _ _ _ _ _ _ _ _ _).drew | with_reducible exact set10_below (bal _ _ (bal _ _ (Below.refl _ _))).drew (by omega) _ _ _ _ _ _ _ _ _ _)) (fun hHeld=>?_)
     clear hK K
     refine wpAnyH_done (by kernel_rfl) ?_ _
     go_wp2
     go_meet
     case rel=>exact ⟨w.heap.size + 2 + 1,w.heap.size + 2,rfl,by omega,rowA X cur _ _ _ _ _ _ _ _ _ _ sX,rowA2 X cur _ sX (uh HCS) hmx,(bal _ _ (bal _ _ (Below.refl _ _))).drew,by simp only [size_al,drew_heap];omega⟩
    exact AllReadyH.nil
   exact AllReadyH.nil
  refine AllReadyH.cons (o:=⟨some 3,.alloc 62,_,_,_,none⟩) rfl (fun K hK=>?_) ?_
  ·go_simp
   refine hK.out _ _ (KS _ (by first | with_reducible exact (bal _ _ (bal _ _ (Below.refl _ _))).drew | with_reducible exact (bal _ _ (Below.refl _ _)).drew | with_reducible exact (set10_below (bal _ _ (bal _ _ (Below.refl _ _))) (by omega) _ _ _ _ _ _ _ _ _ _).drew | with_reducible exact set10_below (bal _ _ (bal _ _ (Below.refl _ _))).drew (by omega) _ _ _ _ _ _ _ _ _ _)) (fun hHeld=>?_)
   clear hK K
   refine wpAnyH_ready (rs:=[5]) (by kernel_rfl) (by simp) ?_
   refine AllReadyH.cons (o:=⟨some 29,.makeSlice 60 (.tmp 28) (.tmp 28),_,_,_,none⟩) rfl (fun K hK=>?_) ?_
   ·go_simp
    refine hK.out _ _ (KS _ (by first | with_reducible exact (bal _ _ (bal _ _ (Below.refl _ _))).drew | with_reducible exact (bal _ _ (Below.refl _ _)).drew | with_reducible exact (set10_below (bal _ _ (bal _ _ (Below.refl _ _))) (by omega) _ _ _ _ _ _ _ _ _ _).drew | with_reducible exact set10_below (bal _ _ (bal _ _ (Below.refl _ _))).drew (by omega) _ _ _ _ _ _ _ _ _ _)) (fun hHeld=>?_)
    clear hK K
    refine wpAnyH_take (i:=6) (oi:=⟨some 30,.build 62 #[(1,.tmp 25),(3,.tmp 29)],_,_,_,none⟩) (v:=?_) rfl (by kernel_rfl) (by kernel_rfl) (by kernel_rfl) (fun _ _ _ h=>h) (Or.inl ⟨by rfl, ?_⟩) (by assumption) ?_
    rotate_left
    ·intro wq hSw
     go_simp
     with_reducible rfl
    simp only [Act.put,List.setIfInBounds_toArray,List.set_cons_zero,List.set_cons_succ]
    refine wpAnyH_ready (rs:=[8]) (by kernel_rfl) (by simp) ?_
    refine AllReadyH.cons (o:=⟨none,.store 62 (.tmp 3) (.tmp 30),_,_,_,none⟩) rfl (fun K hK=>?_) ?_
    ·go_simp
     refine hK.out _ _ (KS _ (by first | with_reducible exact (bal _ _ (bal _ _ (Below.refl _ _))).drew | with_reducible exact (bal _ _ (Below.refl _ _)).drew | with_reducible exact (set10_below (bal _ _ (bal _ _ (Below.refl _ _))) (by omega) _ _ _ _ _ _ _ _ _ _).drew | with_reducible exact set10_below (bal _ _ (bal _ _ (Below.refl _ _))).drew (by omega) _ _ _ _ _ _ _ _ _ _)) (fun hHeld=>?_)
     clear hK K
     refine wpAnyH_done (by kernel_rfl) ?_ _
     go_wp2
     go_meet
     case rel=>exact ⟨w.heap.size + 2,w.heap.size + 2 + 1,rfl,by omega,rowB X _ _ _ _ _ _ _ _ _ _ _ sX,rowB2 X cur _ sX (uh HCS) hmx,(bal _ _ (bal _ _ (Below.refl _ _))).drew,by simp only [size_al,drew_heap];omega⟩
    exact AllReadyH.nil
   exact AllReadyH.nil
  exact AllReadyH.nil
 case rest =>
  obtain ⟨mb,gk,rfl,hne1,rm,rg,bV,sV⟩:=hcut
  obtain ⟨V,rfl⟩:∃ V,V=wc:=⟨_,rfl⟩
  have lm:=World.ownsRow.lt rm mb (by simp [Value.ownBlock])
  have lg:=World.ownsRow.lt rg gk (by simp [Value.ownBlock])
  have hne3:V.heap.size ≠ gk:=by omega
  have hne4:mb ≠ V.heap.size:=by omega
  have hne5:gk ≠ V.heap.size:=by omega
  obtain ⟨Y,HY⟩:∃ Y,V.alloc (.cells cui 3)=Y:=⟨_,rfl⟩
  have hVY:Below V.heap.size V Y:=by rw [← HY];exact (Below.refl _ _).alloc (Nat.le_refl _) _
  have hYi:Y.heap[V.heap.size]? = some (.cells cui 3 (0,0)):=by rw [← HY];exact box_nw _ _
  have hYs:Y.heap.size=V.heap.size + 1:=by rw [← HY];simp
  have RI:=hide (show Y.ownsRow (w.heap.size + 2) 3 1 (.slice (some ⟨V.heap.size,0,none⟩) kids.length kids.length) kids.length cui.toList from rowOf10 hYi (by omega) (uh HCI) hmx)
  have RM:=hide (row_below rm hVY)
  have RG:=hide (row_below rg hVY)
  have BY:=hide (below_sub bV hVY)
  have cV:=KS V bV
  have cY:=KS Y (uh BY)
  obtain ⟨v6,v7⟩:=cV
  obtain ⟨y6,y7⟩:=cY
  clear rm rg bV hVY hYi c0 c1 c2 c3 c4 c5 c6 c7 dX hmk
  go_wp2
  go_loopw [38] (fun i wr=>∃ (k:Nat) (us:List Sv),k≤kids.length∧i=.int .i64 k∧us.length=k∧Hid (wr.ownsRow (w.heap.size + 2) 62 10 (.slice (some ⟨mb,0,none⟩) 1 1) 1 [.int .i64 0,.string ⟨#[]⟩,.slice none 0 0,.slice none 0 0,.int .i64 0,.int .i64 0,.bool false,.int .i64 4,.int .i64 0,.slice (some ⟨gk,0,none⟩) kids.length kids.length])∧Hid (wr.ownsRow (w.heap.size + 2) 62 10 (.slice (some ⟨gk,0,none⟩) kids.length kids.length) kids.length ((flatK encSd 10 us.toArray).toList ++ cur.toList.drop (k * 10)))∧Hid (wr.ownsRow (w.heap.size + 2) 3 1 (.slice (some ⟨V.heap.size,0,none⟩) kids.length kids.length) kids.length (((kids.take k).map wN).map (fun x=>Value.int .i64 x) ++ cui.toList.drop k))∧Hid (Below X.heap.size X wr)∧V.heap.size + 1≤wr.heap.size∧Hid (∀ (j:Nat) (v:Sv) (x:Nd),us[j]? = some v→kids[j]? = some x→SdSt w0.heap.size (V.heap.size + 1) v x wr)) (fun i _=>kids.length - (intOf i).toNat)
  case atStart=>exact ⟨0,[],by omega,rfl,rfl,RM,by simpa [flatK] using RG,by simpa using RI,BY,by omega,hide (fun j v x h=>by simp at h)⟩
  case round =>
   obtain ⟨k,us,hkk,rfl,hus,RMr,RGr,RIr,HB,hsz,HSP⟩:=hrel
   clear v6 v7 y6 y7
   obtain ⟨r6,r7⟩:=KS wr (uh HB)
   have HUS:=hide hus
   clear hus
   by_cases hlt:k < kids.length
   ·obtain ⟨x,hx,hxd⟩:=get_at hlt
    clear hxd
    have hb0:Below w0.heap.size w0 wr:=below_sub (below_sub (uh HB0) (uh BX)) (uh HB)
    obtain ⟨b,off,v,hq,hin,g0,g1,g2,g3,g4,g5,g6,g7⟩:=(uh HK).on2 hx hb0
    subst hq
    have hxm:x ∈ kids:=List.mem_of_getElem? hx
    have hxw:=wtL_mem hxm
    have ki0:(0:Int)≤(k:Int):=by omega
    have ki1:(k:Int) < (kids.length:Int):=by omega
    obtain ⟨Z,HZ⟩:∃ Z,wr.alloc (.cells #[.int .i64 v.kind,.string v.attr,.slice v.qi v.ni v.ci,.slice v.qw v.nw v.cw,.int .i64 v.lo,.int .i64 v.hi,.int .i64 v.op,.slice v.qk v.nk v.ck] 28)=Z:=⟨_,rfl⟩
    have bZ:Below wr.heap.size wr Z:=by rw [← HZ];exact (Below.refl _ _).alloc (Nat.le_refl _) _
    have zk:Z.heap[wr.heap.size]? = some (.cells #[.int .i64 v.kind,.string v.attr,.slice v.qi v.ni v.ci,.slice v.qw v.nw v.cw,.int .i64 v.lo,.int .i64 v.hi,.int .i64 v.op,.slice v.qk v.nk v.ck] 28 (0,0)):=by rw [← HZ];exact box_nw _ _
    have sZ:Z.heap.size=wr.heap.size + 1:=by rw [← HZ];simp
    have ZK:=hide zk
    have lm2:mb < wr.heap.size:=by omega
    have hM:=fun (Wd:World) (hWd:Below Z.heap.size Z Wd)=>uh IH x hxm v w0 Wd hin (below_sub (below_sub hb0 bZ) hWd) (uh HC x hxm) (uh HA x hxm) (by omega) (uh HW x hxm)
    simp only [Nv.val] at hM
    obtain ⟨z0,z1,z2,z3,z4,z5,z6,z7,z8,z9,hz⟩:=ten_of (d:=cur.toList) (o:=k * 10) (by have:=uh HCS;simp only [Array.length_toList];omega)
    obtain ⟨zi,hzi⟩:∃ zi,cui.toList.drop k=[zi] ++ cui.toList.drop (k + 1):=⟨_,List.drop_eq_getElem_cons (by have:=uh HCI;simp only [Array.length_toList];omega)⟩
    have RGZ:=hide (show Z.ownsRow (w.heap.size + 2) 62 10 (.slice (some ⟨gk,0,none⟩) kids.length kids.length) kids.length ((flatK encSd 10 us.toArray).toList ++ [z0,z1,z2,z3,z4,z5,z6,z7,z8,z9] ++ cur.toList.drop (k * 10 + 10)) by have h:=row_below (uh RGr) bZ;rw [hz,← List.append_assoc] at h;exact h)
    have RMZ:=hide (row_below (uh RMr) bZ)
    have RIZ:=hide (show Z.ownsRow (w.heap.size + 2) 3 1 (.slice (some ⟨V.heap.size,0,none⟩) kids.length kids.length) kids.length (((kids.take k).map wN).map (fun x=>Value.int .i64 x) ++ [zi] ++ cui.toList.drop (k + 1)) by have h:=row_below (uh RIr) bZ;rw [hzi,← List.append_assoc] at h;exact h)
    have hm9:Z.cell? ⟨mb,9,none⟩=some (.slice (some ⟨gk,0,none⟩) kids.length kids.length):=World.ownsRow.cellAt (uh RMZ) 9 (by omega)
    have cell10:∀ {W:World},W.ownsRow (w.heap.size + 2) 62 10 (.slice (some ⟨gk,0,none⟩) kids.length kids.length) kids.length ((flatK encSd 10 us.toArray).toList ++ [z0,z1,z2,z3,z4,z5,z6,z7,z8,z9] ++ cur.toList.drop (k * 10 + 10))→∀ i:Nat,i < 10→∃ u,W.cell? ⟨gk,k * 10 + i,none⟩=some u:=fun h i hi=>by
     have h2:=World.ownsRow.cellAt h (k * 10 + i) (by omega)
     rw [List.append_assoc,List.getElem?_append_right (by rw [flat_len10,uh HUS];omega),flat_len10,uh HUS,Nat.add_sub_cancel_left,List.getElem?_append_left (by simpa using hi)] at h2
     exact ⟨_,h2.trans (List.getElem?_eq_getElem (by simpa using hi))⟩
    have KS2:∀ W,Below Z.heap.size Z W→(fun w'=>w'.cell? ⟨wr.heap.size,0,none⟩=some (.int .i64 v.kind)∧w'.cell? ⟨wr.heap.size,1,none⟩=some (.string v.attr)∧w'.cell? ⟨wr.heap.size,2,none⟩=some (.slice v.qi v.ni v.ci)∧w'.cell? ⟨wr.heap.size,3,none⟩=some (.slice v.qw v.nw v.cw)∧w'.cell? ⟨wr.heap.size,4,none⟩=some (.int .i64 v.lo)∧w'.cell? ⟨wr.heap.size,5,none⟩=some (.int .i64 v.hi)∧w'.cell? ⟨wr.heap.size,6,none⟩=some (.int .i64 v.op)∧w'.cell? ⟨wr.heap.size,7,none⟩=some (.slice v.qk v.nk v.ck)∧w'.cell? ⟨mb,9,none⟩=some (.slice (some ⟨gk,0,none⟩) kids.length kids.length)) W:=fun W hW=>by
     obtain ⟨a0,a1,a2,a3,a4,a5,a6,a7⟩:=of8' ((hW.block _ (heap_lt (uh ZK))).trans (uh ZK))
     exact ⟨a0,a1,a2,a3,a4,a5,a6,a7,(hW.cell (p:=⟨mb,9,none⟩) (by simp only;omega)).trans hm9⟩
    have KS3:∀ W W',Below Z.heap.size Z W→W.grownBy W' (some gk)→(fun w'=>w'.cell? ⟨wr.heap.size,0,none⟩=some (.int .i64 v.kind)∧w'.cell? ⟨wr.heap.size,1,none⟩=some (.string v.attr)∧w'.cell? ⟨wr.heap.size,2,none⟩=some (.slice v.qi v.ni v.ci)∧w'.cell? ⟨wr.heap.size,3,none⟩=some (.slice v.qw v.nw v.cw)∧w'.cell? ⟨wr.heap.size,4,none⟩=some (.int .i64 v.lo)∧w'.cell? ⟨wr.heap.size,5,none⟩=some (.int .i64 v.hi)∧w'.cell? ⟨wr.heap.size,6,none⟩=some (.int .i64 v.op)∧w'.cell? ⟨wr.heap.size,7,none⟩=some (.slice v.qk v.nk v.ck)∧w'.cell? ⟨mb,9,none⟩=some (.slice (some ⟨gk,0,none⟩) kids.length kids.length)) W':=fun W W' hW hg=>by
     have hs:=hW.size
     obtain ⟨a0,a1,a2,a3,a4,a5,a6,a7⟩:=of8' ((hg.block wr.heap.size (by omega) (fun e=>by cases e;omega)).trans ((hW.block _ (heap_lt (uh ZK))).trans (uh ZK)))
     exact ⟨a0,a1,a2,a3,a4,a5,a6,a7,(World.cell?_of_block (w:=W) (a:=⟨mb,9,none⟩) (hg.block mb (by omega) (fun e=>by cases e;exact hne1 rfl))).trans ((hW.cell (p:=⟨mb,9,none⟩) (by simp only;omega)).trans hm9)⟩
    obtain ⟨f0,f1,f2,f3,f4,f5,f6,f7,f9⟩:=KS2 Z (Below.refl _ _)
    have HXX:=hide hx
    clear hin hx zk hz hzi
    go_wp2
    refine wp_region_held_drew (S:=fun w'=>w'.cell? ⟨wr.heap.size,0,none⟩=some (.int .i64 v.kind)∧w'.cell? ⟨wr.heap.size,1,none⟩=some (.string v.attr)∧w'.cell? ⟨wr.heap.size,2,none⟩=some (.slice v.qi v.ni v.ci)∧w'.cell? ⟨wr.heap.size,3,none⟩=some (.slice v.qw v.nw v.cw)∧w'.cell? ⟨wr.heap.size,4,none⟩=some (.int .i64 v.lo)∧w'.cell? ⟨wr.heap.size,5,none⟩=some (.int .i64 v.hi)∧w'.cell? ⟨wr.heap.size,6,none⟩=some (.int .i64 v.op)∧w'.cell? ⟨wr.heap.size,7,none⟩=some (.slice v.qk v.nk v.ck)∧w'.cell? ⟨mb,9,none⟩=some (.slice (some ⟨gk,0,none⟩) kids.length kids.length)) (by kernel_rfl) (KS2 _ ((Below.refl _ _).drew)) (fun hHeld=>?_)
    refine wpAnyH_take (i:=0) (oi:=⟨some 43,.fieldAddr 62 (.tmp 3) 3,_,_,_,none⟩) (v:=?_) rfl (by kernel_rfl) (by kernel_rfl) (by kernel_rfl) (fun _ _ _ h=>h) (Or.inl ⟨by rfl, ?_⟩) (by assumption) ?_
    rotate_left
    ·intro wq hSw
     go_simp
     with_reducible rfl
    simp only [Act.put,List.setIfInBounds_toArray,List.set_cons_zero,List.set_cons_succ]
    refine wpAnyH_take (i:=1) (oi:=⟨some 44,.load 60 (.tmp 43),_,_,_,none⟩) (v:=?_) rfl (by kernel_rfl) (by kernel_rfl) (by kernel_rfl) (fun _ _ _ h=>h) (Or.inl ⟨by rfl, ?_⟩) (by assumption) ?_
    rotate_left
    ·intro wq hSw
     go_simp
     with_reducible rfl
    simp only [Act.put,List.setIfInBounds_toArray,List.set_cons_zero,List.set_cons_succ]
    refine wpAnyH_take (i:=2) (oi:=⟨some 45,.move (.tmp 5),_,_,_,none⟩) (v:=?_) rfl (by kernel_rfl) (by kernel_rfl) (by kernel_rfl) (fun _ _ _ h=>h) (Or.inl ⟨by rfl, ?_⟩) (by assumption) ?_
    rotate_left
    ·intro wq hSw
     go_simp
     with_reducible rfl
    simp only [Act.put,List.setIfInBounds_toArray,List.set_cons_zero,List.set_cons_succ]
    refine wpAnyH_take (i:=3) (oi:=⟨some 46,.load 28 (.tmp 6),_,_,_,none⟩) (v:=?_) rfl (by kernel_rfl) (by kernel_rfl) (by kernel_rfl) (fun _ _ _ h=>h) (Or.inl ⟨by rfl, ?_⟩) (by assumption) ?_
    rotate_left
    ·intro wq hSw
     go_simp
     with_reducible rfl
    simp only [Act.put,List.setIfInBounds_toArray,List.set_cons_zero,List.set_cons_succ]
    refine wpAnyH_ready (rs:=[4]) (by kernel_rfl) (by simp) ?_
    refine AllReadyH.cons (o:=⟨some 47,.call { callee:=.value (.func 23),args:=#[.tmp 46],argTypes:=#[28] },_,_,_,none⟩) rfl (fun K hK=>?_) ?_
    ·go_simp
     refine (hM _ ((Below.refl _ _).drew)).mono ?_
     rintro e w2 ⟨⟨s,rfl,hst⟩,b2⟩
     simp only [Sv.val]
     have HST:=hide hst
     have B2:=hide (show Below Z.heap.size Z w2 from below_sub ((Below.refl Z.heap.size Z).drew) b2)
     have RG2:=hide (row_below (uh RGZ) (uh B2))
     have RM2:=hide (row_below (uh RMZ) (uh B2))
     have RI2:=hide (row_below (uh RIZ) (uh B2))
     have cf:∀ o,w2.frozen? ⟨gk,o,none⟩=false:=ownsRow_free (uh RG2)
     obtain ⟨y0,cg0⟩:=cell10 (uh RG2) 0 (by omega)
     obtain ⟨y1,cg1⟩:=cell10 (uh RG2) 1 (by omega)
     obtain ⟨y2,cg2⟩:=cell10 (uh RG2) 2 (by omega)
     obtain ⟨y3,cg3⟩:=cell10 (uh RG2) 3 (by omega)
     obtain ⟨y4,cg4⟩:=cell10 (uh RG2) 4 (by omega)
     obtain ⟨y5,cg5⟩:=cell10 (uh RG2) 5 (by omega)
     obtain ⟨y6,cg6⟩:=cell10 (uh RG2) 6 (by omega)
     obtain ⟨y7,cg7⟩:=cell10 (uh RG2) 7 (by omega)
     obtain ⟨y8,cg8⟩:=cell10 (uh RG2) 8 (by omega)
     obtain ⟨y9,cg9⟩:=cell10 (uh RG2) 9 (by omega)
     simp only [Nat.add_zero] at cg0
     clear hst b2
     refine hK.out _ _ (KS2 w2 (uh B2)) (fun hHeld=>?_)
     clear hK K
     refine wpAnyH_take (i:=5) (oi:=⟨some 48,.indexAddr 60 (.tmp 44) (.tmp 45),_,_,_,none⟩) (v:=?_) rfl (by kernel_rfl) (by kernel_rfl) (by kernel_rfl) (fun _ _ _ h=>h) (Or.inl ⟨by rfl, ?_⟩) (by assumption) ?_
     rotate_left
     ·intro wq hSw
      go_simp
      with_reducible rfl
     simp only [Act.put,List.setIfInBounds_toArray,List.set_cons_zero,List.set_cons_succ]
     refine wpAnyH_ready (rs:=[6]) (by kernel_rfl) (by simp) ?_
     refine AllReadyH.cons (o:=⟨none,.store 62 (.tmp 48) (.tmp 47),_,_,_,none⟩) rfl (fun K hK=>?_) ?_
     ·go_simp
      refine hK.out _ _ (KS3 w2 _ (uh B2) (g10 w2 gk (k * 10) _ _ _ _ _ _ _ _ _ _)) (fun hHeld=>?_)
      clear hK K
      refine wpAnyH_done (by kernel_rfl) ?_ _
      obtain ⟨W3,hW3⟩:∃ W3,((((((((((w2.setCell ⟨gk,k * 10,none⟩ (.int .i64 s.lit.kind)).setCell ⟨gk,k * 10 + 1,none⟩ (.string s.lit.attr)).setCell ⟨gk,k * 10 + 2,none⟩ (.slice s.lit.qi s.lit.ni s.lit.ci)).setCell ⟨gk,k * 10 + 3,none⟩ (.slice s.lit.qw s.lit.nw s.lit.cw)).setCell ⟨gk,k * 10 + 4,none⟩ (.int .i64 s.lit.lo)).setCell ⟨gk,k * 10 + 5,none⟩ (.int .i64 s.lit.hi)).setCell ⟨gk,k * 10 + 6,none⟩ (.bool s.lit.neg)).setCell ⟨gk,k * 10 + 7,none⟩ (.int .i64 s.op)).setCell ⟨gk,k * 10 + 8,none⟩ (.int .i64 s.width)).setCell ⟨gk,k * 10 + 9,none⟩ (.slice s.qk s.nk s.ck))=W3:=⟨_,rfl⟩
      rw [hW3]
      have hG3:w2.grownBy W3 (some gk):=by rw [← hW3];exact g10 w2 gk (k * 10) _ _ _ _ _ _ _ _ _ _
      have RM3:=hide (row_off (uh RM2) hG3 hne1)
      have RI3:=hide (row_off (uh RI2) hG3 hne3)
      have RG3:W3.ownsRow (w.heap.size + 2) 62 10 (.slice (some ⟨gk,0,none⟩) kids.length kids.length) kids.length ((flatK encSd 10 us.toArray).toList ++ [.int .i64 s.lit.kind,.string s.lit.attr,.slice s.lit.qi s.lit.ni s.lit.ci,.slice s.lit.qw s.lit.nw s.lit.cw,.int .i64 s.lit.lo,.int .i64 s.lit.hi,.bool s.lit.neg,.int .i64 s.op,.int .i64 s.width,.slice s.qk s.nk s.ck] ++ cur.toList.drop (k * 10 + 10)):=by rw [← hW3];exact row10 z0 z1 z2 z3 z4 z5 z6 z7 z8 z9 _ _ _ _ _ _ _ _ _ _ (uh RG2) (by rw [flat_len10,uh HUS])
      have RG3H:=hide RG3
      have m9:=World.ownsRow.cellAt (uh RM3) 9 (by omega)
      have g8:=World.ownsRow.cellAt RG3 (k * 10 + 8) (by omega)
      rw [List.append_assoc,List.getElem?_append_right (by rw [flat_len10,uh HUS];omega),flat_len10,uh HUS,Nat.add_sub_cancel_left] at g8
      simp only [List.getElem?_cons_succ,List.getElem?_cons_zero,List.cons_append,List.nil_append] at m9 g8
      have if3:∀ o,W3.frozen? ⟨V.heap.size,o,none⟩=false:=ownsRow_free (uh RI3)
      have ic3:=World.ownsRow.cellAt (uh RI3) k (by omega)
      rw [List.append_assoc,List.getElem?_append_right (by simp;omega)] at ic3
      have e0:k - (((kids.take k).map wN).map (fun x=>Value.int .i64 x)).length=0:=by simp;omega
      rw [e0] at ic3
      simp only [List.cons_append,List.getElem?_cons_zero] at ic3
      have AG3:=hide (show Ags w0.heap.size (V.heap.size + 1) wr W3 by rw [← hW3];exact ags10 (Ags.of (below_sub bZ (uh B2))) _ (by omega) (by omega) _ _ _ _ _ _ _ _ _ _)
      have AS3:=hide (show Ags w0.heap.size Z.drew.heap.size w2 W3 by rw [← hW3];exact ags10 (Ags.refl _ _ _) _ (by omega) (by simp only [drew_heap];omega) _ _ _ _ _ _ _ _ _ _)
      have BW3:=hide (show Below X.heap.size X W3 by rw [← hW3];exact set10b (g:=gk) (below_sub (uh HB) (below_sub bZ (uh B2))) (by omega) _ _ _ _ _ _ _ _ _ _)
      have sz3:wr.heap.size≤W3.heap.size:=(uh AG3).1
      have hwx:s.width=wN x:=(SdSt.now (uh HST)).wide (uh HC x hxm) (uh HA x hxm)
      clear hW3 RG3 hG3 hHeld
      go_wp2
      exact ⟨⟨k + 1,us ++ [s],by omega,by go_num,by rw [List.length_append,uh HUS];rfl,hide (row_off (uh RM3) (gset (grefl W3 _) _ _) hne4),hide (by
      have h:=row_off (uh RG3H) (gset (grefl W3 (some V.heap.size)) k (.int .i64 (wN x))) hne5
      rw [flat_app encSd 10 (by decide),flat_one10,Nat.add_mul,Nat.one_mul]
      exact h),hide (by
      have h:=row1 (o:=k) zi (.int .i64 (wN x)) (uh RI3) (by simp;omega)
      rw [take_snoc_of (uh HXX),List.map_append,List.map_append,List.map_singleton,List.map_singleton]
      exact h),hide ((uh BW3).setCell (by simp only;omega) _),by simp only [World.size_setCell];omega,hide (snocS (uh HUS) (uh HXX) (fun j v x h1 h2=>((uh HSP) j v x h1 h2).step ((uh AG3).set (by simp only;omega) (by simp only;omega) _)) ((((uh HST).step (uh AS3)).step ((Ags.refl _ _ _).set (by simp only;omega) (by simp only [drew_heap];omega) _)).mono (by simp only [drew_heap];omega)))⟩,by simp [intOf];omega⟩
     exact AllReadyH.nil
    exact AllReadyH.nil
   ·have hkl:k=kids.length:=by omega
    subst hkl
    have ki1:¬ (kids.length:Int) < (kids.length:Int):=by omega
    have RG4:=uh RGr
    rw [List.drop_of_length_le (by have:=uh HCS;simp only [Array.length_toList];omega),List.append_nil] at RG4
    have RI4:=uh RIr
    rw [List.take_of_length_le (Nat.le_refl _),List.drop_of_length_le (by have:=uh HCI;simp only [Array.length_toList];omega),List.append_nil,← flatI_map] at RI4
    have hsl:SlOf encI 1 wr (some ⟨V.heap.size,0,none⟩) kids.length (kids.map wN):=(show OwnK encI 3 1 (w.heap.size + 2) wr (some ⟨V.heap.size,0,none⟩) kids.length (kids.map wN) by unfold OwnK;rw [List.length_map];exact RI4).ls
    have hsm:=sum_any 64 (some ⟨V.heap.size,0,none⟩) kids.length (kids.map wN) wr hsl (by rw [List.length_map];omega)
    rw [List.length_map] at hsm
    have RG5:=hide RG4
    have xr:=((uh HB).block _ (heap_lt (uh XZ))).trans (uh XZ)
    have XR:=hide xr
    have lx:=heap_lt xr
    obtain ⟨W,hWd⟩:∃ W,sumB 64 (kids.map wN)=W:=⟨_,rfl⟩
    rw [hWd] at hsm
    have HWD:=hide hWd
    clear RG4 RI4 hsl hWd xr
    go_wp2_with (go_at_call 40;refine hsm.mono ?_;rintro e w2 ⟨rfl,b2⟩;have B2:=hide b2;have RM2:=hide (row_below (uh RMr) b2);have mf:∀ o,w2.frozen? ⟨mb,o,none⟩=false:=ownsRow_free (uh RM2);(have xq:=(b2.block _ lx).trans (uh XR));have xf:∀ o,w2.frozen? ⟨w.heap.size + 1,o,none⟩=false:=(fun o=>frozen_free xq);(obtain ⟨t0,t1,t2,t3,t4,t5,t6,t7,t8,t9⟩:=of10' xq);have m0:=World.ownsRow.cellAt (uh RM2) 0 (by omega);have m1:=World.ownsRow.cellAt (uh RM2) 1 (by omega);have m2:=World.ownsRow.cellAt (uh RM2) 2 (by omega);have m3:=World.ownsRow.cellAt (uh RM2) 3 (by omega);have m4:=World.ownsRow.cellAt (uh RM2) 4 (by omega);have m5:=World.ownsRow.cellAt (uh RM2) 5 (by omega);have m6:=World.ownsRow.cellAt (uh RM2) 6 (by omega);have m7:=World.ownsRow.cellAt (uh RM2) 7 (by omega);have m8:=World.ownsRow.cellAt (uh RM2) 8 (by omega);have m9:=World.ownsRow.cellAt (uh RM2) 9 (by omega);simp only [List.getElem?_cons_succ,List.getElem?_cons_zero] at m0 m1 m2 m3 m4 m5 m6 m7 m8 m9;clear b2 xq)
    refine bodyPost_ret (v:=.agg #[.int .i64 0,.string ⟨#[]⟩,.slice none 0 0,.slice none 0 0,.int .i64 0,.int .i64 0,.bool false,.int .i64 4,.int .i64 W,.slice (some ⟨gk,0,none⟩) kids.length kids.length]) (by simp [results,Try.results23,go_sem, *]) rfl ⟨⟨gk,us,by rw [uh HWD],by omega, ?_,uh HUS, ?_⟩, ?_⟩
    ·have h:=row_off (row_off (row_below (uh RG5) (uh B2)) (gset (grefl w2 (some mb)) 8 (.int .i64 W)) (fun e=>hne1 e.symm)) (g10z _ (w.heap.size + 1) (.int .i64 0) (.string ⟨#[]⟩) (.slice none 0 0) (.slice none 0 0) (.int .i64 0) (.int .i64 0) (.bool false) (.int .i64 4) (.int .i64 W) (.slice (some ⟨gk,0,none⟩) kids.length kids.length)) (by omega)
     refine OwnK.ls (B:=w.heap.size + 2) (e:=62) ?_
     unfold OwnK
     rw [uh HUS]
     exact h
    ·intro j v x h1 h2
     exact ((uh HSP j v x h1 h2).step (ags10z ((Ags.of (uh B2)).set (by simp only;omega) (by simp only;omega) _) (by omega) (by omega) _ _ _ _ _ _ _ _ _ _)).mono (by omega)
    ·exact set10_below ((below_sub (uh BX) (below_sub (uh HB) (uh B2))).setCell (by simp only;omega) _) (by omega) _ _ _ _ _ _ _ _ _ _
end Go.Proofs.Ytikhopiegaoacac

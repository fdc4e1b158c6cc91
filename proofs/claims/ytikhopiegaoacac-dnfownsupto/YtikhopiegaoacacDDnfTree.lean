/- dnf.Tree: the tree of conjunctions. -/
import Derived.Test.YtikhopiegaoacacDDnfLeaves
import Derived.Test.YtikhopiegaoacacDCheck
import Derived.Test.YtikhopiegaoacacDGrow
import Derived.Test.YtikhopiegaoacacDZae
namespace Go.Proofs.Ytikhopiegaoacac
open Go.RowKit Go.Sort

/-- The tree of a conjunction, and of conjunctions. -/
def treeC (ls:List Lt):Nd:=joinT 3 (ls.map litN)
def treeOk (cs:List (List Lt)):Bool:=cs.all (fun ls=>chkN (treeC ls))
def treeE (cs:List (List Lt)):Int:=if treeOk cs && !cs.isEmpty then 0 else 1
def treeT (cs:List (List Lt)):Nd:=if treeOk cs && !cs.isEmpty then joinT 4 (cs.map treeC) else zeroT
theorem treeOk_no {cs:List (List Lt)} {k:Nat} {ls:List Lt} (h:cs[k]? = some ls) (hc:chkN (treeC ls)=false):treeOk cs=false:=by
  unfold treeOk
  rw [List.all_eq_false]
  exact ⟨ls,List.mem_of_getElem? h,by simp [hc]⟩
theorem take_all {cs:List (List Lt)} {k:Nat} {ls:List Lt} (h:cs[k]? = some ls) (ho:treeOk (cs.take k)=true) (hc:chkN (treeC ls)=true):treeOk (cs.take (k + 1))=true:=by
  rw [take_snoc_of h]
  unfold treeOk at ho ⊢
  rw [List.all_append,ho]
  simp [hc]
theorem wt_join8 (op:Int) (kids:List Nd):wtN (joinT op kids)≤wtL kids + 1:=by
  have e:(⟨#[]⟩:ByteArray).size=0:=rfl
  match kids with
  | []=>simp [joinT,zeroT,wtN,wtL,wordsWt,e]
  | [x]=>simp [joinT,wtL]
  | x :: y :: l=>simp only [joinT,wtN,wordsWt,List.length_nil,e];omega
theorem zero_from (w:World) (B:Nat):NdFrom w B ⟨0,⟨#[]⟩,none,0,0,none,0,0,0,0,0,none,0,0⟩ zeroT :=
  NdFrom.make (ints:=[]) (words:=[]) (kids:=[]) (vs:=[]) (OwnK.nil _ _) (OwnK.nil _ _) (OwnK.nil _ _) rfl (fun j v x h=>by simp at h)
/-- Trees of the call's own, which a list holds. -/
def FromAll (B:Nat) (ts:List Nd) (us:List Nv) (w:World):Prop:=∀ (j:Nat) (v:Nv) (x:Nd),us[j]? = some v→ts[j]? = some x→NdFrom w B v x
theorem FromAll.snoc {B:Nat} {ts:List Nd} {us:List Nv} {w:World} {v:Nv} {x:Nd} {k:Nat} (h:FromAll B ts us w) (hu:us.length=k) (hx:ts[k]? = some x) (sp:NdFrom w B v x):FromAll B ts (us ++ [v]) w:=snoc_all h hu hx sp
theorem FromAll.nds {B B':Nat} {ts:List Nd} {us:List Nv} {w:World} {q:Option Addr} {c:Nat} (h:FromAll B ts us w) (ho:OwnK encV 28 8 B' w q c us) (hl:us.length=ts.length):NdsOf w q c ts :=
  ⟨us,ho.ls,hl,fun j v x hj hx=>(h j v x hj hx).toIn⟩
set_option maxRecDepth 100000 in
set_option maxHeartbeats 4000000 in
theorem tree_any (q:Option Addr) (c:Nat) (cs:List (List Lt)) (w:World) (hl:CjsOf w q c cs) (wc:∀ ls ∈ cs,ls.length≤1000000000∧wtL (ls.map litN)≤400000000) (wt:wtL (cs.map treeC)≤1000000000) (ln:cs.length≤1000000000) :
    Calls Try.prog 17 #[.slice q cs.length c] w fun e w'=>(∃ v',e=.returned (.tuple #[v'.val,.int .i64 (treeE cs)])∧NdFrom w' w.heap.size v' (treeT cs))∧Below w.heap.size w w':=by
  have a0:(cs.length:Int)≤1000000000:=by omega
  obtain ⟨X,HX⟩:∃ X,w.alloc (.cells #[.int .i64 0,.string ⟨#[]⟩,.slice none 0 0,.slice none 0 0,.int .i64 0,.int .i64 0,.int .i64 0,.slice none 0 0] 28)=X:=⟨_,rfl⟩
  have bX:Below w.heap.size w X:=by rw [← HX];exact (Below.refl _ _).alloc (Nat.le_refl _) _
  have x8:X.heap[w.heap.size]? = some (.cells #[.int .i64 0,.string ⟨#[]⟩,.slice none 0 0,.slice none 0 0,.int .i64 0,.int .i64 0,.int .i64 0,.slice none 0 0] 28 (0,0)):=by rw [← HX];exact box_nw _ _
  have sX:X.heap.size=w.heap.size + 1:=by rw [← HX];simp
  have HL:=hide (hl.below bX)
  have HWC:=hide wc
  have HWT:=hide wt
  have X8:=hide x8
  have BX:=hide bX
  clear hl wc wt x8 bX
  go_enter Try.func17,Try.ntmps17
  go_wp2
  go_loopw [4,11] (fun m i wr=>∃ (k:Nat) (qm:Option Addr) (cm:Nat) (us:List Nv),k≤cs.length∧i=.int .i64 k∧m=.slice qm k cm∧us.length=k∧treeOk (cs.take k)=true∧OwnK encV 28 8 X.heap.size wr qm cm us∧OffP X.heap.size (FromAll X.heap.size (cs.map treeC) us) (Value.slice qm k cm).ownBlock wr∧Below X.heap.size X wr) (fun _ i _=>cs.length - (intOf i).toNat)
  case atStart=>exact ⟨0,none,0,[],by omega,rfl,rfl,rfl,rfl,OwnK.nil _ _,fun w' _ _ j v x h=>by simp at h,Below.refl _ _⟩
  case round =>
    obtain ⟨k,qm,cm,us,hkk,rfl,rfl,hus,hok,hown,hoff,hbel⟩:=hrel
    obtain ⟨U,rfl⟩:∃ U,U=wr:=⟨_,rfl⟩
    have xr:=(hbel.block _ (heap_lt (uh X8))).trans (uh X8)
    have XR:=hide xr
    obtain ⟨r0,r1,r2,r3,r4,r5,r6,r7⟩:=of8' xr
    have hsU:=hbel.size
    clear xr
    by_cases hlt:k < cs.length
    · obtain ⟨ls,hx,hxd⟩:=get_at hlt
      clear hxd
      obtain ⟨b,off,ql,cl,hq,hbb,hlit,g0⟩:=(uh HL).at hx
      subst hq
      have g1:=(hbel.cell (p:=⟨b,off + k,none⟩) hbb).trans g0
      have hxm:=List.mem_of_getElem? hx
      obtain ⟨wc1,wc2⟩:=uh HWC ls hxm
      have ki0:(0:Int)≤(k:Int):=by omega
      have ki1:(k:Int) < (cs.length:Int):=by omega
      have hLv:=leaves_any ql cl ls U (hlit.below hbel) (fun l hl=>by have:=wtL_mem (l:=ls.map litN) (x:=litN l) (List.mem_map.2 ⟨l,hl,rfl⟩);omega) wc1
      have hAn:=fun (qn:Option Addr) (cn:Nat) (W:World) (h:NdsOf W qn cn (ls.map litN))=>and_any qn cn (ls.map litN) W h (by omega)
      have hwj:wtN (treeC ls)≤1000000000:=by have:=wt_join8 3 (ls.map litN);unfold treeC;omega
      have hCk:=fun (u:Nv) (W:World) (h:NdIn W u (treeC ls))=>checkT_any (treeC ls) u W h hwj
      simp only [List.length_map] at hAn
      simp only [Nv.val] at hCk
      have HB:=hide hbel
      have HO:=hide hown
      have HF:=hide hoff
      have HUS:=hide hus
      have HXX:=hide hx
      have HOK:=hide hok
      have hL:=hide (hown.ownLt hus)
      have hkm:k + 1≤maxLen:=by unfold maxLen;omega
      have hkb:(k + 1) * 120≤140737488355328:=by omega
      clear hx hxm hbel hown hoff hus hok hlit g0
      cases hc:chkN (treeC ls) with
      | false =>
        rw [hc,show code false=1 from rfl] at hCk
        go_wp2_with (first
          | (go_at_call 33;refine hLv.mono ?_;rintro e w1 ⟨⟨qn,cn,rfl,hn⟩,b1⟩;have HN:=hide hn;have B1:=hide b1;clear hn b1)
          | (go_at_call 14;refine (hAn qn cn w1 (uh HN)).mono ?_;rintro e w2 ⟨⟨v,rfl,nv⟩,b2⟩;simp only [Nv.val];have NV:=hide nv;have B2:=hide (below_sub (uh B1) b2);clear nv b2)
          | (go_at_call 34;refine name_worldM ?_;intro Y hY;have bY:Below w2.heap.size w2 Y:=(by rw [hY];exact (Below.refl _ _).alloc (Nat.le_refl _) _);refine (hCk v Y ((uh NV).toIn.keep bY)).mono ?_;rintro e w3 ⟨rfl,b3⟩;have B3:=hide (below_sub (uh B2) (below_sub bY b3));(have xq:=((uh B3).block _ (heap_lt (uh XR))).trans (uh XR));have xf:∀ o,w3.frozen? ⟨w.heap.size,o,none⟩=false:=(fun o=>frozen_free xq);(obtain ⟨t0,t1,t2,t3,t4,t5,t6,t7⟩:=of8' xq);clear hY bY b3 xq))
        have hE:treeE cs=1∧treeT cs=zeroT:=by
          have h:=treeOk_no (uh HXX) hc
          unfold treeE treeT
          rw [h]
          exact ⟨rfl,rfl⟩
        rw [hE.1,hE.2]
        refine bodyPost_ret (v:=.tuple #[.agg #[.int .i64 0,.string ⟨#[]⟩,.slice none 0 0,.slice none 0 0,.int .i64 0,.int .i64 0,.int .i64 0,.slice none 0 0],.int .i64 1]) (by simp [results,Try.results17,go_sem, *]) rfl ⟨⟨⟨0,⟨#[]⟩,none,0,0,none,0,0,0,0,0,none,0,0⟩,rfl,zero_from _ _⟩, ?_⟩
        exact set8_below (below_sub (uh BX) (below_sub (uh HB) (uh B3))) (Nat.le_refl _) _ _ _ _ _ _ _ _
      | true =>
        rw [hc,show code true=0 from rfl] at hCk
        go_wp2_with (first
          | (go_at_call 33;refine hLv.mono ?_;rintro e w1 ⟨⟨qn,cn,rfl,hn⟩,b1⟩;have HN:=hide hn;have B1:=hide b1;clear hn b1)
          | (go_at_call 14;refine (hAn qn cn w1 (uh HN)).mono ?_;rintro e w2 ⟨⟨v,rfl,nv⟩,b2⟩;simp only [Nv.val];have NV:=hide nv;have B2:=hide (below_sub (uh B1) b2);have s1:=(uh B1).size;clear nv b2)
          | (go_at_call 34;refine name_worldM ?_;intro Y hY;have yk:Y.heap[w2.heap.size]? = some (.cells #[.int .i64 v.kind,.string v.attr,.slice v.qi v.ni v.ci,.slice v.qw v.nw v.cw,.int .i64 v.lo,.int .i64 v.hi,.int .i64 v.op,.slice v.qk v.nk v.ck] 28 (0,0)):=(by rw [hY];exact box_nw _ _);have bY:Below w2.heap.size w2 Y:=(by rw [hY];exact (Below.refl _ _).alloc (Nat.le_refl _) _);refine (hCk v Y ((uh NV).toIn.keep bY)).mono ?_;rintro e w3 ⟨rfl,b3⟩;have B23:=hide (below_sub bY b3);have B3:=hide (below_sub (uh B2) (below_sub bY b3));(obtain ⟨p0,p1,p2,p3,p4,p5,p6,p7⟩:=of8' ((b3.block _ (heap_lt yk)).trans yk));have s3:=(uh B3).size;clear hY bY b3 yk)
          | (at_builtin;refine wpList_appG rowV rfl _ _ rfl X.heap.size qm cm us ⟨w3.heap.size,0,none⟩ 1 [v] k 1 (k + 1) (uh HUS) rfl rfl rfl rfl (((uh HO).below (uh B3)).below ((Below.refl _ _).alloc (Nat.le_refl _) _)) (node_src (box_nw _ _)) hkm hkb (by simp;omega) ?_;intro q4 c4 w4 ho4 hb4 hg4 hor4;have HO4:=hide ho4;have HG4:=hide hg4;have HR4:=hide hor4;have HB4:=hide hb4;clear ho4 hb4 hg4 hor4))
        have SPA:=((uh NV).keep (uh B23)).keep ((Below.refl w3.heap.size w3).alloc (Nat.le_refl _) (.cells #[.int .i64 v.kind,.string v.attr,.slice v.qi v.ni v.ci,.slice v.qw v.nw v.cw,.int .i64 v.lo,.int .i64 v.hi,.int .i64 v.op,.slice v.qk v.nk v.ck] 28))
        have F4:OffP X.heap.size (FromAll X.heap.size (cs.map treeC) (us ++ [v])) (Value.slice q4 (k + 1) c4).ownBlock w4:=(((((uh HF).below (uh B3)).below ((Below.refl _ _).alloc (Nat.le_refl _) _)).step (uh HG4) (uh HR4)).and ((OffP.from SPA (by omega) (fun b e=>by have:=uh hL _ e;omega)).step (uh HG4) (uh HR4))).imp (fun W h=>h.1.snoc (uh HUS) (by rw [List.getElem?_map,uh HXX];rfl) (h.2.mono (by omega)))
        have hl4:(us ++ [v]).length=k + 1:=by rw [List.length_append,uh HUS];rfl
        exact ⟨⟨k + 1,q4,c4,us ++ [v],by omega,by go_num,rfl,hl4,take_all (uh HXX) (uh HOK) hc,uh HO4,F4,((below_sub (uh HB) (uh B3)).alloc (by omega) _).trans (uh HB4)⟩,by simp [intOf];omega⟩
    · have hkl:k=cs.length:=by omega
      subst hkl
      have ki1:¬ (cs.length:Int) < (cs.length:Int):=by omega
      rw [List.take_of_length_le (Nat.le_refl _)] at hok
      have ND:=hide (hoff.now.nds hown (by rw [List.length_map];exact hus))
      have HB:=hide hbel
      have xf:∀ o,U.frozen? ⟨w.heap.size,o,none⟩=false:=fun o=>frozen_free (uh XR)
      by_cases h0:cs.length=0
      · have HE:=hide (show treeE cs=1∧treeT cs=zeroT by
          obtain rfl:=List.length_eq_zero_iff.1 h0
          exact ⟨rfl,rfl⟩)
        have e0:((cs.length:Int) == 0)=true:=by simp [h0]
        rw [h0]
        have e1:¬ ((0:Int) < 0):=by omega
        clear hown hoff hbel
        go_wp2
        rw [(uh HE).1,(uh HE).2]
        refine bodyPost_ret (v:=.tuple #[.agg #[.int .i64 0,.string ⟨#[]⟩,.slice none 0 0,.slice none 0 0,.int .i64 0,.int .i64 0,.int .i64 0,.slice none 0 0],.int .i64 1]) (by simp [results,Try.results17,go_sem, *]) rfl ⟨⟨⟨0,⟨#[]⟩,none,0,0,none,0,0,0,0,0,none,0,0⟩,rfl,zero_from _ _⟩, ?_⟩
        exact set8_below (below_sub (uh BX) (uh HB)) (Nat.le_refl _) _ _ _ _ _ _ _ _
      · have HE:=hide (show treeE cs=0∧treeT cs=joinT 4 (cs.map treeC) by
          have h1:cs.isEmpty=false:=by cases cs with
            | nil=>simp at h0
            | cons a l=>rfl
          unfold treeE treeT
          rw [hok,h1]
          exact ⟨rfl,rfl⟩)
        have e0:((cs.length:Int) == 0)=false:=by simp [h0]
        have hOr:=or_any qm cm (cs.map treeC) U (uh ND) (uh HWT)
        rw [List.length_map] at hOr
        clear hown hoff hbel
        go_wp2_with (go_at_call 15;refine hOr.mono ?_;rintro e w3 ⟨⟨v,rfl,nv⟩,b3⟩;simp only [Nv.val];have NV:=hide nv;have B3:=hide b3;(have xq:=(b3.block _ (heap_lt (uh XR))).trans (uh XR));have xf3:∀ o,w3.frozen? ⟨w.heap.size,o,none⟩=false:=(fun o=>frozen_free xq);(obtain ⟨t0,t1,t2,t3,t4,t5,t6,t7⟩:=of8' xq);clear nv b3 xq)
        rw [(uh HE).1,(uh HE).2]
        refine bodyPost_ret (v:=.tuple #[.agg #[.int .i64 v.kind,.string v.attr,.slice v.qi v.ni v.ci,.slice v.qw v.nw v.cw,.int .i64 v.lo,.int .i64 v.hi,.int .i64 v.op,.slice v.qk v.nk v.ck],.int .i64 0]) (by simp [results,Try.results17,go_sem, *]) rfl ⟨⟨v,rfl,((uh NV).up (set8_up (g:=w.heap.size) _ (by omega) _ _ _ _ _ _ _ _)).mono (by omega)⟩, ?_⟩
        exact set8_below (below_sub (uh BX) (below_sub (uh HB) (uh B3))) (Nat.le_refl _) _ _ _ _ _ _ _ _
end Go.Proofs.Ytikhopiegaoacac

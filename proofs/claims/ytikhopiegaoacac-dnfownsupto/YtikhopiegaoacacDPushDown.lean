/- push.down: a tree in form with its negations pushed, or its negation. -/
import Derived.Test.YtikhopiegaoacacDPushLit
namespace Go.Proofs.Ytikhopiegaoacac
open Go.RowKit Go.Sort

def otherI (op:Int):Int:=if op=3 then 4 else 3
mutual
/-- A tree in form, pushed, or its negation. -/
def downN:Nd→Bool→Nd
 | .mk kind attr ints words lo hi op ks,neg =>
  if op=1 then litT kind attr ints words lo hi neg
  else if op=2 then downH ks (!neg)
  else .mk 0 ⟨#[]⟩ [] [] 0 0 (if neg then otherI op else op) (downL ks neg)
def downH:List Nd→Bool→Nd
 | [],_=>zeroT
 | x :: _,neg=>downN x neg
def downL:List Nd→Bool→List Nd
 | [],_=>[]
 | x :: xs,neg=>downN x neg :: downL xs neg
end
theorem downL_map (l:List Nd) (neg:Bool):downL l neg=l.map (fun x=>downN x neg):=by
 induction l with
 | nil=>simp [downL]
 | cons x l ih=>simp [downL,ih]
theorem downL_len (l:List Nd) (neg:Bool):(downL l neg).length=l.length:=by rw [downL_map];simp
theorem downL_at {l:List Nd} {k:Nat} {x:Nd} (neg:Bool) (h:l[k]? = some x):(downL l neg)[k]? = some (downN x neg):=by rw [downL_map];simp [h]
theorem other_any (op:Int) (w:World):Calls Try.prog 61 #[.int .i64 op] w fun e w'=>e=.returned (.int .i64 (otherI op))∧w'=w:=by
 unfold otherI
 by_cases h:op=3
 ·subst h
  go_enter Try.func61,Try.ntmps61
  go_wp2
  go_ret
  exact ⟨rfl,rfl⟩
 ·go_enter Try.func61,Try.ntmps61
  go_wp2
  go_ret
  exact ⟨rfl,rfl⟩
theorem OwnK.setOff {B c:Nat} {w:World} {q:Option Addr} {l:List Nv} (h:OwnK encV 28 8 B w q c l) {a:Addr} (ha:a.block < B) (u:Value):OwnK encV 28 8 B (w.setCell a u) q c l :=
 ownsRow_setCell_other h (fun e=>by have:=h.ownGe rfl _ e;omega) u
theorem down_round {X wr Z w2 w3:World} {pb k cm c3:Nat} {qm q3:Option Addr} {us:List Nv} {u:Nv} {D:List Nd} {y:Nd}
  (HB:Below pb X wr) (bZ:Below wr.heap.size wr Z) (R3:Below Z.heap.size Z w2) (HO:OwnK encV 28 8 (pb + 1) wr qm cm us) (HF:OffP (pb + 1) (FromIn (pb + 1) D us) (Value.slice qm k cm).ownBlock wr) (HU:NdFrom w2 Z.drew.heap.size u y) (HDK:D[k]? = some y) (HUS:us.length=k)
  (HG3:(w2.alloc (.cells #[.int .i64 u.kind,.string u.attr,.slice u.qi u.ni u.ci,.slice u.qw u.nw u.cw,.int .i64 u.lo,.int .i64 u.hi,.int .i64 u.op,.slice u.qk u.nk u.ck] 28)).grownBy w3 (Value.slice qm k cm).ownBlock) (HR3:(Value.slice q3 (k + 1) c3).ownBlock=(Value.slice qm k cm).ownBlock ∨ (Value.slice q3 (k + 1) c3).ownBlock=some (w2.alloc (.cells #[.int .i64 u.kind,.string u.attr,.slice u.qi u.ni u.ci,.slice u.qw u.nw u.cw,.int .i64 u.lo,.int .i64 u.hi,.int .i64 u.op,.slice u.qk u.nk u.ck] 28)).heap.size) (HO3:OwnK encV 28 8 (pb + 1) w3 q3 c3 (us ++ [u])) (HP3:w3.heap[pb]? = wr.heap[pb]?) (lpb:pb < wr.heap.size) (n7:w3.cell? ⟨pb,7,none⟩=some (.slice qm k cm)) :
  OwnK encV 28 8 (pb + 1) (w3.setCell ⟨pb,7,none⟩ (.slice q3 (k + 1) c3)) q3 c3 (us ++ [u])∧OffP (pb + 1) (FromIn (pb + 1) D (us ++ [u])) (Value.slice q3 (k + 1) c3).ownBlock (w3.setCell ⟨pb,7,none⟩ (.slice q3 (k + 1) c3))∧(∀ o,o < 7→(w3.setCell ⟨pb,7,none⟩ (.slice q3 (k + 1) c3)).cell? ⟨pb,o,none⟩=wr.cell? ⟨pb,o,none⟩)∧(w3.setCell ⟨pb,7,none⟩ (.slice q3 (k + 1) c3)).cell? ⟨pb,7,none⟩=some (.slice q3 (k + 1) c3)∧(∀ o,(w3.setCell ⟨pb,7,none⟩ (.slice q3 (k + 1) c3)).frozen? ⟨pb,o,none⟩=wr.frozen? ⟨pb,o,none⟩)∧Below pb X (w3.setCell ⟨pb,7,none⟩ (.slice q3 (k + 1) c3))∧pb < (w3.setCell ⟨pb,7,none⟩ (.slice q3 (k + 1) c3)).heap.size:=by
 have sz:=bZ.size
 have s2:=R3.size
 have s3:=HG3.size
 simp only [size_al] at s3
 have hlt:=HO.ownLt HUS
 have bA:Below wr.heap.size wr (w2.alloc (.cells #[.int .i64 u.kind,.string u.attr,.slice u.qi u.ni u.ci,.slice u.qw u.nw u.cw,.int .i64 u.lo,.int .i64 u.hi,.int .i64 u.op,.slice u.qk u.nk u.ck] 28)):=below_sub (below_sub bZ R3) ((Below.refl w2.heap.size w2).alloc (Nat.le_refl _) _)
 have UA:=HU.keep ((Below.refl w2.heap.size w2).alloc (Nat.le_refl _) (.cells #[.int .i64 u.kind,.string u.attr,.slice u.qi u.ni u.ci,.slice u.qw u.nw u.cw,.int .i64 u.lo,.int .i64 u.hi,.int .i64 u.op,.slice u.qk u.nk u.ck] 28))
 have hdz:Z.drew.heap.size=Z.heap.size:=rfl
 rw [hdz] at UA
 refine ⟨HO3.setOff (by simp only;omega) _, ?_, ?_, ?_, ?_, ?_,by simp;omega⟩
 ·refine OffP.set ?_ (by simp only;omega) _
  exact (((HF.below bA).step HG3 HR3).and ((OffP.from UA (by omega) (fun b e=>by have:=hlt b e;omega)).step HG3 HR3)).imp (fun W h=>snoc_all h.1 HUS HDK (h.2.mono (by omega)))
 ·intro o ho
  have h1:(w3.setCell ⟨pb,7,none⟩ (.slice q3 (k + 1) c3)).cell? ⟨pb,o,none⟩=w3.cell? ⟨pb,o,none⟩:=by
   have:¬ 7=o:=by omega
   go_simp
  exact h1.trans (World.cell?_of_block (w:=wr) (a:=⟨pb,o,none⟩) HP3)
 ·go_simp
 ·intro o
  have h1:(w3.setCell ⟨pb,7,none⟩ (.slice q3 (k + 1) c3)).frozen? ⟨pb,o,none⟩=w3.frozen? ⟨pb,o,none⟩:=by go_simp
  exact h1.trans (World.frozen?_of_block (w:=wr) (a:=⟨pb,o,none⟩) HP3)
 ·have:=(HB.trans (bA.mono (by omega))).grown HG3 (by simp only [size_al];omega) (fun j hj=>by have:=HO.ownGe HUS j hj;omega)
  exact this.setCell (Nat.le_refl _) _
theorem down_fin {wr W:World} {B c n:Nat} {op:Int} {q:Option Addr} {us:List Nv} {D:List Nd} (ho:OwnK encV 28 8 B wr q c us) (hf:FromIn B D us wr) (hl:us.length=D.length) (hn:D.length=n) (u:SameUp B wr W):NdFrom W B ⟨0,⟨#[]⟩,none,0,0,none,0,0,0,0,op,q,n,c⟩ (.mk 0 ⟨#[]⟩ [] [] 0 0 op D):=by
 subst hn
 exact NdFrom.make (ints:=[]) (words:=[]) (OwnK.nil _ _) (OwnK.nil _ _) (ho.upF ho.from u.2) hl (fun j v x hj hx=>(hf j v x hj hx).up u)
def DownP (x:Nd):Prop:=∀ (neg:Bool) (v:Nv) (w:World),NdIn w v x→chkN x=true→wtN x≤1000000000→Calls Try.prog 39 #[v.val,.bool neg] w fun e w'=>NewT w.heap.size w' (downN x neg) e∧Below w.heap.size w w'
set_option maxRecDepth 100000 in
set_option maxHeartbeats 8000000 in
theorem down_many (kind:Int) (attr:ByteArray) (qi:Option Addr) (ci:Nat) (ints:List Int) (qw:Option Addr) (cw:Nat) (words:List ByteArray) (lo hi op op2:Int) (qk:Option Addr) (ck:Nat) (kids:List Nd) (neg:Bool) (w:World) (hk:NdsOf w qk ck kids) (ih:∀ x ∈ kids,DownP x) (hc:∀ x ∈ kids,chkN x=true) (l3:wtL kids≤1000000000) (no1:¬ op=1) (no2:¬ op=2) (hop:(if neg then otherI op else op)=op2) :
  Calls Try.prog 39 #[.agg #[.int .i64 kind,.string attr,.slice qi ints.length ci,.slice qw words.length cw,.int .i64 lo,.int .i64 hi,.int .i64 op,.slice qk kids.length ck],.bool neg] w fun e w'=>NewT w.heap.size w' (.mk 0 ⟨#[]⟩ [] [] 0 0 op2 (downL kids neg)) e∧Below w.heap.size w w':=by
 have hlen:=Nat.le_trans (Nat.le_trans (len_size kids) (sizeL_wt kids)) l3
 have a0:(kids.length:Int)≤1000000000:=by omega
 obtain ⟨X,HX⟩:∃ X,(w.alloc (.cells #[.int .i64 kind,.string attr,.slice qi ints.length ci,.slice qw words.length cw,.int .i64 lo,.int .i64 hi,.int .i64 op,.slice qk kids.length ck] 28)).alloc (.cells #[.int .i64 0,.string ⟨#[]⟩,.slice none 0 0,.slice none 0 0,.int .i64 0,.int .i64 0,.int .i64 0,.slice none 0 0] 28)=X:=⟨_,rfl⟩
 obtain ⟨hX0,hX1,hwX,hXs⟩:=twoM HX
 obtain ⟨x0,x1,x2,x3,x4,x5,x6,x7⟩:=of8' hX0
 obtain ⟨y0,y1,y2,y3,y4,y5,y6,y7⟩:=of8' hX1
 have yf:∀ o,X.frozen? ⟨w.heap.size + 1,o,none⟩=false:=fun o=>frozen_free hX1
 have HK:=hide (hk.below hwX)
 have HWX:=hide hwX
 have IH:=hide ih
 have HC:=hide hc
 have hoth:=fun (W:World)=>other_any op W
 have e1:(op == 1)=false:=by simp [no1]
 have e2:(op == 2)=false:=by simp [no2]
 have mixed:Try.prog.follows .mixedOrders=true:=by kernel_rfl
 have XR:∃ P0:World→Nat→Prop,True:=⟨fun _ _=>True,trivial⟩
 clear hk ih hc hwX XR
 have start:∀ (W:World),W=X.alloc (.cells #[.int .i64 0,.string ⟨#[]⟩,.slice none 0 0,.slice none 0 0,.int .i64 0,.int .i64 0,.int .i64 op2,.slice none 0 0] 28)→(OwnK encV 28 8 (X.heap.size + 1) W none 0 []∧OffP (X.heap.size + 1) (FromIn (X.heap.size + 1) (downL kids neg) []) (Value.slice none 0 0).ownBlock W∧(W.cell? ⟨X.heap.size,0,none⟩=some (.int .i64 0)∧W.cell? ⟨X.heap.size,1,none⟩=some (.string ⟨#[]⟩)∧W.cell? ⟨X.heap.size,2,none⟩=some (.slice none 0 0)∧W.cell? ⟨X.heap.size,3,none⟩=some (.slice none 0 0)∧W.cell? ⟨X.heap.size,4,none⟩=some (.int .i64 0)∧W.cell? ⟨X.heap.size,5,none⟩=some (.int .i64 0)∧W.cell? ⟨X.heap.size,6,none⟩=some (.int .i64 op2)∧W.cell? ⟨X.heap.size,7,none⟩=some (.slice none 0 0))∧(∀ o,W.frozen? ⟨X.heap.size,o,none⟩=false)∧Below X.heap.size X W∧X.heap.size < W.heap.size):=by
  intro W hW
  subst hW
  exact ⟨OwnK.nil _ _,fun w' _ _ j v x h=>by simp at h,of8' (box_nw _ _),fun o=>frozen_free (box_nw _ _),(Below.refl _ _).alloc (Nat.le_refl _) _,by simp⟩
 have HST:=hide start
 clear start
 have hXp:=hXs
 rw [hXp] at HST
 cases neg
 ·simp only [Bool.false_eq_true,if_false] at hop
  subst hop
  go_enter Try.func39,Try.ntmps39
  go_wp2
  go_loopw [36] (fun i wr=>∃ (k:Nat) (qm:Option Addr) (cm:Nat) (us:List Nv),k≤kids.length∧i=.int .i64 k∧us.length=k∧OwnK encV 28 8 ((w.heap.size + 2) + 1) wr qm cm us∧OffP ((w.heap.size + 2) + 1) (FromIn ((w.heap.size + 2) + 1) (downL kids false) us) (Value.slice qm k cm).ownBlock wr∧(wr.cell? ⟨(w.heap.size + 2),0,none⟩=some (.int .i64 0)∧wr.cell? ⟨(w.heap.size + 2),1,none⟩=some (.string ⟨#[]⟩)∧wr.cell? ⟨(w.heap.size + 2),2,none⟩=some (.slice none 0 0)∧wr.cell? ⟨(w.heap.size + 2),3,none⟩=some (.slice none 0 0)∧wr.cell? ⟨(w.heap.size + 2),4,none⟩=some (.int .i64 0)∧wr.cell? ⟨(w.heap.size + 2),5,none⟩=some (.int .i64 0)∧wr.cell? ⟨(w.heap.size + 2),6,none⟩=some (.int .i64 op)∧wr.cell? ⟨(w.heap.size + 2),7,none⟩=some (.slice qm k cm))∧(∀ o,wr.frozen? ⟨(w.heap.size + 2),o,none⟩=false)∧Below (w.heap.size + 2) X wr∧(w.heap.size + 2) < wr.heap.size) (fun i _=>kids.length - (intOf i).toNat)
  case atStart =>
   obtain ⟨p1,p2,p3,p4,p5,p6⟩:=uh HST _ rfl
   exact ⟨0,none,0,[],by omega,rfl,rfl,p1,p2,p3,p4,p5,p6⟩
  case round =>
   obtain ⟨k,qm,cm,us,hkk,rfl,hus,hown,hoff,⟨c0,c1,c2,c3x,c4,c5,c6,c7⟩,hcf,hbel,lpb⟩:=hrel
   have HO:=hide hown
   have HF:=hide hoff
   have HB:=hide hbel
   have HUS:=hide hus
   by_cases hlt:k < kids.length
   ·obtain ⟨x,hx,hxd⟩:=get_at hlt
    clear hxd
    have bwr:Below X.heap.size X wr:=by rw [hXp];exact hbel
    obtain ⟨b,off,v,hq,hin,g0,g1,g2,g3,g4,g5,g6,g7⟩:=(uh HK).on hx bwr
    subst hq
    have hxm:x ∈ kids:=List.mem_of_getElem? hx
    have hxw:=wtL_mem hxm
    have ki0:(0:Int)≤(k:Int):=by omega
    have ki1:(k:Int) < (kids.length:Int):=by omega
    obtain ⟨Z,HZ⟩:∃ Z,wr.alloc (.cells #[.int .i64 v.kind,.string v.attr,.slice v.qi v.ni v.ci,.slice v.qw v.nw v.cw,.int .i64 v.lo,.int .i64 v.hi,.int .i64 v.op,.slice v.qk v.nk v.ck] 28)=Z:=⟨_,rfl⟩
    have bZ:Below wr.heap.size wr Z:=by rw [← HZ];exact (Below.refl _ _).alloc (Nat.le_refl _) _
    have zk:Z.heap[wr.heap.size]? = some (.cells #[.int .i64 v.kind,.string v.attr,.slice v.qi v.ni v.ci,.slice v.qw v.nw v.cw,.int .i64 v.lo,.int .i64 v.hi,.int .i64 v.op,.slice v.qk v.nk v.ck] 28 (0,0)):=by rw [← HZ];exact box_nw _ _
    have sZ:Z.heap.size=wr.heap.size + 1:=by rw [← HZ];simp
    have KS2:∀ W:World,(∀ o,W.cell? ⟨wr.heap.size,o,none⟩=Z.cell? ⟨wr.heap.size,o,none⟩)→(fun w'=>w'.cell? ⟨wr.heap.size,0,none⟩=some (.int .i64 v.kind)∧w'.cell? ⟨wr.heap.size,1,none⟩=some (.string v.attr)∧w'.cell? ⟨wr.heap.size,2,none⟩=some (.slice v.qi v.ni v.ci)∧w'.cell? ⟨wr.heap.size,3,none⟩=some (.slice v.qw v.nw v.cw)∧w'.cell? ⟨wr.heap.size,4,none⟩=some (.int .i64 v.lo)∧w'.cell? ⟨wr.heap.size,5,none⟩=some (.int .i64 v.hi)∧w'.cell? ⟨wr.heap.size,6,none⟩=some (.int .i64 v.op)∧w'.cell? ⟨wr.heap.size,7,none⟩=some (.slice v.qk v.nk v.ck)) W:=fun W hb=>by
     obtain ⟨a0,a1,a2,a3,a4,a5,a6,a7⟩:=of8' zk
     exact ⟨(hb 0).trans a0,(hb 1).trans a1,(hb 2).trans a2,(hb 3).trans a3,(hb 4).trans a4,(hb 5).trans a5,(hb 6).trans a6,(hb 7).trans a7⟩
    have E0:∀ o,Z.drew.cell? ⟨wr.heap.size,o,none⟩=Z.cell? ⟨wr.heap.size,o,none⟩:=fun o=>rfl
    obtain ⟨f0,f1,f2,f3,f4,f5,f6,f7⟩:=KS2 Z (fun o=>rfl)
    have q7:Z.cell? ⟨(w.heap.size + 2),7,none⟩=some (.slice qm k cm):=(bZ.cell (p:=⟨(w.heap.size + 2),7,none⟩) (by exact lpb)).trans c7
    have hNd:=uh IH x hxm false v Z.drew ((hin.keep bZ).keep (Below.refl _ _).drew) (uh HC x hxm) (by omega)
    simp only [Nv.val] at hNd
    have HDK:=hide (downL_at false hx)
    have HO2:=hide (hown.below bZ)
    have HLT:=hide (hown.ownLt hus)
    have HGE:=hide (hown.ownGe hus)
    have hkm:k + 1≤maxLen:=by unfold maxLen;omega
    have hkb:(k + 1) * 120≤140737488355328:=by omega
    have nn1:¬ wr.heap.size=(w.heap.size + 2):=by omega
    clear hin hx hxm hown hoff hbel hus zk
    go_wp2
    refine wp_region_held_drew (S:=fun w'=>w'.cell? ⟨wr.heap.size,0,none⟩=some (.int .i64 v.kind)∧w'.cell? ⟨wr.heap.size,1,none⟩=some (.string v.attr)∧w'.cell? ⟨wr.heap.size,2,none⟩=some (.slice v.qi v.ni v.ci)∧w'.cell? ⟨wr.heap.size,3,none⟩=some (.slice v.qw v.nw v.cw)∧w'.cell? ⟨wr.heap.size,4,none⟩=some (.int .i64 v.lo)∧w'.cell? ⟨wr.heap.size,5,none⟩=some (.int .i64 v.hi)∧w'.cell? ⟨wr.heap.size,6,none⟩=some (.int .i64 v.op)∧w'.cell? ⟨wr.heap.size,7,none⟩=some (.slice v.qk v.nk v.ck)) (by kernel_rfl) (KS2 _ E0) (fun hHeld=>?_)
    refine wpAnyH_take (i:=0) (oi:=⟨some 40,.fieldAddr 28 (.tmp 5) 2,_,_,_,none⟩) (v:=?_) rfl (by kernel_rfl) (by kernel_rfl) (by kernel_rfl) (fun _ _ _ h=>h) (Or.inl ⟨by rfl, ?_⟩) (by assumption) ?_
    rotate_left
    ·intro wq hSw
     go_simp
     with_reducible rfl
    simp only [Act.put,List.setIfInBounds_toArray,List.set_cons_zero,List.set_cons_succ]
    refine wpAnyH_take (i:=2) (oi:=⟨some 42,.load 28 (.tmp 7),_,_,_,none⟩) (v:=?_) rfl (by kernel_rfl) (by kernel_rfl) (by kernel_rfl) (fun _ _ _ h=>h) (Or.inl ⟨by rfl, ?_⟩) (by assumption) ?_
    rotate_left
    ·intro wq hSw
     go_simp
     with_reducible rfl
    simp only [Act.put,List.setIfInBounds_toArray,List.set_cons_zero,List.set_cons_succ]
    refine wpAnyH_take (i:=3) (oi:=⟨some 43,.move (.tmp 1),_,_,_,none⟩) (v:=?_) rfl (by kernel_rfl) (by kernel_rfl) (by kernel_rfl) (fun _ _ _ h=>h) (Or.inl ⟨by rfl, ?_⟩) (by assumption) ?_
    rotate_left
    ·intro wq hSw
     go_simp
     with_reducible rfl
    simp only [Act.put,List.setIfInBounds_toArray,List.set_cons_zero,List.set_cons_succ]
    refine wpAnyH_ready (rs:=[1,4]) (by kernel_rfl) (by simp) ?_
    refine AllReadyH.cons (o:=⟨some 41,.load 26 (.tmp 40),_,_,_,none⟩) rfl (fun K hK=>?_) ?_
    ·go_simp
     refine hK.out _ _ (KS2 _ E0) (fun hHeld=>?_)
     clear hK K
     refine wpAnyH_ready (rs:=[4]) (by kernel_rfl) (by simp) ?_
     refine AllReadyH.cons (o:=⟨some 44,.call { callee:=.value (.func 39),args:=#[.tmp 42,.tmp 43],argTypes:=#[28,4] },_,_,_,none⟩) rfl (fun K hK=>?_) ?_
     ·go_simp
      refine hNd.mono ?_
      rintro e w2 ⟨⟨u,rfl,hu⟩,hb2⟩
      simp only [Nv.val]
      have R3:Below Z.heap.size Z w2:=below_undrewM hb2
      have s2:=R3.size
      have E2:∀ o,w2.cell? ⟨wr.heap.size,o,none⟩=Z.cell? ⟨wr.heap.size,o,none⟩:=fun o=>R3.cell (p:=⟨wr.heap.size,o,none⟩) (by simp only;omega)
      have m7:w2.cell? ⟨(w.heap.size + 2),7,none⟩=some (.slice qm k cm):=(R3.cell (p:=⟨(w.heap.size + 2),7,none⟩) (by simp only;omega)).trans q7
      have lm2:(w.heap.size + 2) < w2.heap.size:=by omega
      have nm2:¬ (w.heap.size + 2)=w2.heap.size:=by omega
      have E2a:∀ o,(w2.alloc (.cells #[.int .i64 u.kind,.string u.attr,.slice u.qi u.ni u.ci,.slice u.qw u.nw u.cw,.int .i64 u.lo,.int .i64 u.hi,.int .i64 u.op,.slice u.qk u.nk u.ck] 28)).cell? ⟨wr.heap.size,o,none⟩=Z.cell? ⟨wr.heap.size,o,none⟩:=fun o=>(((Below.refl w2.heap.size w2).alloc (Nat.le_refl _) _).cell (p:=⟨wr.heap.size,o,none⟩) (by simp only;omega)).trans (E2 o)
      have HU:=hide hu
      clear hu hb2
      refine hK.out _ _ (KS2 _ E2) (fun hHeld=>?_)
      clear hK K
      refine wpAnyH_ready (rs:=[5]) (by kernel_rfl) (by simp) ?_
      refine AllReadyH.cons (o:=⟨some 45,.buildSlice 26 1 #[(0,.tmp 44)],_,_,_,none⟩) rfl (fun K hK=>?_) ?_
      ·go_simp
       refine hK.out _ _ (KS2 _ E2a) (fun hHeld=>?_)
       clear hK K
       refine wpAnyH_ready (rs:=[6]) (by kernel_rfl) (by simp) ?_
       refine AllReadyH.cons (o:=⟨some 46,.call { callee:=.builtin .append,args:=#[.tmp 41,.tmp 45],argTypes:=#[26,26] },_,_,_,none⟩) rfl (fun K hK=>?_) ?_
       ·refine step_appG rowV (by rfl) (.tmp 41) (.tmp 45) (by rfl) ((w.heap.size + 2) + 1) qm cm us ⟨w2.heap.size,0,none⟩ 1 [u] k 1 (k + 1) (uh HUS) rfl rfl (by rfl) (by rfl) (((uh HO2).below R3).below ((Below.refl _ _).alloc (Nat.le_refl _) _)) (node_src (box_nw _ _)) hkm hkb (by simp only [size_al];omega) ?_
        intro q3 c3 w3 ho3 hb3 hg3 hor3
        have s3:=hg3.size
        simp only [size_al] at s3
        have E3:∀ o,w3.cell? ⟨wr.heap.size,o,none⟩=Z.cell? ⟨wr.heap.size,o,none⟩:=fun o=>(World.cell?_of_block (w:=w2.alloc (.cells #[.int .i64 u.kind,.string u.attr,.slice u.qi u.ni u.ci,.slice u.qw u.nw u.cw,.int .i64 u.lo,.int .i64 u.hi,.int .i64 u.op,.slice u.qk u.nk u.ck] 28)) (a:=⟨wr.heap.size,o,none⟩) (hg3.block wr.heap.size (by simp only [size_al];omega) (fun e=>by have:=uh HLT _ e.symm;omega))).trans (E2a o)
        have hp3:w3.heap[(w.heap.size + 2)]? = wr.heap[(w.heap.size + 2)]?:=(hg3.block (w.heap.size + 2) (by simp only [size_al];omega) (fun e=>by have:=uh HGE _ e.symm;omega)).trans ((((Below.refl w2.heap.size w2).alloc (Nat.le_refl _) _).block (w.heap.size + 2) lm2).trans ((R3.block (w.heap.size + 2) (by omega)).trans (bZ.block (w.heap.size + 2) (by omega))))
        have n7:w3.cell? ⟨(w.heap.size + 2),7,none⟩=some (.slice qm k cm):=(World.cell?_of_block (w:=wr) (a:=⟨(w.heap.size + 2),7,none⟩) hp3).trans c7
        have nf:∀ o,w3.frozen? ⟨(w.heap.size + 2),o,none⟩=false:=fun o=>(World.frozen?_of_block (w:=wr) (a:=⟨(w.heap.size + 2),o,none⟩) hp3).trans (hcf o)
        have HO3:=hide ho3
        have HG3:=hide hg3
        have HR3:=hide hor3
        have HP3:=hide hp3
        clear ho3 hb3 hg3 hor3 hp3
        refine hK.out _ _ (KS2 _ E3) (fun hHeld=>?_)
        clear hK K
        refine wpAnyH_take (i:=7) (oi:=⟨some 47,.fieldAddr 28 (.tmp 5) 2,_,_,_,none⟩) (v:=?_) rfl (by kernel_rfl) (by kernel_rfl) (by kernel_rfl) (fun _ _ _ h=>h) (Or.inl ⟨by rfl, ?_⟩) (by assumption) ?_
        rotate_left
        ·intro wq hSw
         go_simp
         with_reducible rfl
        simp only [Act.put,List.setIfInBounds_toArray,List.set_cons_zero,List.set_cons_succ]
        refine wpAnyH_ready (rs:=[8]) (by kernel_rfl) (by simp) ?_
        refine AllReadyH.cons (o:=⟨none,.store 26 (.tmp 47) (.tmp 46),_,_,_,none⟩) rfl (fun K hK=>?_) ?_
        ·go_simp
         refine hK.out _ _ (KS2 _ (fun o=>(set_other _ (by omega) o 7 _).trans (E3 o))) (fun hHeld=>?_)
         clear hK K
         refine wpAnyH_done (by kernel_rfl) ?_ _
         have P4:=hide (down_round (uh HB) bZ R3 (uh HO) (uh HF) (uh HU) (uh HDK) (uh HUS) (uh HG3) (uh HR3) (uh HO3) (uh HP3) lpb n7)
         have hl4:(us ++ [u]).length=k + 1:=by rw [List.length_append,uh HUS];rfl
         have K0:=hide (show _∧_∧_∧_∧_∧_∧_ from ⟨c0,c1,c2,c3x,c4,c5,c6⟩)
         go_wp2
         go_roundw
         case rel =>
          obtain ⟨p1,p2,p3,p4,p5,p6,p7⟩:=uh P4
          obtain ⟨c0,c1,c2,c3x,c4,c5,c6⟩:=uh K0
          exact ⟨k + 1,q3,c3,us ++ [u],by omega,by go_num,hl4,p1,p2,⟨(p3 0 (by omega)).trans c0,(p3 1 (by omega)).trans c1,(p3 2 (by omega)).trans c2,(p3 3 (by omega)).trans c3x,(p3 4 (by omega)).trans c4,(p3 5 (by omega)).trans c5,(p3 6 (by omega)).trans c6,p4⟩,fun o=>(p5 o).trans (hcf o),p6,p7⟩
         case measure=>simp [intOf];omega
        exact AllReadyH.nil
       exact AllReadyH.nil
      exact AllReadyH.nil
     exact AllReadyH.nil
    refine AllReadyH.cons (o:=⟨some 44,.call { callee:=.value (.func 39),args:=#[.tmp 42,.tmp 43],argTypes:=#[28,4] },_,_,_,none⟩) rfl (fun K hK=>?_) ?_
    ·go_simp
     refine hNd.mono ?_
     rintro e w2 ⟨⟨u,rfl,hu⟩,hb2⟩
     simp only [Nv.val]
     have R3:Below Z.heap.size Z w2:=below_undrewM hb2
     have s2:=R3.size
     have E2:∀ o,w2.cell? ⟨wr.heap.size,o,none⟩=Z.cell? ⟨wr.heap.size,o,none⟩:=fun o=>R3.cell (p:=⟨wr.heap.size,o,none⟩) (by simp only;omega)
     have m7:w2.cell? ⟨(w.heap.size + 2),7,none⟩=some (.slice qm k cm):=(R3.cell (p:=⟨(w.heap.size + 2),7,none⟩) (by simp only;omega)).trans q7
     have lm2:(w.heap.size + 2) < w2.heap.size:=by omega
     have nm2:¬ (w.heap.size + 2)=w2.heap.size:=by omega
     have E2a:∀ o,(w2.alloc (.cells #[.int .i64 u.kind,.string u.attr,.slice u.qi u.ni u.ci,.slice u.qw u.nw u.cw,.int .i64 u.lo,.int .i64 u.hi,.int .i64 u.op,.slice u.qk u.nk u.ck] 28)).cell? ⟨wr.heap.size,o,none⟩=Z.cell? ⟨wr.heap.size,o,none⟩:=fun o=>(((Below.refl w2.heap.size w2).alloc (Nat.le_refl _) _).cell (p:=⟨wr.heap.size,o,none⟩) (by simp only;omega)).trans (E2 o)
     have HU:=hide hu
     clear hu hb2
     refine hK.out _ _ (KS2 _ E2) (fun hHeld=>?_)
     clear hK K
     refine wpAnyH_ready (rs:=[1,5]) (by kernel_rfl) (by simp) ?_
     refine AllReadyH.cons (o:=⟨some 41,.load 26 (.tmp 40),_,_,_,none⟩) rfl (fun K hK=>?_) ?_
     ·go_simp
      refine hK.out _ _ (KS2 _ E2) (fun hHeld=>?_)
      clear hK K
      refine wpAnyH_ready (rs:=[5]) (by kernel_rfl) (by simp) ?_
      refine AllReadyH.cons (o:=⟨some 45,.buildSlice 26 1 #[(0,.tmp 44)],_,_,_,none⟩) rfl (fun K hK=>?_) ?_
      ·go_simp
       refine hK.out _ _ (KS2 _ E2a) (fun hHeld=>?_)
       clear hK K
       refine wpAnyH_ready (rs:=[6]) (by kernel_rfl) (by simp) ?_
       refine AllReadyH.cons (o:=⟨some 46,.call { callee:=.builtin .append,args:=#[.tmp 41,.tmp 45],argTypes:=#[26,26] },_,_,_,none⟩) rfl (fun K hK=>?_) ?_
       ·refine step_appG rowV (by rfl) (.tmp 41) (.tmp 45) (by rfl) ((w.heap.size + 2) + 1) qm cm us ⟨w2.heap.size,0,none⟩ 1 [u] k 1 (k + 1) (uh HUS) rfl rfl (by rfl) (by rfl) (((uh HO2).below R3).below ((Below.refl _ _).alloc (Nat.le_refl _) _)) (node_src (box_nw _ _)) hkm hkb (by simp only [size_al];omega) ?_
        intro q3 c3 w3 ho3 hb3 hg3 hor3
        have s3:=hg3.size
        simp only [size_al] at s3
        have E3:∀ o,w3.cell? ⟨wr.heap.size,o,none⟩=Z.cell? ⟨wr.heap.size,o,none⟩:=fun o=>(World.cell?_of_block (w:=w2.alloc (.cells #[.int .i64 u.kind,.string u.attr,.slice u.qi u.ni u.ci,.slice u.qw u.nw u.cw,.int .i64 u.lo,.int .i64 u.hi,.int .i64 u.op,.slice u.qk u.nk u.ck] 28)) (a:=⟨wr.heap.size,o,none⟩) (hg3.block wr.heap.size (by simp only [size_al];omega) (fun e=>by have:=uh HLT _ e.symm;omega))).trans (E2a o)
        have hp3:w3.heap[(w.heap.size + 2)]? = wr.heap[(w.heap.size + 2)]?:=(hg3.block (w.heap.size + 2) (by simp only [size_al];omega) (fun e=>by have:=uh HGE _ e.symm;omega)).trans ((((Below.refl w2.heap.size w2).alloc (Nat.le_refl _) _).block (w.heap.size + 2) lm2).trans ((R3.block (w.heap.size + 2) (by omega)).trans (bZ.block (w.heap.size + 2) (by omega))))
        have n7:w3.cell? ⟨(w.heap.size + 2),7,none⟩=some (.slice qm k cm):=(World.cell?_of_block (w:=wr) (a:=⟨(w.heap.size + 2),7,none⟩) hp3).trans c7
        have nf:∀ o,w3.frozen? ⟨(w.heap.size + 2),o,none⟩=false:=fun o=>(World.frozen?_of_block (w:=wr) (a:=⟨(w.heap.size + 2),o,none⟩) hp3).trans (hcf o)
        have HO3:=hide ho3
        have HG3:=hide hg3
        have HR3:=hide hor3
        have HP3:=hide hp3
        clear ho3 hb3 hg3 hor3 hp3
        refine hK.out _ _ (KS2 _ E3) (fun hHeld=>?_)
        clear hK K
        refine wpAnyH_take (i:=7) (oi:=⟨some 47,.fieldAddr 28 (.tmp 5) 2,_,_,_,none⟩) (v:=?_) rfl (by kernel_rfl) (by kernel_rfl) (by kernel_rfl) (fun _ _ _ h=>h) (Or.inl ⟨by rfl, ?_⟩) (by assumption) ?_
        rotate_left
        ·intro wq hSw
         go_simp
         with_reducible rfl
        simp only [Act.put,List.setIfInBounds_toArray,List.set_cons_zero,List.set_cons_succ]
        refine wpAnyH_ready (rs:=[8]) (by kernel_rfl) (by simp) ?_
        refine AllReadyH.cons (o:=⟨none,.store 26 (.tmp 47) (.tmp 46),_,_,_,none⟩) rfl (fun K hK=>?_) ?_
        ·go_simp
         refine hK.out _ _ (KS2 _ (fun o=>(set_other _ (by omega) o 7 _).trans (E3 o))) (fun hHeld=>?_)
         clear hK K
         refine wpAnyH_done (by kernel_rfl) ?_ _
         have P4:=hide (down_round (uh HB) bZ R3 (uh HO) (uh HF) (uh HU) (uh HDK) (uh HUS) (uh HG3) (uh HR3) (uh HO3) (uh HP3) lpb n7)
         have hl4:(us ++ [u]).length=k + 1:=by rw [List.length_append,uh HUS];rfl
         have K0:=hide (show _∧_∧_∧_∧_∧_∧_ from ⟨c0,c1,c2,c3x,c4,c5,c6⟩)
         go_wp2
         go_roundw
         case rel =>
          obtain ⟨p1,p2,p3,p4,p5,p6,p7⟩:=uh P4
          obtain ⟨c0,c1,c2,c3x,c4,c5,c6⟩:=uh K0
          exact ⟨k + 1,q3,c3,us ++ [u],by omega,by go_num,hl4,p1,p2,⟨(p3 0 (by omega)).trans c0,(p3 1 (by omega)).trans c1,(p3 2 (by omega)).trans c2,(p3 3 (by omega)).trans c3x,(p3 4 (by omega)).trans c4,(p3 5 (by omega)).trans c5,(p3 6 (by omega)).trans c6,p4⟩,fun o=>(p5 o).trans (hcf o),p6,p7⟩
         case measure=>simp [intOf];omega
        exact AllReadyH.nil
       exact AllReadyH.nil
      exact AllReadyH.nil
     refine AllReadyH.cons (o:=⟨some 45,.buildSlice 26 1 #[(0,.tmp 44)],_,_,_,none⟩) rfl (fun K hK=>?_) ?_
     ·go_simp
      refine hK.out _ _ (KS2 _ E2a) (fun hHeld=>?_)
      clear hK K
      refine wpAnyH_ready (rs:=[1]) (by kernel_rfl) (by simp) ?_
      refine AllReadyH.cons (o:=⟨some 41,.load 26 (.tmp 40),_,_,_,none⟩) rfl (fun K hK=>?_) ?_
      ·go_simp
       refine hK.out _ _ (KS2 _ E2a) (fun hHeld=>?_)
       clear hK K
       refine wpAnyH_ready (rs:=[6]) (by kernel_rfl) (by simp) ?_
       refine AllReadyH.cons (o:=⟨some 46,.call { callee:=.builtin .append,args:=#[.tmp 41,.tmp 45],argTypes:=#[26,26] },_,_,_,none⟩) rfl (fun K hK=>?_) ?_
       ·refine step_appG rowV (by rfl) (.tmp 41) (.tmp 45) (by rfl) ((w.heap.size + 2) + 1) qm cm us ⟨w2.heap.size,0,none⟩ 1 [u] k 1 (k + 1) (uh HUS) rfl rfl (by rfl) (by rfl) (((uh HO2).below R3).below ((Below.refl _ _).alloc (Nat.le_refl _) _)) (node_src (box_nw _ _)) hkm hkb (by simp only [size_al];omega) ?_
        intro q3 c3 w3 ho3 hb3 hg3 hor3
        have s3:=hg3.size
        simp only [size_al] at s3
        have E3:∀ o,w3.cell? ⟨wr.heap.size,o,none⟩=Z.cell? ⟨wr.heap.size,o,none⟩:=fun o=>(World.cell?_of_block (w:=w2.alloc (.cells #[.int .i64 u.kind,.string u.attr,.slice u.qi u.ni u.ci,.slice u.qw u.nw u.cw,.int .i64 u.lo,.int .i64 u.hi,.int .i64 u.op,.slice u.qk u.nk u.ck] 28)) (a:=⟨wr.heap.size,o,none⟩) (hg3.block wr.heap.size (by simp only [size_al];omega) (fun e=>by have:=uh HLT _ e.symm;omega))).trans (E2a o)
        have hp3:w3.heap[(w.heap.size + 2)]? = wr.heap[(w.heap.size + 2)]?:=(hg3.block (w.heap.size + 2) (by simp only [size_al];omega) (fun e=>by have:=uh HGE _ e.symm;omega)).trans ((((Below.refl w2.heap.size w2).alloc (Nat.le_refl _) _).block (w.heap.size + 2) lm2).trans ((R3.block (w.heap.size + 2) (by omega)).trans (bZ.block (w.heap.size + 2) (by omega))))
        have n7:w3.cell? ⟨(w.heap.size + 2),7,none⟩=some (.slice qm k cm):=(World.cell?_of_block (w:=wr) (a:=⟨(w.heap.size + 2),7,none⟩) hp3).trans c7
        have nf:∀ o,w3.frozen? ⟨(w.heap.size + 2),o,none⟩=false:=fun o=>(World.frozen?_of_block (w:=wr) (a:=⟨(w.heap.size + 2),o,none⟩) hp3).trans (hcf o)
        have HO3:=hide ho3
        have HG3:=hide hg3
        have HR3:=hide hor3
        have HP3:=hide hp3
        clear ho3 hb3 hg3 hor3 hp3
        refine hK.out _ _ (KS2 _ E3) (fun hHeld=>?_)
        clear hK K
        refine wpAnyH_take (i:=7) (oi:=⟨some 47,.fieldAddr 28 (.tmp 5) 2,_,_,_,none⟩) (v:=?_) rfl (by kernel_rfl) (by kernel_rfl) (by kernel_rfl) (fun _ _ _ h=>h) (Or.inl ⟨by rfl, ?_⟩) (by assumption) ?_
        rotate_left
        ·intro wq hSw
         go_simp
         with_reducible rfl
        simp only [Act.put,List.setIfInBounds_toArray,List.set_cons_zero,List.set_cons_succ]
        refine wpAnyH_ready (rs:=[8]) (by kernel_rfl) (by simp) ?_
        refine AllReadyH.cons (o:=⟨none,.store 26 (.tmp 47) (.tmp 46),_,_,_,none⟩) rfl (fun K hK=>?_) ?_
        ·go_simp
         refine hK.out _ _ (KS2 _ (fun o=>(set_other _ (by omega) o 7 _).trans (E3 o))) (fun hHeld=>?_)
         clear hK K
         refine wpAnyH_done (by kernel_rfl) ?_ _
         have P4:=hide (down_round (uh HB) bZ R3 (uh HO) (uh HF) (uh HU) (uh HDK) (uh HUS) (uh HG3) (uh HR3) (uh HO3) (uh HP3) lpb n7)
         have hl4:(us ++ [u]).length=k + 1:=by rw [List.length_append,uh HUS];rfl
         have K0:=hide (show _∧_∧_∧_∧_∧_∧_ from ⟨c0,c1,c2,c3x,c4,c5,c6⟩)
         go_wp2
         go_roundw
         case rel =>
          obtain ⟨p1,p2,p3,p4,p5,p6,p7⟩:=uh P4
          obtain ⟨c0,c1,c2,c3x,c4,c5,c6⟩:=uh K0
          exact ⟨k + 1,q3,c3,us ++ [u],by omega,by go_num,hl4,p1,p2,⟨(p3 0 (by omega)).trans c0,(p3 1 (by omega)).trans c1,(p3 2 (by omega)).trans c2,(p3 3 (by omega)).trans c3x,(p3 4 (by omega)).trans c4,(p3 5 (by omega)).trans c5,(p3 6 (by omega)).trans c6,p4⟩,fun o=>(p5 o).trans (hcf o),p6,p7⟩
         case measure=>simp [intOf];omega
        exact AllReadyH.nil
       exact AllReadyH.nil
      exact AllReadyH.nil
     exact AllReadyH.nil
    exact AllReadyH.nil
   ·have hkl:k=kids.length:=by omega
    subst hkl
    have ki1:¬ (kids.length:Int) < (kids.length:Int):=by omega
    have bwr:Below X.heap.size X wr:=by rw [hXp];exact hbel
    have hz1:w.heap.size + 1 < X.heap.size:=by omega
    have r0:=(bwr.cell (p:=⟨w.heap.size + 1,0,none⟩) (by exact hz1)).trans y0
    have r1:=(bwr.cell (p:=⟨w.heap.size + 1,1,none⟩) (by exact hz1)).trans y1
    have r2:=(bwr.cell (p:=⟨w.heap.size + 1,2,none⟩) (by exact hz1)).trans y2
    have r3:=(bwr.cell (p:=⟨w.heap.size + 1,3,none⟩) (by exact hz1)).trans y3
    have r4:=(bwr.cell (p:=⟨w.heap.size + 1,4,none⟩) (by exact hz1)).trans y4
    have r5:=(bwr.cell (p:=⟨w.heap.size + 1,5,none⟩) (by exact hz1)).trans y5
    have r6:=(bwr.cell (p:=⟨w.heap.size + 1,6,none⟩) (by exact hz1)).trans y6
    have r7:=(bwr.cell (p:=⟨w.heap.size + 1,7,none⟩) (by exact hz1)).trans y7
    have rf:∀ o,wr.frozen? ⟨w.heap.size + 1,o,none⟩=false:=fun o=>(bwr.frozen (by exact hz1)).trans (yf o)
    have rz:w.heap.size + 1 < wr.heap.size:=by omega
    have BF:=hide (set8_below (g:=w.heap.size + 1) (below_sub (uh HWX) bwr) (Nat.le_succ _) (.int .i64 0) (.string ⟨#[]⟩) (.slice none 0 0) (.slice none 0 0) (.int .i64 0) (.int .i64 0) (.int .i64 op) (.slice qm kids.length cm))
    have NF:=hide (down_fin (op:=op) (uh HO) hoff.now (by rw [downL_len];exact hus) (downL_len kids false) (set8_up (B:=(w.heap.size + 2) + 1) (g:=w.heap.size + 1) wr (by omega) (.int .i64 0) (.string ⟨#[]⟩) (.slice none 0 0) (.slice none 0 0) (.int .i64 0) (.int .i64 0) (.int .i64 op) (.slice qm kids.length cm)))
    clear hown hoff hbel bwr hus x0 x1 x2 x3 x4 x5 x6 x7 y0 y1 y2 y3 y4 y5 y6 y7
    go_wp2
    refine bodyPost_ret (v:=.agg #[.int .i64 0,.string ⟨#[]⟩,.slice none 0 0,.slice none 0 0,.int .i64 0,.int .i64 0,.int .i64 op,.slice qm kids.length cm]) (by simp [results,Try.results39,go_sem, *]) rfl ⟨⟨⟨0,⟨#[]⟩,none,0,0,none,0,0,0,0,op,qm,kids.length,cm⟩,rfl,(uh NF).mono (by omega)⟩,uh BF⟩
 ·simp only [if_true] at hop
  skip
  go_enter Try.func39,Try.ntmps39
  go_wp2_with (go_at_call 61;refine (hoth _).mono ?_;rintro e w9 ⟨rfl,hw9⟩;subst hw9;rw [hop])
  go_loopw [36] (fun i wr=>∃ (k:Nat) (qm:Option Addr) (cm:Nat) (us:List Nv),k≤kids.length∧i=.int .i64 k∧us.length=k∧OwnK encV 28 8 ((w.heap.size + 2) + 1) wr qm cm us∧OffP ((w.heap.size + 2) + 1) (FromIn ((w.heap.size + 2) + 1) (downL kids true) us) (Value.slice qm k cm).ownBlock wr∧(wr.cell? ⟨(w.heap.size + 2),0,none⟩=some (.int .i64 0)∧wr.cell? ⟨(w.heap.size + 2),1,none⟩=some (.string ⟨#[]⟩)∧wr.cell? ⟨(w.heap.size + 2),2,none⟩=some (.slice none 0 0)∧wr.cell? ⟨(w.heap.size + 2),3,none⟩=some (.slice none 0 0)∧wr.cell? ⟨(w.heap.size + 2),4,none⟩=some (.int .i64 0)∧wr.cell? ⟨(w.heap.size + 2),5,none⟩=some (.int .i64 0)∧wr.cell? ⟨(w.heap.size + 2),6,none⟩=some (.int .i64 op2)∧wr.cell? ⟨(w.heap.size + 2),7,none⟩=some (.slice qm k cm))∧(∀ o,wr.frozen? ⟨(w.heap.size + 2),o,none⟩=false)∧Below (w.heap.size + 2) X wr∧(w.heap.size + 2) < wr.heap.size) (fun i _=>kids.length - (intOf i).toNat)
  case atStart =>
   obtain ⟨p1,p2,p3,p4,p5,p6⟩:=uh HST _ rfl
   exact ⟨0,none,0,[],by omega,rfl,rfl,p1,p2,p3,p4,p5,p6⟩
  case round =>
   obtain ⟨k,qm,cm,us,hkk,rfl,hus,hown,hoff,⟨c0,c1,c2,c3x,c4,c5,c6,c7⟩,hcf,hbel,lpb⟩:=hrel
   have HO:=hide hown
   have HF:=hide hoff
   have HB:=hide hbel
   have HUS:=hide hus
   by_cases hlt:k < kids.length
   ·obtain ⟨x,hx,hxd⟩:=get_at hlt
    clear hxd
    have bwr:Below X.heap.size X wr:=by rw [hXp];exact hbel
    obtain ⟨b,off,v,hq,hin,g0,g1,g2,g3,g4,g5,g6,g7⟩:=(uh HK).on hx bwr
    subst hq
    have hxm:x ∈ kids:=List.mem_of_getElem? hx
    have hxw:=wtL_mem hxm
    have ki0:(0:Int)≤(k:Int):=by omega
    have ki1:(k:Int) < (kids.length:Int):=by omega
    obtain ⟨Z,HZ⟩:∃ Z,wr.alloc (.cells #[.int .i64 v.kind,.string v.attr,.slice v.qi v.ni v.ci,.slice v.qw v.nw v.cw,.int .i64 v.lo,.int .i64 v.hi,.int .i64 v.op,.slice v.qk v.nk v.ck] 28)=Z:=⟨_,rfl⟩
    have bZ:Below wr.heap.size wr Z:=by rw [← HZ];exact (Below.refl _ _).alloc (Nat.le_refl _) _
    have zk:Z.heap[wr.heap.size]? = some (.cells #[.int .i64 v.kind,.string v.attr,.slice v.qi v.ni v.ci,.slice v.qw v.nw v.cw,.int .i64 v.lo,.int .i64 v.hi,.int .i64 v.op,.slice v.qk v.nk v.ck] 28 (0,0)):=by rw [← HZ];exact box_nw _ _
    have sZ:Z.heap.size=wr.heap.size + 1:=by rw [← HZ];simp
    have KS2:∀ W:World,(∀ o,W.cell? ⟨wr.heap.size,o,none⟩=Z.cell? ⟨wr.heap.size,o,none⟩)→(fun w'=>w'.cell? ⟨wr.heap.size,0,none⟩=some (.int .i64 v.kind)∧w'.cell? ⟨wr.heap.size,1,none⟩=some (.string v.attr)∧w'.cell? ⟨wr.heap.size,2,none⟩=some (.slice v.qi v.ni v.ci)∧w'.cell? ⟨wr.heap.size,3,none⟩=some (.slice v.qw v.nw v.cw)∧w'.cell? ⟨wr.heap.size,4,none⟩=some (.int .i64 v.lo)∧w'.cell? ⟨wr.heap.size,5,none⟩=some (.int .i64 v.hi)∧w'.cell? ⟨wr.heap.size,6,none⟩=some (.int .i64 v.op)∧w'.cell? ⟨wr.heap.size,7,none⟩=some (.slice v.qk v.nk v.ck)) W:=fun W hb=>by
     obtain ⟨a0,a1,a2,a3,a4,a5,a6,a7⟩:=of8' zk
     exact ⟨(hb 0).trans a0,(hb 1).trans a1,(hb 2).trans a2,(hb 3).trans a3,(hb 4).trans a4,(hb 5).trans a5,(hb 6).trans a6,(hb 7).trans a7⟩
    have E0:∀ o,Z.drew.cell? ⟨wr.heap.size,o,none⟩=Z.cell? ⟨wr.heap.size,o,none⟩:=fun o=>rfl
    obtain ⟨f0,f1,f2,f3,f4,f5,f6,f7⟩:=KS2 Z (fun o=>rfl)
    have q7:Z.cell? ⟨(w.heap.size + 2),7,none⟩=some (.slice qm k cm):=(bZ.cell (p:=⟨(w.heap.size + 2),7,none⟩) (by exact lpb)).trans c7
    have hNd:=uh IH x hxm true v Z.drew ((hin.keep bZ).keep (Below.refl _ _).drew) (uh HC x hxm) (by omega)
    simp only [Nv.val] at hNd
    have HDK:=hide (downL_at true hx)
    have HO2:=hide (hown.below bZ)
    have HLT:=hide (hown.ownLt hus)
    have HGE:=hide (hown.ownGe hus)
    have hkm:k + 1≤maxLen:=by unfold maxLen;omega
    have hkb:(k + 1) * 120≤140737488355328:=by omega
    have nn1:¬ wr.heap.size=(w.heap.size + 2):=by omega
    clear hin hx hxm hown hoff hbel hus zk
    go_wp2
    refine wp_region_held_drew (S:=fun w'=>w'.cell? ⟨wr.heap.size,0,none⟩=some (.int .i64 v.kind)∧w'.cell? ⟨wr.heap.size,1,none⟩=some (.string v.attr)∧w'.cell? ⟨wr.heap.size,2,none⟩=some (.slice v.qi v.ni v.ci)∧w'.cell? ⟨wr.heap.size,3,none⟩=some (.slice v.qw v.nw v.cw)∧w'.cell? ⟨wr.heap.size,4,none⟩=some (.int .i64 v.lo)∧w'.cell? ⟨wr.heap.size,5,none⟩=some (.int .i64 v.hi)∧w'.cell? ⟨wr.heap.size,6,none⟩=some (.int .i64 v.op)∧w'.cell? ⟨wr.heap.size,7,none⟩=some (.slice v.qk v.nk v.ck)) (by kernel_rfl) (KS2 _ E0) (fun hHeld=>?_)
    refine wpAnyH_take (i:=0) (oi:=⟨some 40,.fieldAddr 28 (.tmp 5) 2,_,_,_,none⟩) (v:=?_) rfl (by kernel_rfl) (by kernel_rfl) (by kernel_rfl) (fun _ _ _ h=>h) (Or.inl ⟨by rfl, ?_⟩) (by assumption) ?_
    rotate_left
    ·intro wq hSw
     go_simp
     with_reducible rfl
    simp only [Act.put,List.setIfInBounds_toArray,List.set_cons_zero,List.set_cons_succ]
    refine wpAnyH_take (i:=2) (oi:=⟨some 42,.load 28 (.tmp 7),_,_,_,none⟩) (v:=?_) rfl (by kernel_rfl) (by kernel_rfl) (by kernel_rfl) (fun _ _ _ h=>h) (Or.inl ⟨by rfl, ?_⟩) (by assumption) ?_
    rotate_left
    ·intro wq hSw
     go_simp
     with_reducible rfl
    simp only [Act.put,List.setIfInBounds_toArray,List.set_cons_zero,List.set_cons_succ]
    refine wpAnyH_take (i:=3) (oi:=⟨some 43,.move (.tmp 1),_,_,_,none⟩) (v:=?_) rfl (by kernel_rfl) (by kernel_rfl) (by kernel_rfl) (fun _ _ _ h=>h) (Or.inl ⟨by rfl, ?_⟩) (by assumption) ?_
    rotate_left
    ·intro wq hSw
     go_simp
     with_reducible rfl
    simp only [Act.put,List.setIfInBounds_toArray,List.set_cons_zero,List.set_cons_succ]
    refine wpAnyH_ready (rs:=[1,4]) (by kernel_rfl) (by simp) ?_
    refine AllReadyH.cons (o:=⟨some 41,.load 26 (.tmp 40),_,_,_,none⟩) rfl (fun K hK=>?_) ?_
    ·go_simp
     refine hK.out _ _ (KS2 _ E0) (fun hHeld=>?_)
     clear hK K
     refine wpAnyH_ready (rs:=[4]) (by kernel_rfl) (by simp) ?_
     refine AllReadyH.cons (o:=⟨some 44,.call { callee:=.value (.func 39),args:=#[.tmp 42,.tmp 43],argTypes:=#[28,4] },_,_,_,none⟩) rfl (fun K hK=>?_) ?_
     ·go_simp
      refine hNd.mono ?_
      rintro e w2 ⟨⟨u,rfl,hu⟩,hb2⟩
      simp only [Nv.val]
      have R3:Below Z.heap.size Z w2:=below_undrewM hb2
      have s2:=R3.size
      have E2:∀ o,w2.cell? ⟨wr.heap.size,o,none⟩=Z.cell? ⟨wr.heap.size,o,none⟩:=fun o=>R3.cell (p:=⟨wr.heap.size,o,none⟩) (by simp only;omega)
      have m7:w2.cell? ⟨(w.heap.size + 2),7,none⟩=some (.slice qm k cm):=(R3.cell (p:=⟨(w.heap.size + 2),7,none⟩) (by simp only;omega)).trans q7
      have lm2:(w.heap.size + 2) < w2.heap.size:=by omega
      have nm2:¬ (w.heap.size + 2)=w2.heap.size:=by omega
      have E2a:∀ o,(w2.alloc (.cells #[.int .i64 u.kind,.string u.attr,.slice u.qi u.ni u.ci,.slice u.qw u.nw u.cw,.int .i64 u.lo,.int .i64 u.hi,.int .i64 u.op,.slice u.qk u.nk u.ck] 28)).cell? ⟨wr.heap.size,o,none⟩=Z.cell? ⟨wr.heap.size,o,none⟩:=fun o=>(((Below.refl w2.heap.size w2).alloc (Nat.le_refl _) _).cell (p:=⟨wr.heap.size,o,none⟩) (by simp only;omega)).trans (E2 o)
      have HU:=hide hu
      clear hu hb2
      refine hK.out _ _ (KS2 _ E2) (fun hHeld=>?_)
      clear hK K
      refine wpAnyH_ready (rs:=[5]) (by kernel_rfl) (by simp) ?_
      refine AllReadyH.cons (o:=⟨some 45,.buildSlice 26 1 #[(0,.tmp 44)],_,_,_,none⟩) rfl (fun K hK=>?_) ?_
      ·go_simp
       refine hK.out _ _ (KS2 _ E2a) (fun hHeld=>?_)
       clear hK K
       refine wpAnyH_ready (rs:=[6]) (by kernel_rfl) (by simp) ?_
       refine AllReadyH.cons (o:=⟨some 46,.call { callee:=.builtin .append,args:=#[.tmp 41,.tmp 45],argTypes:=#[26,26] },_,_,_,none⟩) rfl (fun K hK=>?_) ?_
       ·refine step_appG rowV (by rfl) (.tmp 41) (.tmp 45) (by rfl) ((w.heap.size + 2) + 1) qm cm us ⟨w2.heap.size,0,none⟩ 1 [u] k 1 (k + 1) (uh HUS) rfl rfl (by rfl) (by rfl) (((uh HO2).below R3).below ((Below.refl _ _).alloc (Nat.le_refl _) _)) (node_src (box_nw _ _)) hkm hkb (by simp only [size_al];omega) ?_
        intro q3 c3 w3 ho3 hb3 hg3 hor3
        have s3:=hg3.size
        simp only [size_al] at s3
        have E3:∀ o,w3.cell? ⟨wr.heap.size,o,none⟩=Z.cell? ⟨wr.heap.size,o,none⟩:=fun o=>(World.cell?_of_block (w:=w2.alloc (.cells #[.int .i64 u.kind,.string u.attr,.slice u.qi u.ni u.ci,.slice u.qw u.nw u.cw,.int .i64 u.lo,.int .i64 u.hi,.int .i64 u.op,.slice u.qk u.nk u.ck] 28)) (a:=⟨wr.heap.size,o,none⟩) (hg3.block wr.heap.size (by simp only [size_al];omega) (fun e=>by have:=uh HLT _ e.symm;omega))).trans (E2a o)
        have hp3:w3.heap[(w.heap.size + 2)]? = wr.heap[(w.heap.size + 2)]?:=(hg3.block (w.heap.size + 2) (by simp only [size_al];omega) (fun e=>by have:=uh HGE _ e.symm;omega)).trans ((((Below.refl w2.heap.size w2).alloc (Nat.le_refl _) _).block (w.heap.size + 2) lm2).trans ((R3.block (w.heap.size + 2) (by omega)).trans (bZ.block (w.heap.size + 2) (by omega))))
        have n7:w3.cell? ⟨(w.heap.size + 2),7,none⟩=some (.slice qm k cm):=(World.cell?_of_block (w:=wr) (a:=⟨(w.heap.size + 2),7,none⟩) hp3).trans c7
        have nf:∀ o,w3.frozen? ⟨(w.heap.size + 2),o,none⟩=false:=fun o=>(World.frozen?_of_block (w:=wr) (a:=⟨(w.heap.size + 2),o,none⟩) hp3).trans (hcf o)
        have HO3:=hide ho3
        have HG3:=hide hg3
        have HR3:=hide hor3
        have HP3:=hide hp3
        clear ho3 hb3 hg3 hor3 hp3
        refine hK.out _ _ (KS2 _ E3) (fun hHeld=>?_)
        clear hK K
        refine wpAnyH_take (i:=7) (oi:=⟨some 47,.fieldAddr 28 (.tmp 5) 2,_,_,_,none⟩) (v:=?_) rfl (by kernel_rfl) (by kernel_rfl) (by kernel_rfl) (fun _ _ _ h=>h) (Or.inl ⟨by rfl, ?_⟩) (by assumption) ?_
        rotate_left
        ·intro wq hSw
         go_simp
         with_reducible rfl
        simp only [Act.put,List.setIfInBounds_toArray,List.set_cons_zero,List.set_cons_succ]
        refine wpAnyH_ready (rs:=[8]) (by kernel_rfl) (by simp) ?_
        refine AllReadyH.cons (o:=⟨none,.store 26 (.tmp 47) (.tmp 46),_,_,_,none⟩) rfl (fun K hK=>?_) ?_
        ·go_simp
         refine hK.out _ _ (KS2 _ (fun o=>(set_other _ (by omega) o 7 _).trans (E3 o))) (fun hHeld=>?_)
         clear hK K
         refine wpAnyH_done (by kernel_rfl) ?_ _
         have P4:=hide (down_round (uh HB) bZ R3 (uh HO) (uh HF) (uh HU) (uh HDK) (uh HUS) (uh HG3) (uh HR3) (uh HO3) (uh HP3) lpb n7)
         have hl4:(us ++ [u]).length=k + 1:=by rw [List.length_append,uh HUS];rfl
         have K0:=hide (show _∧_∧_∧_∧_∧_∧_ from ⟨c0,c1,c2,c3x,c4,c5,c6⟩)
         go_wp2
         go_roundw
         case rel =>
          obtain ⟨p1,p2,p3,p4,p5,p6,p7⟩:=uh P4
          obtain ⟨c0,c1,c2,c3x,c4,c5,c6⟩:=uh K0
          exact ⟨k + 1,q3,c3,us ++ [u],by omega,by go_num,hl4,p1,p2,⟨(p3 0 (by omega)).trans c0,(p3 1 (by omega)).trans c1,(p3 2 (by omega)).trans c2,(p3 3 (by omega)).trans c3x,(p3 4 (by omega)).trans c4,(p3 5 (by omega)).trans c5,(p3 6 (by omega)).trans c6,p4⟩,fun o=>(p5 o).trans (hcf o),p6,p7⟩
         case measure=>simp [intOf];omega
        exact AllReadyH.nil
       exact AllReadyH.nil
      exact AllReadyH.nil
     exact AllReadyH.nil
    refine AllReadyH.cons (o:=⟨some 44,.call { callee:=.value (.func 39),args:=#[.tmp 42,.tmp 43],argTypes:=#[28,4] },_,_,_,none⟩) rfl (fun K hK=>?_) ?_
    ·go_simp
     refine hNd.mono ?_
     rintro e w2 ⟨⟨u,rfl,hu⟩,hb2⟩
     simp only [Nv.val]
     have R3:Below Z.heap.size Z w2:=below_undrewM hb2
     have s2:=R3.size
     have E2:∀ o,w2.cell? ⟨wr.heap.size,o,none⟩=Z.cell? ⟨wr.heap.size,o,none⟩:=fun o=>R3.cell (p:=⟨wr.heap.size,o,none⟩) (by simp only;omega)
     have m7:w2.cell? ⟨(w.heap.size + 2),7,none⟩=some (.slice qm k cm):=(R3.cell (p:=⟨(w.heap.size + 2),7,none⟩) (by simp only;omega)).trans q7
     have lm2:(w.heap.size + 2) < w2.heap.size:=by omega
     have nm2:¬ (w.heap.size + 2)=w2.heap.size:=by omega
     have E2a:∀ o,(w2.alloc (.cells #[.int .i64 u.kind,.string u.attr,.slice u.qi u.ni u.ci,.slice u.qw u.nw u.cw,.int .i64 u.lo,.int .i64 u.hi,.int .i64 u.op,.slice u.qk u.nk u.ck] 28)).cell? ⟨wr.heap.size,o,none⟩=Z.cell? ⟨wr.heap.size,o,none⟩:=fun o=>(((Below.refl w2.heap.size w2).alloc (Nat.le_refl _) _).cell (p:=⟨wr.heap.size,o,none⟩) (by simp only;omega)).trans (E2 o)
     have HU:=hide hu
     clear hu hb2
     refine hK.out _ _ (KS2 _ E2) (fun hHeld=>?_)
     clear hK K
     refine wpAnyH_ready (rs:=[1,5]) (by kernel_rfl) (by simp) ?_
     refine AllReadyH.cons (o:=⟨some 41,.load 26 (.tmp 40),_,_,_,none⟩) rfl (fun K hK=>?_) ?_
     ·go_simp
      refine hK.out _ _ (KS2 _ E2) (fun hHeld=>?_)
      clear hK K
      refine wpAnyH_ready (rs:=[5]) (by kernel_rfl) (by simp) ?_
      refine AllReadyH.cons (o:=⟨some 45,.buildSlice 26 1 #[(0,.tmp 44)],_,_,_,none⟩) rfl (fun K hK=>?_) ?_
      ·go_simp
       refine hK.out _ _ (KS2 _ E2a) (fun hHeld=>?_)
       clear hK K
       refine wpAnyH_ready (rs:=[6]) (by kernel_rfl) (by simp) ?_
       refine AllReadyH.cons (o:=⟨some 46,.call { callee:=.builtin .append,args:=#[.tmp 41,.tmp 45],argTypes:=#[26,26] },_,_,_,none⟩) rfl (fun K hK=>?_) ?_
       ·refine step_appG rowV (by rfl) (.tmp 41) (.tmp 45) (by rfl) ((w.heap.size + 2) + 1) qm cm us ⟨w2.heap.size,0,none⟩ 1 [u] k 1 (k + 1) (uh HUS) rfl rfl (by rfl) (by rfl) (((uh HO2).below R3).below ((Below.refl _ _).alloc (Nat.le_refl _) _)) (node_src (box_nw _ _)) hkm hkb (by simp only [size_al];omega) ?_
        intro q3 c3 w3 ho3 hb3 hg3 hor3
        have s3:=hg3.size
        simp only [size_al] at s3
        have E3:∀ o,w3.cell? ⟨wr.heap.size,o,none⟩=Z.cell? ⟨wr.heap.size,o,none⟩:=fun o=>(World.cell?_of_block (w:=w2.alloc (.cells #[.int .i64 u.kind,.string u.attr,.slice u.qi u.ni u.ci,.slice u.qw u.nw u.cw,.int .i64 u.lo,.int .i64 u.hi,.int .i64 u.op,.slice u.qk u.nk u.ck] 28)) (a:=⟨wr.heap.size,o,none⟩) (hg3.block wr.heap.size (by simp only [size_al];omega) (fun e=>by have:=uh HLT _ e.symm;omega))).trans (E2a o)
        have hp3:w3.heap[(w.heap.size + 2)]? = wr.heap[(w.heap.size + 2)]?:=(hg3.block (w.heap.size + 2) (by simp only [size_al];omega) (fun e=>by have:=uh HGE _ e.symm;omega)).trans ((((Below.refl w2.heap.size w2).alloc (Nat.le_refl _) _).block (w.heap.size + 2) lm2).trans ((R3.block (w.heap.size + 2) (by omega)).trans (bZ.block (w.heap.size + 2) (by omega))))
        have n7:w3.cell? ⟨(w.heap.size + 2),7,none⟩=some (.slice qm k cm):=(World.cell?_of_block (w:=wr) (a:=⟨(w.heap.size + 2),7,none⟩) hp3).trans c7
        have nf:∀ o,w3.frozen? ⟨(w.heap.size + 2),o,none⟩=false:=fun o=>(World.frozen?_of_block (w:=wr) (a:=⟨(w.heap.size + 2),o,none⟩) hp3).trans (hcf o)
        have HO3:=hide ho3
        have HG3:=hide hg3
        have HR3:=hide hor3
        have HP3:=hide hp3
        clear ho3 hb3 hg3 hor3 hp3
        refine hK.out _ _ (KS2 _ E3) (fun hHeld=>?_)
        clear hK K
        refine wpAnyH_take (i:=7) (oi:=⟨some 47,.fieldAddr 28 (.tmp 5) 2,_,_,_,none⟩) (v:=?_) rfl (by kernel_rfl) (by kernel_rfl) (by kernel_rfl) (fun _ _ _ h=>h) (Or.inl ⟨by rfl, ?_⟩) (by assumption) ?_
        rotate_left
        ·intro wq hSw
         go_simp
         with_reducible rfl
        simp only [Act.put,List.setIfInBounds_toArray,List.set_cons_zero,List.set_cons_succ]
        refine wpAnyH_ready (rs:=[8]) (by kernel_rfl) (by simp) ?_
        refine AllReadyH.cons (o:=⟨none,.store 26 (.tmp 47) (.tmp 46),_,_,_,none⟩) rfl (fun K hK=>?_) ?_
        ·go_simp
         refine hK.out _ _ (KS2 _ (fun o=>(set_other _ (by omega) o 7 _).trans (E3 o))) (fun hHeld=>?_)
         clear hK K
         refine wpAnyH_done (by kernel_rfl) ?_ _
         have P4:=hide (down_round (uh HB) bZ R3 (uh HO) (uh HF) (uh HU) (uh HDK) (uh HUS) (uh HG3) (uh HR3) (uh HO3) (uh HP3) lpb n7)
         have hl4:(us ++ [u]).length=k + 1:=by rw [List.length_append,uh HUS];rfl
         have K0:=hide (show _∧_∧_∧_∧_∧_∧_ from ⟨c0,c1,c2,c3x,c4,c5,c6⟩)
         go_wp2
         go_roundw
         case rel =>
          obtain ⟨p1,p2,p3,p4,p5,p6,p7⟩:=uh P4
          obtain ⟨c0,c1,c2,c3x,c4,c5,c6⟩:=uh K0
          exact ⟨k + 1,q3,c3,us ++ [u],by omega,by go_num,hl4,p1,p2,⟨(p3 0 (by omega)).trans c0,(p3 1 (by omega)).trans c1,(p3 2 (by omega)).trans c2,(p3 3 (by omega)).trans c3x,(p3 4 (by omega)).trans c4,(p3 5 (by omega)).trans c5,(p3 6 (by omega)).trans c6,p4⟩,fun o=>(p5 o).trans (hcf o),p6,p7⟩
         case measure=>simp [intOf];omega
        exact AllReadyH.nil
       exact AllReadyH.nil
      exact AllReadyH.nil
     refine AllReadyH.cons (o:=⟨some 45,.buildSlice 26 1 #[(0,.tmp 44)],_,_,_,none⟩) rfl (fun K hK=>?_) ?_
     ·go_simp
      refine hK.out _ _ (KS2 _ E2a) (fun hHeld=>?_)
      clear hK K
      refine wpAnyH_ready (rs:=[1]) (by kernel_rfl) (by simp) ?_
      refine AllReadyH.cons (o:=⟨some 41,.load 26 (.tmp 40),_,_,_,none⟩) rfl (fun K hK=>?_) ?_
      ·go_simp
       refine hK.out _ _ (KS2 _ E2a) (fun hHeld=>?_)
       clear hK K
       refine wpAnyH_ready (rs:=[6]) (by kernel_rfl) (by simp) ?_
       refine AllReadyH.cons (o:=⟨some 46,.call { callee:=.builtin .append,args:=#[.tmp 41,.tmp 45],argTypes:=#[26,26] },_,_,_,none⟩) rfl (fun K hK=>?_) ?_
       ·refine step_appG rowV (by rfl) (.tmp 41) (.tmp 45) (by rfl) ((w.heap.size + 2) + 1) qm cm us ⟨w2.heap.size,0,none⟩ 1 [u] k 1 (k + 1) (uh HUS) rfl rfl (by rfl) (by rfl) (((uh HO2).below R3).below ((Below.refl _ _).alloc (Nat.le_refl _) _)) (node_src (box_nw _ _)) hkm hkb (by simp only [size_al];omega) ?_
        intro q3 c3 w3 ho3 hb3 hg3 hor3
        have s3:=hg3.size
        simp only [size_al] at s3
        have E3:∀ o,w3.cell? ⟨wr.heap.size,o,none⟩=Z.cell? ⟨wr.heap.size,o,none⟩:=fun o=>(World.cell?_of_block (w:=w2.alloc (.cells #[.int .i64 u.kind,.string u.attr,.slice u.qi u.ni u.ci,.slice u.qw u.nw u.cw,.int .i64 u.lo,.int .i64 u.hi,.int .i64 u.op,.slice u.qk u.nk u.ck] 28)) (a:=⟨wr.heap.size,o,none⟩) (hg3.block wr.heap.size (by simp only [size_al];omega) (fun e=>by have:=uh HLT _ e.symm;omega))).trans (E2a o)
        have hp3:w3.heap[(w.heap.size + 2)]? = wr.heap[(w.heap.size + 2)]?:=(hg3.block (w.heap.size + 2) (by simp only [size_al];omega) (fun e=>by have:=uh HGE _ e.symm;omega)).trans ((((Below.refl w2.heap.size w2).alloc (Nat.le_refl _) _).block (w.heap.size + 2) lm2).trans ((R3.block (w.heap.size + 2) (by omega)).trans (bZ.block (w.heap.size + 2) (by omega))))
        have n7:w3.cell? ⟨(w.heap.size + 2),7,none⟩=some (.slice qm k cm):=(World.cell?_of_block (w:=wr) (a:=⟨(w.heap.size + 2),7,none⟩) hp3).trans c7
        have nf:∀ o,w3.frozen? ⟨(w.heap.size + 2),o,none⟩=false:=fun o=>(World.frozen?_of_block (w:=wr) (a:=⟨(w.heap.size + 2),o,none⟩) hp3).trans (hcf o)
        have HO3:=hide ho3
        have HG3:=hide hg3
        have HR3:=hide hor3
        have HP3:=hide hp3
        clear ho3 hb3 hg3 hor3 hp3
        refine hK.out _ _ (KS2 _ E3) (fun hHeld=>?_)
        clear hK K
        refine wpAnyH_take (i:=7) (oi:=⟨some 47,.fieldAddr 28 (.tmp 5) 2,_,_,_,none⟩) (v:=?_) rfl (by kernel_rfl) (by kernel_rfl) (by kernel_rfl) (fun _ _ _ h=>h) (Or.inl ⟨by rfl, ?_⟩) (by assumption) ?_
        rotate_left
        ·intro wq hSw
         go_simp
         with_reducible rfl
        simp only [Act.put,List.setIfInBounds_toArray,List.set_cons_zero,List.set_cons_succ]
        refine wpAnyH_ready (rs:=[8]) (by kernel_rfl) (by simp) ?_
        refine AllReadyH.cons (o:=⟨none,.store 26 (.tmp 47) (.tmp 46),_,_,_,none⟩) rfl (fun K hK=>?_) ?_
        ·go_simp
         refine hK.out _ _ (KS2 _ (fun o=>(set_other _ (by omega) o 7 _).trans (E3 o))) (fun hHeld=>?_)
         clear hK K
         refine wpAnyH_done (by kernel_rfl) ?_ _
         have P4:=hide (down_round (uh HB) bZ R3 (uh HO) (uh HF) (uh HU) (uh HDK) (uh HUS) (uh HG3) (uh HR3) (uh HO3) (uh HP3) lpb n7)
         have hl4:(us ++ [u]).length=k + 1:=by rw [List.length_append,uh HUS];rfl
         have K0:=hide (show _∧_∧_∧_∧_∧_∧_ from ⟨c0,c1,c2,c3x,c4,c5,c6⟩)
         go_wp2
         go_roundw
         case rel =>
          obtain ⟨p1,p2,p3,p4,p5,p6,p7⟩:=uh P4
          obtain ⟨c0,c1,c2,c3x,c4,c5,c6⟩:=uh K0
          exact ⟨k + 1,q3,c3,us ++ [u],by omega,by go_num,hl4,p1,p2,⟨(p3 0 (by omega)).trans c0,(p3 1 (by omega)).trans c1,(p3 2 (by omega)).trans c2,(p3 3 (by omega)).trans c3x,(p3 4 (by omega)).trans c4,(p3 5 (by omega)).trans c5,(p3 6 (by omega)).trans c6,p4⟩,fun o=>(p5 o).trans (hcf o),p6,p7⟩
         case measure=>simp [intOf];omega
        exact AllReadyH.nil
       exact AllReadyH.nil
      exact AllReadyH.nil
     exact AllReadyH.nil
    exact AllReadyH.nil
   ·have hkl:k=kids.length:=by omega
    subst hkl
    have ki1:¬ (kids.length:Int) < (kids.length:Int):=by omega
    have bwr:Below X.heap.size X wr:=by rw [hXp];exact hbel
    have hz1:w.heap.size + 1 < X.heap.size:=by omega
    have r0:=(bwr.cell (p:=⟨w.heap.size + 1,0,none⟩) (by exact hz1)).trans y0
    have r1:=(bwr.cell (p:=⟨w.heap.size + 1,1,none⟩) (by exact hz1)).trans y1
    have r2:=(bwr.cell (p:=⟨w.heap.size + 1,2,none⟩) (by exact hz1)).trans y2
    have r3:=(bwr.cell (p:=⟨w.heap.size + 1,3,none⟩) (by exact hz1)).trans y3
    have r4:=(bwr.cell (p:=⟨w.heap.size + 1,4,none⟩) (by exact hz1)).trans y4
    have r5:=(bwr.cell (p:=⟨w.heap.size + 1,5,none⟩) (by exact hz1)).trans y5
    have r6:=(bwr.cell (p:=⟨w.heap.size + 1,6,none⟩) (by exact hz1)).trans y6
    have r7:=(bwr.cell (p:=⟨w.heap.size + 1,7,none⟩) (by exact hz1)).trans y7
    have rf:∀ o,wr.frozen? ⟨w.heap.size + 1,o,none⟩=false:=fun o=>(bwr.frozen (by exact hz1)).trans (yf o)
    have rz:w.heap.size + 1 < wr.heap.size:=by omega
    have BF:=hide (set8_below (g:=w.heap.size + 1) (below_sub (uh HWX) bwr) (Nat.le_succ _) (.int .i64 0) (.string ⟨#[]⟩) (.slice none 0 0) (.slice none 0 0) (.int .i64 0) (.int .i64 0) (.int .i64 op2) (.slice qm kids.length cm))
    have NF:=hide (down_fin (op:=op2) (uh HO) hoff.now (by rw [downL_len];exact hus) (downL_len kids true) (set8_up (B:=(w.heap.size + 2) + 1) (g:=w.heap.size + 1) wr (by omega) (.int .i64 0) (.string ⟨#[]⟩) (.slice none 0 0) (.slice none 0 0) (.int .i64 0) (.int .i64 0) (.int .i64 op2) (.slice qm kids.length cm)))
    clear hown hoff hbel bwr hus x0 x1 x2 x3 x4 x5 x6 x7 y0 y1 y2 y3 y4 y5 y6 y7
    go_wp2
    refine bodyPost_ret (v:=.agg #[.int .i64 0,.string ⟨#[]⟩,.slice none 0 0,.slice none 0 0,.int .i64 0,.int .i64 0,.int .i64 op2,.slice qm kids.length cm]) (by simp [results,Try.results39,go_sem, *]) rfl ⟨⟨⟨0,⟨#[]⟩,none,0,0,none,0,0,0,0,op2,qm,kids.length,cm⟩,rfl,(uh NF).mono (by omega)⟩,uh BF⟩

set_option maxRecDepth 100000 in
set_option maxHeartbeats 4000000 in
theorem down_one (kind:Int) (attr:ByteArray) (qi:Option Addr) (ci:Nat) (ints:List Int) (qw:Option Addr) (cw:Nat) (words:List ByteArray) (lo hi:Int) (qk:Option Addr) (ck:Nat) (kids:List Nd) (neg:Bool) (w:World) (h1:SlOf encI 1 w qi ci ints) (h2:SlOf encS 1 w qw cw words) (l1:ints.length≤1000000000) (l2:words.length≤1000000000) :
  Calls Try.prog 39 #[.agg #[.int .i64 kind,.string attr,.slice qi ints.length ci,.slice qw words.length cw,.int .i64 lo,.int .i64 hi,.int .i64 1,.slice qk kids.length ck],.bool neg] w fun e w'=>NewT w.heap.size w' (litT kind attr ints words lo hi neg) e∧Below w.heap.size w w':=by
 obtain ⟨X,HX⟩:∃ X,(w.alloc (.cells #[.int .i64 kind,.string attr,.slice qi ints.length ci,.slice qw words.length cw,.int .i64 lo,.int .i64 hi,.int .i64 1,.slice qk kids.length ck] 28)).alloc (.cells #[.int .i64 0,.string ⟨#[]⟩,.slice none 0 0,.slice none 0 0,.int .i64 0,.int .i64 0,.int .i64 0,.slice none 0 0] 28)=X:=⟨_,rfl⟩
 obtain ⟨hX0,hX1,hwX,hXs⟩:=twoM HX
 obtain ⟨x0,x1,x2,x3,x4,x5,x6,x7⟩:=of8' hX0
 obtain ⟨y0,y1,y2,y3,y4,y5,y6,y7⟩:=of8' hX1
 have yf:∀ o,X.frozen? ⟨w.heap.size + 1,o,none⟩=false:=fun o=>frozen_free hX1
 have hL:=literal_any kind attr qi ci ints qw cw words lo hi neg X (h1.below hwX) (h2.below hwX) l1 l2
 have hz1:w.heap.size + 1 < X.heap.size:=by omega
 have HWX:=hide hwX
 clear h1 h2 hwX hX0 hX1
 go_enter Try.func39,Try.ntmps39
 go_wp2_with (go_at_call 60;refine hL.mono ?_;rintro e w1 ⟨⟨u,rfl,hu⟩,b1⟩;simp only [Nv.val];have R1:=b1;obtain ⟨r0,r1,r2,r3,r4,r5,r6,r7⟩:w1.cell? ⟨w.heap.size + 1,0,none⟩=some (.int .i64 0)∧w1.cell? ⟨w.heap.size + 1,1,none⟩=some (.string ⟨#[]⟩)∧w1.cell? ⟨w.heap.size + 1,2,none⟩=some (.slice none 0 0)∧w1.cell? ⟨w.heap.size + 1,3,none⟩=some (.slice none 0 0)∧w1.cell? ⟨w.heap.size + 1,4,none⟩=some (.int .i64 0)∧w1.cell? ⟨w.heap.size + 1,5,none⟩=some (.int .i64 0)∧w1.cell? ⟨w.heap.size + 1,6,none⟩=some (.int .i64 0)∧w1.cell? ⟨w.heap.size + 1,7,none⟩=some (.slice none 0 0):=⟨(b1.cell (by exact hz1)).trans y0,(b1.cell (by exact hz1)).trans y1,(b1.cell (by exact hz1)).trans y2,(b1.cell (by exact hz1)).trans y3,(b1.cell (by exact hz1)).trans y4,(b1.cell (by exact hz1)).trans y5,(b1.cell (by exact hz1)).trans y6,(b1.cell (by exact hz1)).trans y7⟩;have rf:∀ o,w1.frozen? ⟨w.heap.size + 1,o,none⟩=false:=(fun o=>(b1.frozen (by exact hz1)).trans (yf o));have rz:w.heap.size + 1 < w1.heap.size:=(by have:=b1.size;omega);have HU:=hide hu;have B1:=hide b1;clear hu b1 R1)
 refine bodyPost_ret (v:=.agg #[.int .i64 u.kind,.string u.attr,.slice u.qi u.ni u.ci,.slice u.qw u.nw u.cw,.int .i64 u.lo,.int .i64 u.hi,.int .i64 u.op,.slice u.qk u.nk u.ck]) (by simp [results,Try.results39,go_sem, *]) rfl ⟨⟨u,rfl,((uh HU).up (set8_up (B:=X.heap.size) (g:=w.heap.size + 1) w1 (by omega) _ _ _ _ _ _ _ _)).mono (by omega)⟩,set8_below (g:=w.heap.size + 1) (below_sub (uh HWX) (uh B1)) (Nat.le_succ _) _ _ _ _ _ _ _ _⟩
set_option maxRecDepth 100000 in
set_option maxHeartbeats 4000000 in
theorem down_not (kind:Int) (attr:ByteArray) (qi:Option Addr) (ci:Nat) (ints:List Int) (qw:Option Addr) (cw:Nat) (words:List ByteArray) (lo hi:Int) (qk:Option Addr) (ck:Nat) (x:Nd) (neg:Bool) (w:World) (hk:NdsOf w qk ck [x]) (ih:DownP x) (hc:chkN x=true) (l3:wtN x≤1000000000) :
  Calls Try.prog 39 #[.agg #[.int .i64 kind,.string attr,.slice qi ints.length ci,.slice qw words.length cw,.int .i64 lo,.int .i64 hi,.int .i64 2,.slice qk 1 ck],.bool neg] w fun e w'=>NewT w.heap.size w' (downN x (!neg)) e∧Below w.heap.size w w':=by
 obtain ⟨X,HX⟩:∃ X,(w.alloc (.cells #[.int .i64 kind,.string attr,.slice qi ints.length ci,.slice qw words.length cw,.int .i64 lo,.int .i64 hi,.int .i64 2,.slice qk 1 ck] 28)).alloc (.cells #[.int .i64 0,.string ⟨#[]⟩,.slice none 0 0,.slice none 0 0,.int .i64 0,.int .i64 0,.int .i64 0,.slice none 0 0] 28)=X:=⟨_,rfl⟩
 obtain ⟨hX0,hX1,hwX,hXs⟩:=twoM HX
 obtain ⟨x0,x1,x2,x3,x4,x5,x6,x7⟩:=of8' hX0
 obtain ⟨y0,y1,y2,y3,y4,y5,y6,y7⟩:=of8' hX1
 have yf:∀ o,X.frozen? ⟨w.heap.size + 1,o,none⟩=false:=fun o=>frozen_free hX1
 obtain ⟨b,off,v,hq,hin,g0,g1,g2,g3,g4,g5,g6,g7⟩:=hk.on (j:=0) (x:=x) rfl hwX
 subst hq
 simp only [Nat.zero_mul,Nat.add_zero] at g0 g1 g2 g3 g4 g5 g6 g7
 have hL:=ih (!neg) v X hin hc l3
 simp only [Nv.val] at hL
 have hz1:w.heap.size + 1 < X.heap.size:=by omega
 have HWX:=hide hwX
 clear hk ih hwX hX0 hX1 hin
 go_enter Try.func39,Try.ntmps39
 go_wp2_with (go_at_call 39;refine hL.mono ?_;rintro e w1 ⟨⟨u,rfl,hu⟩,b1⟩;simp only [Nv.val];have R1:=b1;obtain ⟨r0,r1,r2,r3,r4,r5,r6,r7⟩:w1.cell? ⟨w.heap.size + 1,0,none⟩=some (.int .i64 0)∧w1.cell? ⟨w.heap.size + 1,1,none⟩=some (.string ⟨#[]⟩)∧w1.cell? ⟨w.heap.size + 1,2,none⟩=some (.slice none 0 0)∧w1.cell? ⟨w.heap.size + 1,3,none⟩=some (.slice none 0 0)∧w1.cell? ⟨w.heap.size + 1,4,none⟩=some (.int .i64 0)∧w1.cell? ⟨w.heap.size + 1,5,none⟩=some (.int .i64 0)∧w1.cell? ⟨w.heap.size + 1,6,none⟩=some (.int .i64 0)∧w1.cell? ⟨w.heap.size + 1,7,none⟩=some (.slice none 0 0):=⟨(b1.cell (by exact hz1)).trans y0,(b1.cell (by exact hz1)).trans y1,(b1.cell (by exact hz1)).trans y2,(b1.cell (by exact hz1)).trans y3,(b1.cell (by exact hz1)).trans y4,(b1.cell (by exact hz1)).trans y5,(b1.cell (by exact hz1)).trans y6,(b1.cell (by exact hz1)).trans y7⟩;have rf:∀ o,w1.frozen? ⟨w.heap.size + 1,o,none⟩=false:=(fun o=>(b1.frozen (by exact hz1)).trans (yf o));have rz:w.heap.size + 1 < w1.heap.size:=(by have:=b1.size;omega);have HU:=hide hu;have B1:=hide b1;clear hu b1 R1)
 refine bodyPost_ret (v:=.agg #[.int .i64 u.kind,.string u.attr,.slice u.qi u.ni u.ci,.slice u.qw u.nw u.cw,.int .i64 u.lo,.int .i64 u.hi,.int .i64 u.op,.slice u.qk u.nk u.ck]) (by simp [results,Try.results39,go_sem, *]) rfl ⟨⟨u,rfl,((uh HU).up (set8_up (B:=X.heap.size) (g:=w.heap.size + 1) w1 (by omega) _ _ _ _ _ _ _ _)).mono (by omega)⟩,set8_below (g:=w.heap.size + 1) (below_sub (uh HWX) (uh B1)) (Nat.le_succ _) _ _ _ _ _ _ _ _⟩
theorem chk_parts {kind:Int} {attr:ByteArray} {ints:List Int} {words:List ByteArray} {lo hi op:Int} {kids:List Nd} (h:chkN (.mk kind attr ints words lo hi op kids)=true):(op=1∧kids=[]∧predB kind attr ints words lo hi=true) ∨ (op=2∧(∃ x,kids=[x]∧chkN x=true)∧zeroB kind attr ints.length words.length lo hi=true) ∨ ((op=3 ∨ op=4)∧2≤kids.length∧chkL kids=true∧zeroB kind attr ints.length words.length lo hi=true):=by
 simp only [chkN,Bool.and_eq_true] at h
 obtain ⟨h1,h2⟩:=h
 unfold nodeB at h1
 by_cases e1:op=1
 ·rw [if_pos e1] at h1
  simp only [Bool.and_eq_true,decide_eq_true_eq] at h1
  exact Or.inl ⟨e1,List.length_eq_zero_iff.1 h1.2,h1.1⟩
 ·rw [if_neg e1] at h1
  by_cases e2:op=2
  ·rw [if_pos e2] at h1
   simp only [Bool.and_eq_true,decide_eq_true_eq] at h1
   obtain ⟨x,rfl⟩:=List.length_eq_one_iff.1 h1.2
   exact Or.inr (Or.inl ⟨e2,⟨x,rfl,by simpa [chkL] using h2⟩,h1.1⟩)
  ·rw [if_neg e2] at h1
   by_cases e3:op=3 ∨ op=4
   ·rw [if_pos e3] at h1
    simp only [Bool.and_eq_true,decide_eq_true_eq] at h1
    exact Or.inr (Or.inr ⟨e3,h1.2,h2,h1.1⟩)
   ·rw [if_neg e3] at h1;cases h1
theorem chkL_all {l:List Nd} (h:chkL l=true):∀ x ∈ l,chkN x=true:=by
 induction l with
 | nil=>intro x hx;simp at hx
 | cons y l ih =>
  simp only [chkL,Bool.and_eq_true] at h
  intro x hx
  rcases List.mem_cons.1 hx with rfl | hx
  ·exact h.1
  ·exact ih h.2 x hx
theorem down_any:∀ x,DownP x:=by
 intro t
 induction t using Nd.ind with
 | h kind attr ints words lo hi op kids ih =>
  intro neg v w hin hc hwt
  obtain ⟨qi,ci,qw,cw,qk,ck,rfl,h1,h2,hk⟩:=hin.parts
  simp only [wtN] at hwt
  have hwl:=words_len words
  rcases chk_parts hc with ⟨rfl,_,_⟩ | ⟨rfl,⟨x,rfl,hx⟩,_⟩ | ⟨ho,_,hl,_⟩
  ·have:=down_one kind attr qi ci ints qw cw words lo hi qk ck kids neg w h1 h2 (by omega) (by omega)
   simpa [downN,Nv.val] using this
  ·have:=down_not kind attr qi ci ints qw cw words lo hi qk ck x neg w hk (ih x (by simp)) hx (by simp only [wtL] at hwt;omega)
   simpa [downN,downH,Nv.val] using this
  ·have n1:¬ op=1:=by omega
   have n2:¬ op=2:=by omega
   have:=down_many kind attr qi ci ints qw cw words lo hi op _ qk ck kids neg w hk ih (chkL_all hl) (by omega) n1 n2 rfl
   simpa only [downN,if_neg n1,if_neg n2,Nv.val] using this

end Go.Proofs.Ytikhopiegaoacac

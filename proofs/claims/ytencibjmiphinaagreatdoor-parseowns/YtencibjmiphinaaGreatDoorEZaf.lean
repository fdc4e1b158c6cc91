/- What Depth and Size return, for every tree. -/
import Derived.Test.YtencibjmiphinaaGreatDoorEZac
import Derived.Test.YtencibjmiphinaaGreatDoorEZae
namespace Go.Proofs.YtencibjmiphinaaGreatDoor
open Go.RowKit
theorem depL_snoc {l:List Nd} {k:Nat} {x:Nd} (h:l[k]? = some x):depL (l.take (k + 1))=max (depL (l.take k)) (depN x):=by
 rw [take_snoc_of h,depL_app];simp [depL]
theorem depL_take (l:List Nd) (k:Nat):depL (l.take k)<=depL l:=by
 conv=>rhs;rw [<- List.take_append_drop k l,depL_app]
 omega
theorem size_pos (t:Nd):1<=sizeN t:=by cases t;simp only [sizeN];omega
theorem len_size (l:List Nd):l.length<=sizeL l:=by
 induction l with
 | nil=>simp
 | cons x l ih=>have:=size_pos x;simp only [sizeL,List.length_cons];omega
theorem depL_size (l:List Nd):depL l<=sizeL l:=by
 induction l with
 | nil=>simp [depL]
 | cons x l ih=>have:=dep_le x;simp only [depL,sizeL];omega
set_option maxHeartbeats 2000000 in
theorem depth_any:∀ (t:Nd) (v:Nv) (w:World),NdIn w v t->sizeN t<=1000000000 ->
  Calls Tryz.prog 36 #[v.val] w fun e w'=>e=.returned (.int .i64 (depN t))/\Below w.heap.size w w':=by
 intro t
 induction t using Nd.ind with
 | h kind attr ints words lo hi op kids ih =>
  intro v w hin hsz
  obtain ⟨qi,ci,qw,cw,qk,ck,rfl,hi1,hw1,hk⟩:=hin.parts
  simp only [sizeN] at hsz
  have hlen:=len_size kids
  have IH:=hide ih
  have HK:=hide hk
  have a0:(kids.length:Int)<=1000000000:=by omega
  have hd2:=depL_size kids
  clear ih hk hin hi1 hw1
  simp only [Nv.val]
  go_enter Tryz.func36,Tryz.ntmps36
  go_wp2
  go_loopw [3,9] (fun d i wr=>∃ k:Nat,k<=kids.length/\i=.int .i64 k/\d=.int .i64 (depL (kids.take k):Nat)/\Below w.heap.size w wr) (fun _ i _=>kids.length - (intOf i).toNat)
  case atStart=>exact ⟨0,by omega,rfl,rfl,(Below.refl _ _).alloc (Nat.le_refl _) _⟩
  case round =>
   obtain ⟨k,hkk,rfl,rfl,hbel⟩:=hrel
   have hd1:=depL_take kids k
   by_cases hlt:k < kids.length
   ·obtain ⟨x,hx,hxd⟩:=get_at hlt
    clear hxd
    obtain ⟨b,off,v',hq,hin,g0,g1,g2,g3,g4,g5,g6,g7⟩:=(uh HK).on hx hbel
    subst hq
    have hxm:x ∈ kids:=List.mem_of_getElem? hx
    have hxs:=sizeL_mem hxm
    have hdx:=dep_le x
    have ki0:(0:Int)<=(k:Int):=by omega
    have ki1:(k:Int) < (kids.length:Int):=by omega
    have HS:=hide (depL_snoc hx)
    have hsn:=depL_take kids (k + 1)
    rw [uh HS] at hsn
    have HIN:=hide hin
    have HC:=hide (uh IH x hxm v')
    simp only [Nv.val] at HC
    have HB:=hide hbel
    clear hin hx hbel hxm
    go_wp2_with (go_at_call 36;refine (uh HC _ (by exact (uh HIN).keep ((Below.refl _ _).alloc (Nat.le_refl _) _)) (by omega)).mono ?_;rintro e w1 ⟨rfl,hb1⟩)
    exact ⟨⟨k + 1,by omega,by go_num,congrArg (Value.int .i64) (by rw [uh HS];omega),((uh HB).alloc (uh HB).size _).trans (hb1.mono (by simp;have:=(uh HB).size;omega))⟩,by simp [intOf];omega⟩
   ·have ki1:¬ (k:Int) < (kids.length:Int):=by omega
    have HE:=hide (List.take_of_length_le (l:=kids) (i:=k) (by omega))
    go_wp2
    go_ret
    exact ⟨ret_int (by rw [uh HE];simp only [depN];omega),hbel⟩
end Go.Proofs.YtencibjmiphinaaGreatDoor
namespace Go.Proofs.YtencibjmiphinaaGreatDoor
open Go.RowKit Go.Sort
theorem flat_at8 (l:List Nv) (j:Nat) (x:Nv) (h:l[j]? = some x) (c:Nat) (hc:c < 8):(flatK encV 8 l.toArray).toList[j * 8 + c]? = some ((encV x)[c]!):=flat_at h c hc
theorem flat_len (l:List Nv):(flatK encV 8 l.toArray).toList.length=l.length * 8:=by simp
theorem OwnK.cases {B c:Nat} {w:World} {q:Option Addr} {l:List Nv} (h:OwnK encV 29 8 B w q c l):(q=none/\l=[]/\c=0) ∨ ∃ g,q=some ⟨g,0,none⟩/\B<=g/\g < w.heap.size/\∀ o,w.frozen? ⟨g,o,none⟩=false:=by
 rcases h.2 with ⟨h0,hl⟩ | ⟨g,cp,cur,hv,hB,hblk,_⟩
 ·injection h0 with h1 h2 h3
  exact Or.inl ⟨h1,List.length_eq_zero_iff.1 h2,h3⟩
 ·injection hv with h1
  exact Or.inr ⟨g,h1,hB,(Array.getElem?_eq_some_iff.1 hblk).1,fun o=>frozen_free hblk⟩
theorem OwnK.cells {B g c:Nat} {w:World} {l:List Nv} {j:Nat} {v:Nv} (h:OwnK encV 29 8 B w (some ⟨g,0,none⟩) c l) (hj:l[j]? = some v):w.cell? ⟨g,j * 8,none⟩=some (.int .i64 v.kind)/\w.cell? ⟨g,j * 8 + 1,none⟩=some (.string v.attr)/\w.cell? ⟨g,j * 8 + 2,none⟩=some (.slice v.qi v.ni v.ci)/\w.cell? ⟨g,j * 8 + 3,none⟩=some (.slice v.qw v.nw v.cw)/\w.cell? ⟨g,j * 8 + 4,none⟩=some (.int .i64 v.lo)/\w.cell? ⟨g,j * 8 + 5,none⟩=some (.int .i64 v.hi)/\w.cell? ⟨g,j * 8 + 6,none⟩=some (.int .i64 v.op)/\w.cell? ⟨g,j * 8 + 7,none⟩=some (.slice v.qk v.nk v.ck):=by
 obtain ⟨b,off,hq,_,hc⟩:=h.ls.2.2.2.at hj
 cases hq
 have hh:=fun c hc'=>hc c hc'
 simp only [Nat.zero_add] at hh
 exact ⟨hh 0 (by omega),hh 1 (by omega),hh 2 (by omega),hh 3 (by omega),hh 4 (by omega),hh 5 (by omega),hh 6 (by omega),hh 7 (by omega)⟩
theorem of8' {w:World} {N:Nat} {a0 a1 a2 a3 a4 a5 a6 a7:Value} {T:TypeId} (h:w.heap[N]? = some (.cells #[a0,a1,a2,a3,a4,a5,a6,a7] T (0,0))):w.cell? ⟨N,0,none⟩=some a0/\w.cell? ⟨N,1,none⟩=some a1/\w.cell? ⟨N,2,none⟩=some a2/\w.cell? ⟨N,3,none⟩=some a3/\w.cell? ⟨N,4,none⟩=some a4/\w.cell? ⟨N,5,none⟩=some a5/\w.cell? ⟨N,6,none⟩=some a6/\w.cell? ⟨N,7,none⟩=some a7:=by
 refine ⟨?_, ?_, ?_, ?_, ?_, ?_, ?_, ?_⟩ <;> (unfold World.cell?;simp [h])
theorem box_nw (w:World) (o:Obj):(w.alloc o).heap[w.heap.size]? = some o:=by simp [World.alloc,-World.alloc_eq]
theorem SameUp.set {B:Nat} {a w:World} (h:SameUp B a w) {p:Addr} (hp:p.block < B) (u:Value):SameUp B a (w.setCell p u) :=
 h.trans ⟨by simp,fun b h1 _=>Below.heap_setCell w p u b (by show b ≠ p.block;omega)⟩
end Go.Proofs.YtencibjmiphinaaGreatDoor
namespace Go.Proofs.YtencibjmiphinaaGreatDoor
open Go.RowKit Go.Sort
/-- A tree in new memory. -/
def NewT (B:Nat) (w':World) (t:Nd) (e:Ending):Prop:=∃ v',e=.returned v'.val/\NdFrom w' B v' t
def zeroT:Nd:=.mk 0 ⟨#[]⟩ [] [] 0 0 0 []
theorem no_from {B:Nat}:∀ a:Addr,(none:Option Addr)=some a->B<=a.block:=fun _ h=>by cases h
set_option maxHeartbeats 1000000 in
theorem leaf_any (kind:Int) (attr:ByteArray) (qi:Option Addr) (ni ci:Nat) (qw:Option Addr) (nw cw:Nat) (lo hi:Int) (w:World) :
  Calls Tryz.prog 174 #[.agg #[.int .i64 kind,.string attr,.slice qi ni ci,.slice qw nw cw,.int .i64 lo,.int .i64 hi]] w fun e w'=>e=.returned (.agg #[.int .i64 kind,.string attr,.slice qi ni ci,.slice qw nw cw,.int .i64 lo,.int .i64 hi,.int .i64 1,.slice none 0 0])/\Below w.heap.size w w':=by
 go_enter Tryz.func174,Tryz.ntmps174
 go_wp2
 refine bodyPost_ret (v:=.agg #[.int .i64 kind,.string attr,.slice qi ni ci,.slice qw nw cw,.int .i64 lo,.int .i64 hi,.int .i64 1,.slice none 0 0]) (by simp [results,Tryz.results174,go_sem]) rfl ⟨rfl, ?_⟩
 exact ((Below.refl _ _).alloc (Nat.le_refl _) _).alloc (by simp) _
theorem set8_below {B g:Nat} {a w:World} (h:Below B a w) (hg:B<=g) (a0 a1 a2 a3 a4 a5 a6 a7:Value):Below B a ((((((((w.setCell ⟨g,0,none⟩ a0).setCell ⟨g,1,none⟩ a1).setCell ⟨g,2,none⟩ a2).setCell ⟨g,3,none⟩ a3).setCell ⟨g,4,none⟩ a4).setCell ⟨g,5,none⟩ a5).setCell ⟨g,6,none⟩ a6).setCell ⟨g,7,none⟩ a7) :=
 (((((((h.setCell hg _).setCell hg _).setCell hg _).setCell hg _).setCell hg _).setCell hg _).setCell hg _).setCell hg _
theorem set8_up {B g:Nat} (w:World) (hg:g < B) (a0 a1 a2 a3 a4 a5 a6 a7:Value):SameUp B w ((((((((w.setCell ⟨g,0,none⟩ a0).setCell ⟨g,1,none⟩ a1).setCell ⟨g,2,none⟩ a2).setCell ⟨g,3,none⟩ a3).setCell ⟨g,4,none⟩ a4).setCell ⟨g,5,none⟩ a5).setCell ⟨g,6,none⟩ a6).setCell ⟨g,7,none⟩ a7) :=
 (((((((((SameUp.of (Below.refl _ _)).set hg _).set hg _).set hg _).set hg _).set hg _).set hg _).set hg _).set hg _)
/-- The cell of a result, behind calls. -/
theorem boxR {w w1:World} (hb:Below (w.alloc (.cells #[.int .i64 0,.string ⟨#[]⟩,.slice none 0 0,.slice none 0 0,.int .i64 0,.int .i64 0,.int .i64 0,.slice none 0 0] 29)).heap.size (w.alloc (.cells #[.int .i64 0,.string ⟨#[]⟩,.slice none 0 0,.slice none 0 0,.int .i64 0,.int .i64 0,.int .i64 0,.slice none 0 0] 29)) w1) :
  w.heap.size < w1.heap.size/\(w1.cell? ⟨w.heap.size,0,none⟩=some (.int .i64 0)/\w1.cell? ⟨w.heap.size,1,none⟩=some (.string ⟨#[]⟩)/\w1.cell? ⟨w.heap.size,2,none⟩=some (.slice none 0 0)/\w1.cell? ⟨w.heap.size,3,none⟩=some (.slice none 0 0)/\w1.cell? ⟨w.heap.size,4,none⟩=some (.int .i64 0)/\w1.cell? ⟨w.heap.size,5,none⟩=some (.int .i64 0)/\w1.cell? ⟨w.heap.size,6,none⟩=some (.int .i64 0)/\w1.cell? ⟨w.heap.size,7,none⟩=some (.slice none 0 0))/\∀ o,w1.frozen? ⟨w.heap.size,o,none⟩=false:=by
 have hs:=hb.size
 have hlt:w.heap.size < (w.alloc (.cells #[.int .i64 0,.string ⟨#[]⟩,.slice none 0 0,.slice none 0 0,.int .i64 0,.int .i64 0,.int .i64 0,.slice none 0 0] 29)).heap.size:=by simp
 have hh:=(hb.block _ hlt).trans (box_nw w _)
 exact ⟨by simp at hs;omega,of8' hh,fun o=>frozen_free hh⟩
set_option maxHeartbeats 2000000 in
theorem ints_any (attr:ByteArray) (q:Option Addr) (c:Nat) (l:List Int) (w:World) (h:SlOf encI 1 w q c l) (hl:l.length<=1000000000000) :
  Calls Tryz.prog 172 #[.string attr,.slice q l.length c] w fun e w'=>NewT w.heap.size w' (.mk 1 attr l [] 0 0 1 []) e/\Below w.heap.size w w':=by
 have hc:=cloneI q c l _ (h.below ((Below.refl w.heap.size w).alloc (Nat.le_refl _) (.cells #[.int .i64 0,.string ⟨#[]⟩,.slice none 0 0,.slice none 0 0,.int .i64 0,.int .i64 0,.int .i64 0,.slice none 0 0] 29))) hl
 clear h hl
 have B0:=hide ((Below.refl w.heap.size w).alloc (Nat.le_refl _) (.cells #[.int .i64 0,.string ⟨#[]⟩,.slice none 0 0,.slice none 0 0,.int .i64 0,.int .i64 0,.int .i64 0,.slice none 0 0] 29))
 go_enter Tryz.func172,Tryz.ntmps172
 go_wp2_with (first
  | (go_at_call 184;refine hc.mono ?_;rintro e w1 ⟨q1,k1,rfl,o1,b1⟩;have O1:=hide o1;have B1:=hide b1;clear o1 b1)
  | (go_at_call 174;refine (leaf_any _ _ _ _ _ _ _ _ _ _ _).mono ?_;rintro e w2 ⟨rfl,b2⟩;obtain ⟨z1,⟨r0,r1,r2,r3,r4,r5,r6,r7⟩,rf⟩:=boxR (below_sub (uh B1) b2);have B2:=hide b2;clear b2))
 refine bodyPost_ret (v:=.agg #[.int .i64 1,.string attr,.slice q1 l.length k1,.slice none 0 0,.int .i64 0,.int .i64 0,.int .i64 1,.slice none 0 0]) (by simp [results,Tryz.results172,go_sem, *]) rfl ?_
 have s1:=(uh B1).size
 simp at s1
 have f1:∀ a,q1=some a->w.heap.size + 1<=a.block:=fun a e=>by have:=(uh O1).from a e;simp at this;omega
 refine ⟨⟨⟨1,attr,q1,l.length,k1,none,0,0,0,0,1,none,0,0⟩,rfl, ?_⟩,set8_below (below_sub (below_sub (uh B0) (uh B1)) (uh B2)) (Nat.le_refl _) _ _ _ _ _ _ _ _⟩
 exact (NdFrom.leaf (words:=[]) ((uh O1).low.up f1 ((SameUp.of (uh B2)).trans (set8_up (B:=w.heap.size + 1) (g:=w.heap.size) _ (Nat.lt_succ_self _) _ _ _ _ _ _ _ _))) f1 (OwnK.nil _ _) no_from).mono (Nat.le_succ _)
set_option maxHeartbeats 2000000 in
theorem words_any (attr:ByteArray) (q:Option Addr) (c:Nat) (l:List ByteArray) (w:World) (h:SlOf encS 1 w q c l) (hl:l.length<=1000000000000) :
  Calls Tryz.prog 170 #[.string attr,.slice q l.length c] w fun e w'=>NewT w.heap.size w' (.mk 2 attr [] l 0 0 1 []) e/\Below w.heap.size w w':=by
 have hc:=cloneS q c l _ (h.below ((Below.refl w.heap.size w).alloc (Nat.le_refl _) (.cells #[.int .i64 0,.string ⟨#[]⟩,.slice none 0 0,.slice none 0 0,.int .i64 0,.int .i64 0,.int .i64 0,.slice none 0 0] 29))) hl
 clear h hl
 have B0:=hide ((Below.refl w.heap.size w).alloc (Nat.le_refl _) (.cells #[.int .i64 0,.string ⟨#[]⟩,.slice none 0 0,.slice none 0 0,.int .i64 0,.int .i64 0,.int .i64 0,.slice none 0 0] 29))
 go_enter Tryz.func170,Tryz.ntmps170
 go_wp2_with (first
  | (go_at_call 183;refine hc.mono ?_;rintro e w1 ⟨q1,k1,rfl,o1,b1⟩;have O1:=hide o1;have B1:=hide b1;clear o1 b1)
  | (go_at_call 174;refine (leaf_any _ _ _ _ _ _ _ _ _ _ _).mono ?_;rintro e w2 ⟨rfl,b2⟩;obtain ⟨z1,⟨r0,r1,r2,r3,r4,r5,r6,r7⟩,rf⟩:=boxR (below_sub (uh B1) b2);have B2:=hide b2;clear b2))
 refine bodyPost_ret (v:=.agg #[.int .i64 2,.string attr,.slice none 0 0,.slice q1 l.length k1,.int .i64 0,.int .i64 0,.int .i64 1,.slice none 0 0]) (by simp [results,Tryz.results170,go_sem, *]) rfl ?_
 have s1:=(uh B1).size
 simp at s1
 have f1:∀ a,q1=some a->w.heap.size + 1<=a.block:=fun a e=>by have:=(uh O1).from a e;simp at this;omega
 refine ⟨⟨⟨2,attr,none,0,0,q1,l.length,k1,0,0,1,none,0,0⟩,rfl, ?_⟩,set8_below (below_sub (below_sub (uh B0) (uh B1)) (uh B2)) (Nat.le_refl _) _ _ _ _ _ _ _ _⟩
 exact (NdFrom.leaf (ints:=[]) (OwnK.nil _ _) no_from ((uh O1).low.up f1 ((SameUp.of (uh B2)).trans (set8_up (B:=w.heap.size + 1) (g:=w.heap.size) _ (Nat.lt_succ_self _) _ _ _ _ _ _ _ _))) f1).mono (Nat.le_succ _)
set_option maxHeartbeats 2000000 in
theorem range_any (attr:ByteArray) (lo hi:Int) (w:World) :
  Calls Tryz.prog 173 #[.string attr,.int .i64 lo,.int .i64 hi] w fun e w'=>NewT w.heap.size w' (.mk 3 attr [] [] lo hi 1 []) e/\Below w.heap.size w w':=by
 have B0:=hide ((Below.refl w.heap.size w).alloc (Nat.le_refl _) (.cells #[.int .i64 0,.string ⟨#[]⟩,.slice none 0 0,.slice none 0 0,.int .i64 0,.int .i64 0,.int .i64 0,.slice none 0 0] 29))
 go_enter Tryz.func173,Tryz.ntmps173
 go_wp2_with (first
  | (go_at_call 174;refine (leaf_any _ _ _ _ _ _ _ _ _ _ _).mono ?_;rintro e w2 ⟨rfl,b2⟩;obtain ⟨z1,⟨r0,r1,r2,r3,r4,r5,r6,r7⟩,rf⟩:=boxR (b2);have B2:=hide b2;clear b2))
 refine bodyPost_ret (v:=.agg #[.int .i64 3,.string attr,.slice none 0 0,.slice none 0 0,.int .i64 lo,.int .i64 hi,.int .i64 1,.slice none 0 0]) (by simp [results,Tryz.results173,go_sem, *]) rfl ?_
 refine ⟨⟨⟨3,attr,none,0,0,none,0,0,lo,hi,1,none,0,0⟩,rfl, ?_⟩,set8_below (below_sub (uh B0) (uh B2)) (Nat.le_refl _) _ _ _ _ _ _ _ _⟩
 exact NdFrom.leaf (ints:=[]) (words:=[]) (OwnK.nil _ _) no_from (OwnK.nil _ _) no_from
set_option maxHeartbeats 2000000 in
theorem prefix_any (attr:ByteArray) (s:ByteArray) (w:World) :
  Calls Tryz.prog 158 #[.string attr,.string s] w fun e w'=>NewT w.heap.size w' (.mk 4 attr [] [s] 0 0 1 []) e/\Below w.heap.size w w':=by
 have B0:=hide ((Below.refl w.heap.size w).alloc (Nat.le_refl _) (.cells #[.int .i64 0,.string ⟨#[]⟩,.slice none 0 0,.slice none 0 0,.int .i64 0,.int .i64 0,.int .i64 0,.slice none 0 0] 29))
 go_enter Tryz.func158,Tryz.ntmps158
 go_wp2_with (first
  | (go_at_call 174;refine (leaf_any _ _ _ _ _ _ _ _ _ _ _).mono ?_;rintro e w2 ⟨rfl,b2⟩;obtain ⟨z1,⟨r0,r1,r2,r3,r4,r5,r6,r7⟩,rf⟩:=boxR (below_sub ((Below.refl _ _).alloc (Nat.le_refl _) _) b2);have B2:=hide b2;clear b2))
 refine bodyPost_ret (v:=.agg #[.int .i64 4,.string attr,.slice none 0 0,.slice (some ⟨w.heap.size + 1,0,none⟩) 1 1,.int .i64 0,.int .i64 0,.int .i64 1,.slice none 0 0]) (by simp [results,Tryz.results158,go_sem, *]) rfl ?_
 have s2:=(uh B2).size
 simp at s2
 have hcell:((w.alloc (.cells #[.int .i64 0,.string ⟨#[]⟩,.slice none 0 0,.slice none 0 0,.int .i64 0,.int .i64 0,.int .i64 0,.slice none 0 0] 29)).alloc (.cells #[.string s] 9)).cell? ⟨w.heap.size + 1,0,none⟩=some (.string s):=by go_simp
 have hw1:OwnK encS 9 1 0 ((w.alloc (.cells #[.int .i64 0,.string ⟨#[]⟩,.slice none 0 0,.slice none 0 0,.int .i64 0,.int .i64 0,.int .i64 0,.slice none 0 0] 29)).alloc (.cells #[.string s] 9)) (some ⟨w.heap.size + 1,0,none⟩) 1 [s]:=by
  have hb:=box_nw (w.alloc (.cells #[.int .i64 0,.string ⟨#[]⟩,.slice none 0 0,.slice none 0 0,.int .i64 0,.int .i64 0,.int .i64 0,.slice none 0 0] 29)) (.cells #[.string s] 9)
  have hs:(w.alloc (.cells #[.int .i64 0,.string ⟨#[]⟩,.slice none 0 0,.slice none 0 0,.int .i64 0,.int .i64 0,.int .i64 0,.slice none 0 0] 29)).heap.size=w.heap.size + 1:=by simp
  rw [hs] at hb
  unfold OwnK;exact ⟨by simp,Or.inr ⟨w.heap.size + 1,1,_,rfl,Nat.zero_le _,hb,Nat.le_refl _,by unfold maxLen;omega,rfl,by simp only [Go.Sort.flatK,Array.toList_map,Array.toList_range];simp [List.range,List.range.loop,encS]⟩⟩
 have f1:∀ a:Addr,some (⟨w.heap.size + 1,0,none⟩:Addr)=some a->w.heap.size + 1<=a.block:=fun a e=>by cases e;exact Nat.le_refl _
 refine ⟨⟨⟨4,attr,none,0,0,some ⟨w.heap.size + 1,0,none⟩,1,1,0,0,1,none,0,0⟩,rfl, ?_⟩,set8_below (below_sub ((uh B0).alloc (by simp) _) (uh B2)) (Nat.le_refl _) _ _ _ _ _ _ _ _⟩
 exact (NdFrom.leaf (ints:=[]) (OwnK.nil _ _) no_from (hw1.up f1 ((SameUp.of (uh B2)).trans (set8_up (B:=w.heap.size + 1) (g:=w.heap.size) _ (Nat.lt_succ_self _) _ _ _ _ _ _ _ _))) f1).mono (Nat.le_succ _)
end Go.Proofs.YtencibjmiphinaaGreatDoor

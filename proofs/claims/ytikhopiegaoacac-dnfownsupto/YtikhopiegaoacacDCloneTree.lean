/- What clone and cloneAll return, for every tree: new memory that holds the same. -/
import Derived.Test.YtikhopiegaoacacDZac
namespace Go.Proofs.Ytikhopiegaoacac
open Go.RowKit Go.Sort

theorem flat_at8 (l:List Nv) (j:Nat) (x:Nv) (h:l[j]? = some x) (c:Nat) (hc:c < 8):(flatK encV 8 l.toArray).toList[j * 8 + c]? = some ((encV x)[c]!):=flat_at h c hc
theorem flat_len (l:List Nv):(flatK encV 8 l.toArray).toList.length=l.length * 8:=by simp
theorem flat_set8 (l:List Nv) (k:Nat) (v:Nv) (hk:k < l.length):(flatK encV 8 (l.set k v).toArray).toList=(((((((((flatK encV 8 l.toArray).toList).set (k * 8) (.int .i64 v.kind)).set (k * 8 + 1) (.string v.attr)).set (k * 8 + 2) (.slice v.qi v.ni v.ci)).set (k * 8 + 3) (.slice v.qw v.nw v.cw)).set (k * 8 + 4) (.int .i64 v.lo)).set (k * 8 + 5) (.int .i64 v.hi)).set (k * 8 + 6) (.int .i64 v.op)).set (k * 8 + 7) (.slice v.qk v.nk v.ck):=by
 apply List.ext_getElem?
 intro i
 by_cases hi:i < l.length * 8
 ·have hq:i / 8 < l.length:=by omega
  have hi2:i=i / 8 * 8 + i % 8:=by omega
  by_cases h:i / 8=k
  ·have h1:(l.set k v)[k]? = some v:=by rw [List.getElem?_set_self hk]
   have h2:=flat_at8 (l.set k v) k v h1 (i % 8) (by omega)
   have hlen:=flat_len l
   rw [h] at hi2
   have hm:i % 8=0 ∨ i % 8=1 ∨ i % 8=2 ∨ i % 8=3 ∨ i % 8=4 ∨ i % 8=5 ∨ i % 8=6 ∨ i % 8=7:=by omega
   rcases hm with e | e | e | e | e | e | e | e
   all_goals
    rw [e] at hi2 h2
    rw [hi2,h2]
    simp [List.getElem?_set,encV]
    omega
  ·obtain ⟨x,hx,_⟩:=get_at hq
   have h1:(l.set k v)[i / 8]? = some x:=by rw [List.getElem?_set_ne (by omega)];exact hx
   have h2:=flat_at8 (l.set k v) (i / 8) x h1 (i % 8) (by omega)
   have h3:=flat_at8 l (i / 8) x hx (i % 8) (by omega)
   rw [← hi2] at h2 h3
   rw [h2]
   rw [List.getElem?_set_ne (by omega),List.getElem?_set_ne (by omega),List.getElem?_set_ne (by omega),List.getElem?_set_ne (by omega),List.getElem?_set_ne (by omega),List.getElem?_set_ne (by omega),List.getElem?_set_ne (by omega),List.getElem?_set_ne (by omega),h3]
 ·rw [List.getElem?_eq_none (by rw [flat_len];simp;omega),List.getElem?_eq_none (by simp;omega)]
/-- A node stored into a row of the call's own. -/
theorem own_set8 {B g c:Nat} {w:World} {l:List Nv} {k:Nat} (h:OwnK encV 28 8 B w (some ⟨g,0,none⟩) c l) (hk:k < l.length) (v:Nv) :
  OwnK encV 28 8 B (((((((((w).setCell ⟨g,k * 8,none⟩ (.int .i64 v.kind)).setCell ⟨g,k * 8 + 1,none⟩ (.string v.attr)).setCell ⟨g,k * 8 + 2,none⟩ (.slice v.qi v.ni v.ci)).setCell ⟨g,k * 8 + 3,none⟩ (.slice v.qw v.nw v.cw)).setCell ⟨g,k * 8 + 4,none⟩ (.int .i64 v.lo)).setCell ⟨g,k * 8 + 5,none⟩ (.int .i64 v.hi)).setCell ⟨g,k * 8 + 6,none⟩ (.int .i64 v.op)).setCell ⟨g,k * 8 + 7,none⟩ (.slice v.qk v.nk v.ck)) (some ⟨g,0,none⟩) c (l.set k v)∧SameUp (g + 1) w (((((((((w).setCell ⟨g,k * 8,none⟩ (.int .i64 v.kind)).setCell ⟨g,k * 8 + 1,none⟩ (.string v.attr)).setCell ⟨g,k * 8 + 2,none⟩ (.slice v.qi v.ni v.ci)).setCell ⟨g,k * 8 + 3,none⟩ (.slice v.qw v.nw v.cw)).setCell ⟨g,k * 8 + 4,none⟩ (.int .i64 v.lo)).setCell ⟨g,k * 8 + 5,none⟩ (.int .i64 v.hi)).setCell ⟨g,k * 8 + 6,none⟩ (.int .i64 v.op)).setCell ⟨g,k * 8 + 7,none⟩ (.slice v.qk v.nk v.ck)):=by
 unfold OwnK at h
 have h0:=World.ownsRow.stored h (k * 8) (.int .i64 v.kind)
 have h1:=World.ownsRow.stored h0.1 (k * 8 + 1) (.string v.attr)
 have h2:=World.ownsRow.stored h1.1 (k * 8 + 2) (.slice v.qi v.ni v.ci)
 have h3:=World.ownsRow.stored h2.1 (k * 8 + 3) (.slice v.qw v.nw v.cw)
 have h4:=World.ownsRow.stored h3.1 (k * 8 + 4) (.int .i64 v.lo)
 have h5:=World.ownsRow.stored h4.1 (k * 8 + 5) (.int .i64 v.hi)
 have h6:=World.ownsRow.stored h5.1 (k * 8 + 6) (.int .i64 v.op)
 have h7:=World.ownsRow.stored h6.1 (k * 8 + 7) (.slice v.qk v.nk v.ck)
 refine ⟨?_, ?_⟩
 ·unfold OwnK
  rw [flat_set8 l k v hk,List.length_set]
  exact h7.1
 ·exact (((((((SameUp.grown h0.2 (by omega)).trans (SameUp.grown h1.2 (by omega))).trans (SameUp.grown h2.2 (by omega))).trans (SameUp.grown h3.2 (by omega))).trans (SameUp.grown h4.2 (by omega))).trans (SameUp.grown h5.2 (by omega))).trans (SameUp.grown h6.2 (by omega))).trans (SameUp.grown h7.2 (by omega))
theorem below_set8 {B g:Nat} {a w:World} (h:Below B a w) (hg:B≤g) (k:Nat) (v:Nv):Below B a (((((((((w).setCell ⟨g,k * 8,none⟩ (.int .i64 v.kind)).setCell ⟨g,k * 8 + 1,none⟩ (.string v.attr)).setCell ⟨g,k * 8 + 2,none⟩ (.slice v.qi v.ni v.ci)).setCell ⟨g,k * 8 + 3,none⟩ (.slice v.qw v.nw v.cw)).setCell ⟨g,k * 8 + 4,none⟩ (.int .i64 v.lo)).setCell ⟨g,k * 8 + 5,none⟩ (.int .i64 v.hi)).setCell ⟨g,k * 8 + 6,none⟩ (.int .i64 v.op)).setCell ⟨g,k * 8 + 7,none⟩ (.slice v.qk v.nk v.ck)):=((((((((h).setCell hg _).setCell hg _).setCell hg _).setCell hg _).setCell hg _).setCell hg _).setCell hg _).setCell hg _
/-- What clone has to do at a tree. -/
def CloneP (x:Nd):Prop:=∀ (v:Nv) (w:World),NdIn w v x→wtN x≤1000000000→Calls Try.prog 32 #[v.val] w fun e w'=>∃ v',e=.returned v'.val∧NdFrom w' w.heap.size v' x∧Below w.heap.size w w'
theorem OwnK.cases {B c:Nat} {w:World} {q:Option Addr} {l:List Nv} (h:OwnK encV 28 8 B w q c l):(q=none∧l=[]∧c=0) ∨ ∃ g,q=some ⟨g,0,none⟩∧B≤g∧g < w.heap.size∧∀ o,w.frozen? ⟨g,o,none⟩=false:=by
 rcases h.2 with ⟨h0,hl⟩ | ⟨g,cp,cur,hv,hB,hblk,_⟩
 ·injection h0 with h1 h2 h3
  exact Or.inl ⟨h1,List.length_eq_zero_iff.1 h2,h3⟩
 ·injection hv with h1
  exact Or.inr ⟨g,h1,hB,(Array.getElem?_eq_some_iff.1 hblk).1,fun o=>frozen_free hblk⟩
theorem OwnK.cells {B g c:Nat} {w:World} {l:List Nv} {j:Nat} {v:Nv} (h:OwnK encV 28 8 B w (some ⟨g,0,none⟩) c l) (hj:l[j]? = some v):w.cell? ⟨g,j * 8,none⟩=some (.int .i64 v.kind)∧w.cell? ⟨g,j * 8 + 1,none⟩=some (.string v.attr)∧w.cell? ⟨g,j * 8 + 2,none⟩=some (.slice v.qi v.ni v.ci)∧w.cell? ⟨g,j * 8 + 3,none⟩=some (.slice v.qw v.nw v.cw)∧w.cell? ⟨g,j * 8 + 4,none⟩=some (.int .i64 v.lo)∧w.cell? ⟨g,j * 8 + 5,none⟩=some (.int .i64 v.hi)∧w.cell? ⟨g,j * 8 + 6,none⟩=some (.int .i64 v.op)∧w.cell? ⟨g,j * 8 + 7,none⟩=some (.slice v.qk v.nk v.ck):=by
 obtain ⟨b,off,hq,_,hc⟩:=h.ls.2.2.2.at hj
 cases hq
 have hh:=fun c hc'=>hc c hc'
 simp only [Nat.zero_add] at hh
 exact ⟨hh 0 (by omega),hh 1 (by omega),hh 2 (by omega),hh 3 (by omega),hh 4 (by omega),hh 5 (by omega),hh 6 (by omega),hh 7 (by omega)⟩
theorem OwnK.free {B g c:Nat} {w:World} {l:List Nv} (h:OwnK encV 28 8 B w (some ⟨g,0,none⟩) c l):g < w.heap.size∧∀ o,w.frozen? ⟨g,o,none⟩=false:=by
 rcases h.cases with ⟨h0,_⟩ | ⟨g',h1,_,h2,h3⟩
 ·cases h0
 ·cases h1;exact ⟨h2,h3⟩
theorem of8' {w:World} {N:Nat} {a0 a1 a2 a3 a4 a5 a6 a7:Value} {T:TypeId} (h:w.heap[N]? = some (.cells #[a0,a1,a2,a3,a4,a5,a6,a7] T (0,0))):w.cell? ⟨N,0,none⟩=some a0∧w.cell? ⟨N,1,none⟩=some a1∧w.cell? ⟨N,2,none⟩=some a2∧w.cell? ⟨N,3,none⟩=some a3∧w.cell? ⟨N,4,none⟩=some a4∧w.cell? ⟨N,5,none⟩=some a5∧w.cell? ⟨N,6,none⟩=some a6∧w.cell? ⟨N,7,none⟩=some a7:=by
 refine ⟨?_, ?_, ?_, ?_, ?_, ?_, ?_, ?_⟩ <;> (unfold World.cell?;simp [h])
/-- What cloneAll answers. -/
def AllPost (B:Nat) (w':World) (kids:List Nd) (e:Ending):Prop:=∃ q' c' vs',e=.returned (.slice q' kids.length c')∧OwnK encV 28 8 B w' q' c' vs'∧vs'.length=kids.length∧∀ (j:Nat) (v:Nv) (x:Nd),vs'[j]? = some v→kids[j]? = some x→NdFrom w' B v x
set_option maxHeartbeats 4000000 in
theorem cloneAll_any (q:Option Addr) (c:Nat) (kids:List Nd) (w:World) (hk:NdsOf w q c kids) (ih:∀ x ∈ kids,CloneP x) (hwt:wtL kids≤1000000000) :
  Calls Try.prog 51 #[.slice q kids.length c] w fun e w'=>AllPost w.heap.size w' kids e∧Below w.heap.size w w':=by
 obtain ⟨vs,hs,hvl,hin⟩:=hk
 have hln:=len_size kids
 have hln2:=sizeL_wt kids
 have hcl:=cloneV q c vs w hs (by omega)
 rw [hvl] at hcl
 have IH:=hide ih
 have HIN:=hide hin
 have a0:(kids.length:Int)≤1000000000:=by omega
 clear ih hin hs
 go_enter Try.func51,Try.ntmps51
 go_wp2_with (go_at_call 65;refine hcl.mono ?_;rintro e w1 ⟨q1,c1,rfl,o1,b1⟩;have O1:=hide o1;have B1:=hide b1;clear o1 b1)
 clear hcl
 rcases (uh O1).cases with ⟨rfl,rfl,rfl⟩ | ⟨g,rfl,hgB,hg,hfz⟩
 ·have h0:kids=[]:=List.length_eq_zero_iff.1 (by simpa using hvl.symm)
  subst h0
  simp only [List.length_nil,Int.natCast_zero] at *
  go_loopw [10] (fun i wr=>i=.int .i64 0∧Hid (wr=w1)) (fun _ _=>0)
  case atStart=>exact ⟨rfl,hide rfl⟩
  case round =>
   obtain ⟨rfl,hwr⟩:=hrel
   obtain rfl:=(uh hwr).symm
   go_wp2
   go_ret
   exact ⟨⟨none,0,[],rfl,OwnK.nil _ _,rfl,fun j v x h=>by simp at h⟩,uh B1⟩
 ·clear hfz
  go_loopw [10] (fun i wr=>∃ (k:Nat) (us:List Nv),k≤kids.length∧i=.int .i64 k∧us.length=k∧OwnK encV 28 8 w.heap.size wr (some ⟨g,0,none⟩) c1 (us ++ vs.drop k)∧(∀ (j:Nat) (v:Nv) (x:Nd),us[j]? = some v→kids[j]? = some x→NdFrom wr (g + 1) v x)∧Below w.heap.size w wr∧g < wr.heap.size) (fun i _=>kids.length - (intOf i).toNat)
  case atStart=>exact ⟨0,[],by omega,rfl,rfl,by simpa using uh O1,fun j v x h=>by simp at h,uh B1,hg⟩
  case round =>
   obtain ⟨k,us,hkk,rfl,hus,hown,hfr,hbel,hgr⟩:=hrel
   clear O1 B1 hg
   obtain ⟨U,rfl⟩:∃ U,U=wr:=⟨_,rfl⟩
   by_cases hlt:k < kids.length
   ·obtain ⟨x,hx,hxd⟩:=get_at hlt
    obtain ⟨v,hv,hvd⟩:=get_at (l:=vs) (k:=k) (by omega)
    have hvk:(us ++ vs.drop k)[k]? = some v:=by
     rw [List.getElem?_append_right (by omega),hus,Nat.sub_self,hvd];rfl
    obtain ⟨y0,y1,y2,y3,y4,y5,y6,y7⟩:=hown.cells hvk
    have ki0:(0:Int)≤(k:Int):=by omega
    have ki1:(k:Int) < (kids.length:Int):=by omega
    have hxm:x ∈ kids:=List.mem_of_getElem? hx
    have hxs:=wtL_mem hxm
    obtain ⟨Y,HY⟩:∃ Y,U.alloc (.cells #[.int .i64 v.kind,.string v.attr,.slice v.qi v.ni v.ci,.slice v.qw v.nw v.cw,.int .i64 v.lo,.int .i64 v.hi,.int .i64 v.op,.slice v.qk v.nk v.ck] 28)=Y:=⟨_,rfl⟩
    have hM:Y.heap[U.heap.size]? = some (.cells #[.int .i64 v.kind,.string v.attr,.slice v.qi v.ni v.ci,.slice v.qw v.nw v.cw,.int .i64 v.lo,.int .i64 v.hi,.int .i64 v.op,.slice v.qk v.nk v.ck] 28 (0,0)):=by rw [← HY];simp [World.alloc,-World.alloc_eq]
    have hUY:Below U.heap.size U Y:=by rw [← HY];exact (Below.refl _ _).alloc (Nat.le_refl _) _
    obtain ⟨m0,m1,m2,m3,m4,m5,m6,m7⟩:=of8' hM
    have hYs:=hUY.size
    have hws:=hbel.size
    have hcx:=uh IH x hxm v Y (((uh HIN k v x hv hx).keep hbel).keep hUY) (by omega)
    simp only [Nv.val] at hcx
    have HOY:=hide (hown.below hUY)
    have HUY:=hide hUY
    have HB:=hide hbel
    have HFR:=hide hfr
    have HUS:=hide hus
    have HVD:=hide hvd
    have HXX:=hide hx
    have HL:=hide (show k < (us ++ vs.drop k).length by rw [List.length_append,hus,List.length_drop];omega)
    clear hown hfr hbel hUY hus hvd hx hxd hvk hM hv hxm
    go_wp2_with (go_at_call 32;refine hcx.mono ?_;rintro e w2 ⟨v',rfl,f2,b2⟩;have HO2:=hide ((uh HOY).below b2);have F2:=hide f2;have B2:=hide b2;obtain ⟨z0,z1,z2,z3,z4,z5,z6,z7⟩:=(uh HO2).cells (j:=k) (v:=v) (by rw [List.getElem?_append_right (by have:=uh HUS;omega),uh HUS,Nat.sub_self,uh HVD];rfl);obtain ⟨hgg,hff⟩:=(uh HO2).free;clear f2 b2)
    obtain ⟨o3,u3⟩:=own_set8 (uh HO2) (uh HL) v'
    have hset:(us ++ vs.drop k).set k v'=(us ++ [v']) ++ vs.drop (k + 1):=by
     rw [List.set_append_right _ _ (by have:=uh HUS;omega),uh HUS,Nat.sub_self,uh HVD];simp
    rw [hset] at o3
    refine ⟨⟨k + 1,us ++ [v'],by omega,congrArg (Value.int .i64) (by omega),by rw [List.length_append,uh HUS];rfl,o3, ?_,below_set8 ((uh HB).trans (((uh HUY).mono hws).trans ((uh B2).mono (by omega)))) hgB k v',by simpa using hgg⟩,by simp [intOf];omega⟩
    intro j y z hj hz
    by_cases hjk:j < k
    ·rw [List.getElem?_append_left (by have:=uh HUS;omega)] at hj
     exact (((uh HFR j y z hj hz).keep (uh HUY)).keep (uh B2)).up u3
    ·have hj2:=(List.getElem?_eq_some_iff.1 hj).1
     rw [List.length_append,uh HUS] at hj2
     obtain rfl:j=k:=by simp at hj2;omega
     rw [List.getElem?_append_right (by have:=uh HUS;omega),uh HUS,Nat.sub_self] at hj
     rw [uh HXX] at hz
     cases hj
     cases hz
     exact ((uh F2).mono (by omega)).up u3
   ·have ki1:¬ (k:Int) < (kids.length:Int):=by omega
    have HO:=hide hown
    have HFR:=hide hfr
    have HB:=hide hbel
    clear hown hfr hbel
    go_wp2
    go_ret
    refine ⟨⟨some ⟨g,0,none⟩,c1,us,rfl, ?_,by omega,fun j y z hj hz=>(uh HFR j y z hj hz).mono (by omega)⟩,uh HB⟩
    have:=uh HO
    rw [List.drop_of_length_le (by omega),List.append_nil] at this
    exact this
theorem box_nw (w:World) (o:Obj):(w.alloc o).heap[w.heap.size]? = some o:=by simp [World.alloc,-World.alloc_eq]
theorem SameUp.set {B:Nat} {a w:World} (h:SameUp B a w) {p:Addr} (hp:p.block < B) (u:Value):SameUp B a (w.setCell p u) :=
 h.trans ⟨by simp,fun b h1 _=>Below.heap_setCell w p u b (by show b ≠ p.block;omega)⟩
set_option maxHeartbeats 4000000 in
theorem clone_at (kind:Int) (attr:ByteArray) (qi:Option Addr) (ci:Nat) (ints:List Int) (qw:Option Addr) (cw:Nat) (words:List ByteArray) (lo hi op:Int) (qk:Option Addr) (ck:Nat) (kids:List Nd) (w:World) (h1:SlOf encI 1 w qi ci ints) (h2:SlOf encS 1 w qw cw words) (hk:NdsOf w qk ck kids) (ih:∀ x ∈ kids,CloneP x) (l1:ints.length≤1000000000) (l2:words.length≤1000000000) (l3:wtL kids≤1000000000) :
  Calls Try.prog 32 #[.agg #[.int .i64 kind,.string attr,.slice qi ints.length ci,.slice qw words.length cw,.int .i64 lo,.int .i64 hi,.int .i64 op,.slice qk kids.length ck]] w fun e w'=>∃ v',e=.returned v'.val∧NdFrom w' w.heap.size v' (.mk kind attr ints words lo hi op kids)∧Below w.heap.size w w':=by
 obtain ⟨X,HX⟩:∃ X,(w.alloc (.cells #[.int .i64 kind,.string attr,.slice qi ints.length ci,.slice qw words.length cw,.int .i64 lo,.int .i64 hi,.int .i64 op,.slice qk kids.length ck] 28)).alloc (.cells #[.int .i64 0,.string ⟨#[]⟩,.slice none 0 0,.slice none 0 0,.int .i64 0,.int .i64 0,.int .i64 0,.slice none 0 0] 28)=X:=⟨_,rfl⟩
 have hXs:X.heap.size=w.heap.size + 2:=by rw [← HX];simp
 have hwX:Below w.heap.size w X:=by rw [← HX];exact ((Below.refl _ _).alloc (Nat.le_refl _) _).alloc (by simp) _
 have hX0:X.heap[w.heap.size]? = some (.cells #[.int .i64 kind,.string attr,.slice qi ints.length ci,.slice qw words.length cw,.int .i64 lo,.int .i64 hi,.int .i64 op,.slice qk kids.length ck] 28 (0,0)):=by rw [← HX,Below.heap_alloc _ _ _ (by simp)];simp [World.alloc,-World.alloc_eq]
 have hX1:X.heap[w.heap.size + 1]? = some (.cells #[.int .i64 0,.string ⟨#[]⟩,.slice none 0 0,.slice none 0 0,.int .i64 0,.int .i64 0,.int .i64 0,.slice none 0 0] 28 (0,0)):=by rw [← HX,show w.heap.size + 1=(w.alloc (.cells #[.int .i64 kind,.string attr,.slice qi ints.length ci,.slice qw words.length cw,.int .i64 lo,.int .i64 hi,.int .i64 op,.slice qk kids.length ck] 28)).heap.size by simp];exact box_nw _ _
 obtain ⟨x0,x1,x2,x3,x4,x5,x6,x7⟩:=of8' hX0
 obtain ⟨y0,y1,y2,y3,y4,y5,y6,y7⟩:=of8' hX1
 have xf:∀ o,X.frozen? ⟨w.heap.size,o,none⟩=false:=fun o=>frozen_free hX0
 have yf:∀ o,X.frozen? ⟨w.heap.size + 1,o,none⟩=false:=fun o=>frozen_free hX1
 have c1:=cloneI qi ci ints X (h1.below hwX) (by omega)
 have c2:=fun w' (hb:Below w.heap.size w w')=>cloneS qw cw words w' (h2.below hb) (by omega)
 have c3:=fun w' (hb:Below w.heap.size w w')=>cloneAll_any qk ck kids w' (hk.below hb) ih l3
 have HWX:=hide hwX
 clear h1 h2 hk ih hwX hX0 hX1
 go_enter Try.func32,Try.ntmps32
 go_wp2_with (first
  | (go_at_call 30;refine c1.mono ?_;rintro e w1 ⟨q1,k1,rfl,o1,b1⟩;obtain ⟨hc1,hf1⟩:=bcell b1;have hz1:w.heap.size + 1 < w1.heap.size:=(by have:=b1.size;omega);have hz1':w.heap.size < w1.heap.size:=(by omega);rw [hXs] at hc1 hf1;have O1:=hide o1;have B1:=hide b1;clear o1 b1)
  | (go_at_call 44;refine (c2 _ (by exact (below_sub (uh HWX) (uh B1)).setCell (Nat.le_refl _) _)).mono ?_;rintro e w2 ⟨q2,k2,rfl,o2,b2⟩;obtain ⟨hc2,hf2⟩:=bcell b2;simp only [World.size_setCell] at hc2 hf2;have hz2:w.heap.size + 1 < w2.heap.size:=(by have:=b2.size;simp at this;omega);have hz2':w.heap.size < w2.heap.size:=(by omega);have O2:=hide o2;have B2:=hide b2;clear o2 b2)
  | (go_at_call 51;refine (c3 _ (by exact (below_sub ((below_sub (uh HWX) (uh B1)).setCell (Nat.le_refl _) _) (uh B2)).setCell (Nat.le_refl _) _)).mono ?_;rintro e w3 ⟨⟨q3,k3,vs3,rfl,o3,l3',f3⟩,b3⟩;obtain ⟨hc3,hf3⟩:=bcell b3;have hz3:w.heap.size + 1 < w3.heap.size:=(by have:=b3.size;simp at this;omega);have hz3':w.heap.size < w3.heap.size:=(by omega);have O3:=hide o3;have B3:=hide b3;have F3:=hide f3;have L3:=hide l3';clear o3 b3 f3 l3'))
 refine bodyPost_ret (v:=.agg #[.int .i64 kind,.string attr,.slice q1 ints.length k1,.slice q2 words.length k2,.int .i64 lo,.int .i64 hi,.int .i64 op,.slice q3 kids.length k3]) (by simp [results,Try.results32,go_sem, *]) rfl ?_
 have s1:=(uh B1).size
 have s2:=(uh B2).size
 have s3:=(uh B3).size
 simp only [World.size_setCell] at s2 s3
 have u0:∀ (W:World),SameUp (w.heap.size + 2) W W:=fun W=>SameUp.of (Below.refl _ _)
 have u3:=(((((((((u0 w3).set (p:=⟨w.heap.size,7,none⟩) (by simp) (.slice q3 kids.length k3)).set (p:=⟨w.heap.size + 1,0,none⟩) (by simp) (.int .i64 kind)).set (p:=⟨w.heap.size + 1,1,none⟩) (by simp) (.string attr)).set (p:=⟨w.heap.size + 1,2,none⟩) (by simp) (.slice q1 ints.length k1)).set (p:=⟨w.heap.size + 1,3,none⟩) (by simp) (.slice q2 words.length k2)).set (p:=⟨w.heap.size + 1,4,none⟩) (by simp) (.int .i64 lo)).set (p:=⟨w.heap.size + 1,5,none⟩) (by simp) (.int .i64 hi)).set (p:=⟨w.heap.size + 1,6,none⟩) (by simp) (.int .i64 op)).set (p:=⟨w.heap.size + 1,7,none⟩) (by simp) (.slice q3 kids.length k3)
 have u2:=(((u0 w2).set (p:=⟨w.heap.size,3,none⟩) (by simp) (.slice q2 words.length k2)).trans (SameUp.of (uh B3))).trans u3
 have u1:=(((u0 w1).set (p:=⟨w.heap.size,2,none⟩) (by simp) (.slice q1 ints.length k1)).trans (SameUp.of (uh B2))).trans u2
 have g1:∀ a,q1=some a→w.heap.size + 2≤a.block:=fun a e=>by have:=(uh O1).from a e;omega
 have g2:∀ a,q2=some a→w.heap.size + 2≤a.block:=fun a e=>by have:=(uh O2).from a e;simp only [World.size_setCell] at this;omega
 have g3:∀ a,q3=some a→w.heap.size + 2≤a.block:=fun a e=>by have:=(uh O3).from a e;simp only [World.size_setCell] at this;omega
 refine ⟨⟨kind,attr,q1,ints.length,k1,q2,words.length,k2,lo,hi,op,q3,kids.length,k3⟩,rfl, ?_, ?_⟩
 ·have hf:∀ (j:Nat) (v:Nv) (x:Nd),vs3[j]? = some v→kids[j]? = some x→NdFrom _ (w.heap.size + 2) v x:=fun j v x hj hx=>((uh F3 j v x hj hx).mono (by simp only [World.size_setCell];omega)).up u3
  exact (NdFrom.make ((uh O1).upF g1 u1.2) ((uh O2).upF g2 u2.2) ((uh O3).upF g3 u3.2) (uh L3) hf).mono (by omega)
 ·exact ((((((((((below_sub ((below_sub ((below_sub (uh HWX) (uh B1)).setCell (Nat.le_refl _) _) (uh B2)).setCell (Nat.le_refl _) _) (uh B3)).setCell (Nat.le_refl _) _).setCell (Nat.le_succ _) _).setCell (Nat.le_succ _) _).setCell (Nat.le_succ _) _).setCell (Nat.le_succ _) _).setCell (Nat.le_succ _) _).setCell (Nat.le_succ _) _).setCell (Nat.le_succ _) _).setCell (Nat.le_succ _) _)
theorem clone_any:∀ x,CloneP x:=by
 intro t
 induction t using Nd.ind with
 | h kind attr ints words lo hi op kids ih =>
  intro v w hin hwt
  obtain ⟨qi,ci,qw,cw,qk,ck,rfl,h1,h2,hk⟩:=hin.parts
  simp only [wtN] at hwt
  have hwl:=words_len words
  exact clone_at kind attr qi ci ints qw cw words lo hi op qk ck kids w h1 h2 hk ih (by omega) (by omega) (by omega)
end Go.Proofs.Ytikhopiegaoacac

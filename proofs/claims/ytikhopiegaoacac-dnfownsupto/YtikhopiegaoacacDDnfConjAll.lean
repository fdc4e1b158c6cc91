/- dnf's conj of any tree. -/
import Derived.Test.YtikhopiegaoacacDDnfChoice
namespace Go.Proofs.Ytikhopiegaoacac
open Go.RowKit Go.Sort

set_option maxRecDepth 100000 in
set_option maxHeartbeats 1000000 in
theorem tail_or (s:Sv) (nk P:Nat) (q:Option Addr) (c n:Nat) (w:World) (Q:Ending→World→Prop) (hC:∀ X,Below w.heap.size w X→Calls Try.prog 42 #[.agg #[.int .i64 s.lit.kind,.string s.lit.attr,.slice s.lit.qi s.lit.ni s.lit.ci,.slice s.lit.qw s.lit.nw s.lit.cw,.int .i64 s.lit.lo,.int .i64 s.lit.hi,.bool s.lit.neg,.int .i64 4,.int .i64 s.width,.slice s.qk nk s.ck],.int .i64 P,.slice q n c] X (fun e w'=>∃ v,e=.returned v∧Q e w')) :
  Calls Try.prog 24 #[.agg #[.int .i64 s.lit.kind,.string s.lit.attr,.slice s.lit.qi s.lit.ni s.lit.ci,.slice s.lit.qw s.lit.nw s.lit.cw,.int .i64 s.lit.lo,.int .i64 s.lit.hi,.bool s.lit.neg,.int .i64 4,.int .i64 s.width,.slice s.qk nk s.ck],.int .i64 P,.slice q n c] w Q:=by
 obtain ⟨X,HX⟩:∃ X,w.alloc (.cells #[.int .i64 s.lit.kind,.string s.lit.attr,.slice s.lit.qi s.lit.ni s.lit.ci,.slice s.lit.qw s.lit.nw s.lit.cw,.int .i64 s.lit.lo,.int .i64 s.lit.hi,.bool s.lit.neg,.int .i64 4,.int .i64 s.width,.slice s.qk nk s.ck] 62)=X:=⟨_,rfl⟩
 have bX:Below w.heap.size w X:=by rw [← HX];exact (Below.refl _ _).alloc (Nat.le_refl _) _
 have xk:X.heap[w.heap.size]? = some (.cells #[.int .i64 s.lit.kind,.string s.lit.attr,.slice s.lit.qi s.lit.ni s.lit.ci,.slice s.lit.qw s.lit.nw s.lit.cw,.int .i64 s.lit.lo,.int .i64 s.lit.hi,.bool s.lit.neg,.int .i64 4,.int .i64 s.width,.slice s.qk nk s.ck] 62 (0,0)):=by rw [← HX];exact box_nw _ _
 obtain ⟨x0,x1,x2,x3,x4,x5,x6,x7,x8,x9⟩:=of10' xk
 have hC1:=hC X bX
 clear hC bX xk
 go_enter Try.func24,Try.ntmps24
 go_wp2_with (go_at_call 42;refine hC1.mono ?_;rintro e w2 ⟨v,rfl,h⟩;have HQ:=hide h;clear h)
 exact uh HQ
set_option maxRecDepth 100000 in
set_option maxHeartbeats 1000000 in
theorem tail_and (s:Sv) (nk P:Nat) (q:Option Addr) (c n:Nat) (w:World) (Q:Ending→World→Prop) (hC:∀ X,Below w.heap.size w X→Calls Try.prog 43 #[.agg #[.int .i64 s.lit.kind,.string s.lit.attr,.slice s.lit.qi s.lit.ni s.lit.ci,.slice s.lit.qw s.lit.nw s.lit.cw,.int .i64 s.lit.lo,.int .i64 s.lit.hi,.bool s.lit.neg,.int .i64 3,.int .i64 s.width,.slice s.qk nk s.ck],.int .i64 P,.slice q n c] X (fun e w'=>∃ v,e=.returned v∧Q e w')) :
  Calls Try.prog 24 #[.agg #[.int .i64 s.lit.kind,.string s.lit.attr,.slice s.lit.qi s.lit.ni s.lit.ci,.slice s.lit.qw s.lit.nw s.lit.cw,.int .i64 s.lit.lo,.int .i64 s.lit.hi,.bool s.lit.neg,.int .i64 3,.int .i64 s.width,.slice s.qk nk s.ck],.int .i64 P,.slice q n c] w Q:=by
 obtain ⟨X,HX⟩:∃ X,w.alloc (.cells #[.int .i64 s.lit.kind,.string s.lit.attr,.slice s.lit.qi s.lit.ni s.lit.ci,.slice s.lit.qw s.lit.nw s.lit.cw,.int .i64 s.lit.lo,.int .i64 s.lit.hi,.bool s.lit.neg,.int .i64 3,.int .i64 s.width,.slice s.qk nk s.ck] 62)=X:=⟨_,rfl⟩
 have bX:Below w.heap.size w X:=by rw [← HX];exact (Below.refl _ _).alloc (Nat.le_refl _) _
 have xk:X.heap[w.heap.size]? = some (.cells #[.int .i64 s.lit.kind,.string s.lit.attr,.slice s.lit.qi s.lit.ni s.lit.ci,.slice s.lit.qw s.lit.nw s.lit.cw,.int .i64 s.lit.lo,.int .i64 s.lit.hi,.bool s.lit.neg,.int .i64 3,.int .i64 s.width,.slice s.qk nk s.ck] 62 (0,0)):=by rw [← HX];exact box_nw _ _
 obtain ⟨x0,x1,x2,x3,x4,x5,x6,x7,x8,x9⟩:=of10' xk
 have hC1:=hC X bX
 clear hC bX xk
 go_enter Try.func24,Try.ntmps24
 go_wp2_with (go_at_call 43;refine hC1.mono ?_;rintro e w2 ⟨v,rfl,h⟩;have HQ:=hide h;clear h)
 exact uh HQ
theorem conj_or (kids:List Nd) (hK:∀ x ∈ kids,ConjAny x) (hC:∀ x ∈ kids,chkN x=true∧atN x=true) (s:Sv) (w0:World) (P:Nat) (cj:List Lt) (q:Option Addr) (c n B:Nat) (ls:List Lt) (w:World) (hs:SdsOf w0 s.qk s.ck kids) (hcj:(cjSum kids)[P]? = some cj) (lP:P≤1000000000000) (hb:Below w0.heap.size w0 w) (hB0:w0.heap.size≤B) (hB:B≤w.heap.size) (hg:GrowL B w q c n ls) (ln:n + cj.length≤1000000000) (lk:kids.length≤1000000000) :
  Calls Try.prog 24 #[.agg #[.int .i64 s.lit.kind,.string s.lit.attr,.slice s.lit.qi s.lit.ni s.lit.ci,.slice s.lit.qw s.lit.nw s.lit.cw,.int .i64 s.lit.lo,.int .i64 s.lit.hi,.bool s.lit.neg,.int .i64 4,.int .i64 s.width,.slice s.qk kids.length s.ck],.int .i64 P,.slice q n c] w (ConjEnd B w ls cj) :=
 tail_or s kids.length P q c n w _ fun X bX=>(oneOf_any kids hK hC ⟨s.lit,4,s.width,s.qk,kids.length,s.ck⟩ w0 s.qk s.ck P cj q c n B ls X hs (below_sub hb bX) hB0 (Nat.le_trans hB bX.size) (hg.below bX) hcj ln lP lk).mono fun e w' h=>by
  obtain ⟨q',c',N,h0,h1,h2⟩:=h
  exact ⟨_,h0,q',c',N,h0,h1,(bX.mono hB).trans h2⟩
theorem conj_and (kids:List Nd) (hK:∀ x ∈ kids,ConjAny x) (hC:∀ x ∈ kids,chkN x=true∧atN x=true) (s:Sv) (w0:World) (P:Nat) (cj:List Lt) (q:Option Addr) (c n B:Nat) (ls:List Lt) (w:World) (hs:SdsOf w0 s.qk s.ck kids) (hwd:s.width=((cjProd kids).length:Nat)) (hcj:(cjProd kids)[P]? = some cj) (lP:(cjProd kids).length≤1000000000000) (hb:Below w0.heap.size w0 w) (hB0:w0.heap.size≤B) (hB:B≤w.heap.size) (hg:GrowL B w q c n ls) (ln:n + cj.length≤1000000000) (lk:kids.length≤1000000000) :
  Calls Try.prog 24 #[.agg #[.int .i64 s.lit.kind,.string s.lit.attr,.slice s.lit.qi s.lit.ni s.lit.ci,.slice s.lit.qw s.lit.nw s.lit.cw,.int .i64 s.lit.lo,.int .i64 s.lit.hi,.bool s.lit.neg,.int .i64 3,.int .i64 s.width,.slice s.qk kids.length s.ck],.int .i64 P,.slice q n c] w (ConjEnd B w ls cj) :=
 tail_and s kids.length P q c n w _ fun X bX=>(choice_any kids hK hC ⟨s.lit,3,s.width,s.qk,kids.length,s.ck⟩ w0 s.qk s.ck P cj q c n B ls X hs hwd (below_sub hb bX) hB0 (Nat.le_trans hB bX.size) (hg.below bX) hcj ln lP lk).mono fun e w' h=>by
  obtain ⟨q',c',N,h0,h1,h2⟩:=h
  exact ⟨_,h0,q',c',N,h0,h1,(bX.mono hB).trans h2⟩
theorem lsum_mem:∀ {l:List Int} (_:∀ x ∈ l,1≤x) {y:Int},y ∈ l→y≤lsum l:=by
 intro l
 induction l with
 | nil=>intro _ y hy;simp at hy
 | cons a l ih =>
  intro h y hy
  have h1:=lsum_ge (l:=l) (fun x hx=>h x (List.mem_cons_of_mem _ hx))
  have h2:=h a (by simp)
  simp only [lsum]
  rcases List.mem_cons.1 hy with rfl | hy
  ·omega
  ·have:=ih (fun x hx=>h x (List.mem_cons_of_mem _ hx)) hy;omega
theorem lprod_mem:∀ {l:List Int} (_:∀ x ∈ l,1≤x) {y:Int},y ∈ l→y≤lprod l:=by
 intro l
 induction l with
 | nil=>intro _ y hy;simp at hy
 | cons a l ih =>
  intro h y hy
  have h1:=lprod_ge (l:=l) (fun x hx=>h x (List.mem_cons_of_mem _ hx))
  have h2:=mul_ge (h a (by simp)) h1
  simp only [lprod]
  rcases List.mem_cons.1 hy with rfl | hy
  ·exact h2.1
  ·exact Int.le_trans (ih (fun x hx=>h x (List.mem_cons_of_mem _ hx)) hy) h2.2.1
theorem kids_wide {kind:Int} {attr:ByteArray} {ints:List Int} {words:List ByteArray} {lo hi op:Int} {kids:List Nd} {M:Int} (ho:op=3 ∨ op=4) (hC:∀ x ∈ kids,chkN x=true) (h:wN (.mk kind attr ints words lo hi op kids)≤M):∀ x ∈ kids,wN x≤M:=by
 have h1:∀ y ∈ kids.map wN,1≤y:=fun y hy=>by
  obtain ⟨x,hx,rfl⟩:=List.mem_map.1 hy
  exact (wid_min (m:=64) (by omega) (by omega) x (hC x hx)).2
 intro x hx
 have hm:wN x ∈ kids.map wN:=List.mem_map.2 ⟨x,hx,rfl⟩
 rcases ho with rfl | rfl
 ·have e:wN (.mk kind attr ints words lo hi 3 kids)=lprod (kids.map wN):=by rw [← wProd_l];simp [wN]
  rw [e] at h
  exact Int.le_trans (lprod_mem h1 hm) h
 ·have e:wN (.mk kind attr ints words lo hi 4 kids)=lsum (kids.map wN):=by rw [← wSum_l];simp [wN]
  rw [e] at h
  exact Int.le_trans (lsum_mem h1 hm) h
/-- conj of every tree in form whose negations stand at the predicates. -/
theorem conj_all:∀ t,chkN t=true→atN t=true→wtN t≤1000000000→wN t≤1000000000→ConjAny t:=by
 intro t
 induction t using Nd.ind with
 | h kind attr ints words lo hi op kids ih =>
  intro hch hat hwt hwn s w0 p cj q c n B ls w hin hb hB0 hB hg hcj ln
  obtain ⟨l1,l2,l4⟩:=wtN_parts hwt
  have hlen:=Nat.le_trans (Nat.le_trans (len_size kids) (sizeL_wt kids)) l4
  have hN:=(cj_all [] _ hch hat).1
  have hp:=(List.getElem?_eq_some_iff.1 hcj).1
  have hch0:=hch
  simp only [chkN,Bool.and_eq_true] at hch
  obtain ⟨hn,hc⟩:=hch
  cases hin with
  | pos h1 h2 h3 =>
   have e:cjN (.mk kind attr ints words lo hi 1 kids)=[[⟨kind,attr,ints,words,lo,hi,false⟩]]:=by simp [cjN]
   rw [e] at hcj hp
   obtain rfl:p=0:=by simp at hp;omega
   cases hcj
   exact conj_one s _ _ q c n B ls w (h1.keep hb) h2 (by simpa using l1) (by simpa using l2) hg hB (by simp at ln;omega)
  | @neg _ _ _ _ _ _ _ k2 a2 i2 w2 lo2 hi2 o1 ks1 h1 h2 h3 =>
   have e:cjN (.mk kind attr ints words lo hi 2 [.mk k2 a2 i2 w2 lo2 hi2 o1 ks1])=[[⟨k2,a2,i2,w2,lo2,hi2,true⟩]]:=by simp [cjN,negLit]
   rw [e] at hcj hp
   obtain rfl:p=0:=by simp at hp;omega
   cases hcj
   have hw2:wtN (.mk k2 a2 i2 w2 lo2 hi2 o1 ks1)≤1000000000:=by have:=wtL_mem (l:=[.mk k2 a2 i2 w2 lo2 hi2 o1 ks1]) (x:=.mk k2 a2 i2 w2 lo2 hi2 o1 ks1) (by simp);omega
   obtain ⟨m1,m2,_⟩:=wtN_parts hw2
   exact conj_one s _ _ q c n B ls w (h1.keep hb) h2 (by simpa using m1) (by simpa using m2) hg hB (by simp at ln;omega)
  | join ho h2 h3 h4 h5 h6 h7 =>
   have hs:SdsOf w0 s.qk s.ck kids:=⟨_,h4,h6,h7⟩
   have hA:∀ x ∈ kids,atN x=true:=atL_all (by rcases ho with rfl | rfl <;> simpa [atN] using hat)
   have hC:∀ x ∈ kids,chkN x=true:=fun x hx=>chkL_mem hc hx
   have hCC:∀ x ∈ kids,chkN x=true∧atN x=true:=fun x hx=>⟨hC x hx,hA x hx⟩
   have hW:=kids_wide ho hC hwn
   have hK:∀ x ∈ kids,ConjAny x:=fun x hx=>ih x hx (hC x hx) (hA x hx) (Nat.le_trans (wtL_mem hx) l4) (hW x hx)
   unfold Sv.val
   rw [h2,h5]
   rcases ho with rfl | rfl
   ·have e:cjN (.mk kind attr ints words lo hi 3 kids)=cjProd kids:=by simp [cjN]
    rw [e] at hcj hp hN
    rw [← hN] at h3
    exact conj_and kids hK hCC s w0 p cj q c n B ls w hs h3 hcj (by omega) hb hB0 hB hg ln (by omega)
   ·have e:cjN (.mk kind attr ints words lo hi 4 kids)=cjSum kids:=by simp [cjN]
    rw [e] at hcj hp hN
    exact conj_or kids hK hCC s w0 p cj q c n B ls w hs hcj (by omega) hb hB0 hB hg ln (by omega)
end Go.Proofs.Ytikhopiegaoacac

/- How much a rule reads. -/
import Derived.Test.YtencibjmiphinaaGreatDoorEZac
import Derived.Test.YtencibjmiphinaaGreatDoorEOPaJn
namespace Go.Proofs.YtencibjmiphinaaGreatDoor
open Go.RowKit
theorem mbL_rest {en k:Int}:∀ (n:Nat) (acc l ts r:List Tk),mbL en k n acc l=.ok ts r->r.length<=l.length
 | 0,acc,l,ts,r,h=>by simp [mbL] at h
 | n + 1,acc,l,ts,r,h=>by
  simp only [mbL] at h
  split at h
  ·split at h
   ·cases h
   ·cases h;have:=sgL_len ‹_›;omega
  ·have e1:=skL_len ‹_›
   split at h
   ·cases h
   ·split at h
    ·cases h
    ·have e2:=ndL_len ‹_›
     have:=mbL_rest n _ _ _ _ h
     omega
theorem msL_rest {en k:Int} {l ts r:List Tk} (h:msL en k l=.ok ts r):r.length<=l.length:=by
 unfold msL at h
 split at h
 ·cases h
 ·have e2:=ndL_len ‹_›
  have:=mbL_rest _ _ _ _ _ h
  omega
theorem setL_rest {en:Int} {a:ByteArray} {l r:List Tk} {x:Nd} (h:setL en a l=.ok x r):r.length<=l.length:=by
 unfold setL at h
 split at h
 ·split at h
  ·cases h
  ·cases h;exact msL_rest ‹_›
 ·split at h
  ·cases h
  ·cases h;exact msL_rest ‹_›
theorem bdL_rest {en:Int} {a:ByteArray} {l r:List Tk} {x:Nd} (h:bdL en a l=.ok x r):r.length<=l.length:=by
 unfold bdL at h
 split at h
 ·cases h
 ·have e1:=ndL_len ‹_›
  split at h
  ·cases h
  ·have e2:=sgL_len ‹_›
   split at h
   ·cases h
   ·have e3:=ndL_len ‹_›
    split at h
    ·cases h
    ·have e4:=sgL_len ‹_›
     cases h;omega
theorem pxL_rest {en:Int} {a:ByteArray} {l r:List Tk} {x:Nd} (h:pxL en a l=.ok x r):r.length<=l.length:=by
 unfold pxL at h
 split at h
 ·cases h
 ·have e1:=ndL_len ‹_›
  split at h
  ·cases h
  ·have e2:=sgL_len ‹_›
   cases h;omega
theorem prL_rest {en:Int} {l r:List Tk} {x:Nd} (h:prL en l=.ok x r):r.length + 1<=l.length:=by
 unfold prL at h
 split at h
 ·cases h
 ·have e1:=ndL_len ‹_›
  split at h
  ·have e2:=skL_len ‹_›
   have:=setL_rest h
   omega
  ·split at h
   ·have e2:=skL_len ‹_›
    have:=bdL_rest h
    omega
   ·have:=pxL_rest h
    omega
theorem chG_rest {s:ByteArray} {f:List Tk->Rs Nd} (hf:∀ l x r,f l=.ok x r->r.length + 1<=l.length):∀ (n:Nat) (ks:List Nd) (l:List Tk) (ks':List Nd) (r:List Tk),chG s f n ks l=.ok ks' r->r.length<=l.length
 | 0,ks,l,ks',r,h=>by simp [chG] at h
 | n + 1,ks,l,ks',r,h=>by
  simp only [chG] at h
  split at h
  ·cases h;exact Nat.le_refl _
  ·have e1:=skL_len ‹_›
   split at h
   ·cases h
   ·have e2:=hf _ _ _ ‹_›
    have:=chG_rest hf n _ _ _ _ h
    omega
theorem chL_rest {op:Int} {s:ByteArray} {f:List Tk->Rs Nd} (hf:∀ l x r,f l=.ok x r->r.length + 1<=l.length) (l:List Tk) (x:Nd) (r:List Tk) (h:chL op s f l=.ok x r):r.length + 1<=l.length:=by
 unfold chL at h
 split at h
 ·cases h
 ·have e1:=hf _ _ _ ‹_›
  split at h
  ·cases h
  ·have:=chG_rest hf _ _ _ _ _ ‹_›
   cases h;omega
theorem onL_rest {en:Int}:∀ (n:Nat) (l:List Tk) (x:Nd) (r:List Tk),onL en n l=.ok x r->r.length + 1<=l.length
 | 0,l,x,r,h=>by simp [onL] at h
 | n + 1,l,x,r,h=>by
  simp only [onL] at h
  split at h
  ·have e1:=skL_len ‹_›
   split at h
   ·cases h
   ·have:=onL_rest n _ _ _ ‹_›
    cases h;omega
  ·split at h
   ·have e1:=skL_len ‹_›
    split at h
    ·cases h
    ·have e2:=chL_rest (chL_rest (onL_rest n)) _ _ _ ‹_›
     split at h
     ·cases h
     ·have e3:=sgL_len ‹_›
      cases h;omega
   ·exact prL_rest h
end Go.Proofs.YtencibjmiphinaaGreatDoor
namespace Go.Proofs.YtencibjmiphinaaGreatDoor
open Go.RowKit
theorem and_p (g:Nat) (en:Int) (n k:Nat) (hn:n<=1000000) (hF:∀ (l':List Tk) (W:World),l'.length<=n->Ps W g en l'->Calls Tryz.prog 120 #[.pointer (some ⟨g,0,none⟩)] W fun e w'=>NdR g en W (onL en k l') e w') (l:List Tk) (w:World) (hl:l.length<=n) (hp:Ps w g en l) :
  Calls Tryz.prog 92 #[.pointer (some ⟨g,0,none⟩)] w fun e w'=>NdR g en w (anL en k l) e w':=by
 have hg:=hp.lt
 have h0:=hp.z
 have hmf:∀ (fn:Fn) (first cap:Array Value) (w:World),(Instr.makeFunc fn first cap).run Tryz.prog w=.ok (.func fn first cap) w:=fun _ _ _ _=>rfl
 have hj:=joined120 g en n (onL en k) hn hF (onL_rest k) l hl _ h0.1
 have hrw:anL en k l=chL 3 ⟨#[38]⟩ (onL en k) l:=rfl
 rw [hrw]
 have H0:=hide h0
 clear h0 hF hp hrw
 cases ec:chL 3 ⟨#[38]⟩ (onL en k) l with
 | bad p =>
  have EC:=hide ec
  clear ec
  go_enter Tryz.func92,Tryz.ntmps92
  go_wp2_with (go_at_call 91;refine hj.mono ?_;rintro e w1 hq;obtain ⟨rfl,hx⟩:=hq.bad (uh EC);have X1:=hide hx;clear hx hq;simp only [refusal])
  exact ⟨rfl,rfl,gr_z (uh X1)⟩
 | ok x r =>
  have EC:=hide ec
  clear ec
  go_enter Tryz.func92,Tryz.ntmps92
  go_wp2_with (go_at_call 91;refine hj.mono ?_;rintro e w1 hq;obtain ⟨⟨v,rfl,hv⟩,hx⟩:=hq.ok (uh EC);have X1:=hide hx;have HV:=hide hv;clear hx hv hq;obtain ⟨z1,⟨q0,q1,q2,q3,q4,q5,q6,q7⟩,qf⟩:=res8 (uh X1).2 hg;unfold Nv.val)
  refine bodyPost_ret (v:=v.val) (by simp [results,Tryz.results92,go_sem,Nv.val, *]) rfl ?_
  exact fin8 (uh X1) hg (uh HV) (by simp)
theorem or_p (g:Nat) (en:Int) (n k:Nat) (hn:n<=1000000) (hF:∀ (l':List Tk) (W:World),l'.length<=n->Ps W g en l'->Calls Tryz.prog 92 #[.pointer (some ⟨g,0,none⟩)] W fun e w'=>NdR g en W (anL en k l') e w') (l:List Tk) (w:World) (hl:l.length<=n) (hp:Ps w g en l) :
  Calls Tryz.prog 52 #[.pointer (some ⟨g,0,none⟩)] w fun e w'=>NdR g en w (orL en k l) e w':=by
 have hg:=hp.lt
 have h0:=hp.z
 have hmf:∀ (fn:Fn) (first cap:Array Value) (w:World),(Instr.makeFunc fn first cap).run Tryz.prog w=.ok (.func fn first cap) w:=fun _ _ _ _=>rfl
 have hj:=joined92 g en n (anL en k) hn hF (chL_rest (onL_rest k)) l hl _ h0.1
 have hrw:orL en k l=chL 4 ⟨#[124]⟩ (anL en k) l:=rfl
 rw [hrw]
 have H0:=hide h0
 clear h0 hF hp hrw
 cases ec:chL 4 ⟨#[124]⟩ (anL en k) l with
 | bad p =>
  have EC:=hide ec
  clear ec
  go_enter Tryz.func52,Tryz.ntmps52
  go_wp2_with (go_at_call 91;refine hj.mono ?_;rintro e w1 hq;obtain ⟨rfl,hx⟩:=hq.bad (uh EC);have X1:=hide hx;clear hx hq;simp only [refusal])
  exact ⟨rfl,rfl,gr_z (uh X1)⟩
 | ok x r =>
  have EC:=hide ec
  clear ec
  go_enter Tryz.func52,Tryz.ntmps52
  go_wp2_with (go_at_call 91;refine hj.mono ?_;rintro e w1 hq;obtain ⟨⟨v,rfl,hv⟩,hx⟩:=hq.ok (uh EC);have X1:=hide hx;have HV:=hide hv;clear hx hv hq;obtain ⟨z1,⟨q0,q1,q2,q3,q4,q5,q6,q7⟩,qf⟩:=res8 (uh X1).2 hg;unfold Nv.val)
  refine bodyPost_ret (v:=v.val) (by simp [results,Tryz.results52,go_sem,Nv.val, *]) rfl ?_
  exact fin8 (uh X1) hg (uh HV) (by simp)
end Go.Proofs.YtencibjmiphinaaGreatDoor
namespace Go.Proofs.YtencibjmiphinaaGreatDoor
open Go.RowKit
set_option maxHeartbeats 4000000 in
theorem one_not (g:Nat) (en:Int) (n:Nat) (l r:List Tk) (w:World) (hp:Ps w g en l) (hs:skL ⟨#[33]⟩ l=some r) (hF:∀ W,Ps W g en r->Calls Tryz.prog 120 #[.pointer (some ⟨g,0,none⟩)] W fun e w'=>NdR g en W (onL en n r) e w') :
  Calls Tryz.prog 120 #[.pointer (some ⟨g,0,none⟩)] w fun e w'=>NdR g en w (onL en (n + 1) l) e w':=by
 have hg:=hp.lt
 have h0:=hp.z
 have hsk:=skip_yes g en ⟨#[33]⟩ l r _ h0.1 hs
 have HF:=hide hF
 clear hF hp h0
 cases ec:onL en n r with
 | bad p =>
  have hx:onL en (n + 1) l=.bad p:=by simp only [onL,hs,ec]
  rw [hx]
  have EC:=hide ec
  clear ec hs hx
  go_enter Tryz.func120,Tryz.ntmps120
  go_wp2_with first
   | (go_at_call 119;refine hsk.mono ?_;rintro e w3 ⟨rfl,hx⟩;have X3:=hide hx;clear hx)
   | (go_at_call 120;refine (uh HF _ (uh X3).1).mono ?_;rintro e w4 hq;obtain ⟨rfl,hx⟩:=hq.bad (uh EC);have X4:=hide hx;clear hx hq;simp only [refusal])
  exact ⟨rfl,rfl,gr_z ((uh X3).2.trans (uh X4))⟩
 | ok x r' =>
  have hx:onL en (n + 1) l=.ok (.mk 0 ⟨#[]⟩ [] [] 0 0 2 [x]) r':=by simp only [onL,hs,ec]
  rw [hx]
  have EC:=hide ec
  clear ec hs hx
  go_enter Tryz.func120,Tryz.ntmps120
  go_wp2_with first
   | (go_at_call 119;refine hsk.mono ?_;rintro e w3 ⟨rfl,hx⟩;have X3:=hide hx;have HS3:=hide hx.2.size;clear hx)
   | (go_at_call 120;refine (uh HF _ (uh X3).1).mono ?_;rintro e w4 hq;obtain ⟨⟨v,rfl,hv⟩,hx⟩:=hq.ok (uh EC);have X4:=hide ((uh X3).trans hx);have HV:=hide hv;have HS4:=hide hx.2.size;clear hx hv hq;obtain ⟨z1,⟨q0,q1,q2,q3,q4,q5,q6,q7⟩,qf⟩:=res8 (uh X4).2 hg;unfold Nv.val)
  refine bodyPost_ret (v:=.agg #[.int .i64 0,.string ⟨#[]⟩,.slice none 0 0,.slice none 0 0,.int .i64 0,.int .i64 0,.int .i64 2,.slice (some ⟨w4.heap.size,0,none⟩) 1 1]) (by simp [results,Tryz.results120,go_sem, *]) rfl ?_
  have a3:=uh HS3
  have a4:=uh HS4
  simp at a3
  have hk:=kd_many 2 (Kd.one (B:=w.heap.size + 1) ((uh HV).mono (by omega)) (by omega))
  have h9:=fin8 ((uh X4).bel ((Below.refl _ _).alloc (Nat.le_refl _) (.cells #[.int .i64 v.kind,.string v.attr,.slice v.qi v.ni v.ci,.slice v.qw v.nw v.cw,.int .i64 v.lo,.int .i64 v.hi,.int .i64 v.op,.slice v.qk v.nk v.ck] 29))) hg hk (by omega)
  simp only [Nv.val] at h9
  rw [World.setCell_alloc_past _ _ _ _ z1,World.setCell_alloc_past _ _ _ _ (by simpa using z1),World.setCell_alloc_past _ _ _ _ (by simpa using z1),World.setCell_alloc_past _ _ _ _ (by simpa using z1),World.setCell_alloc_past _ _ _ _ (by simpa using z1),World.setCell_alloc_past _ _ _ _ (by simpa using z1),World.setCell_alloc_past _ _ _ _ (by simpa using z1),World.setCell_alloc_past _ _ _ _ (by simpa using z1)] at h9
  exact h9
end Go.Proofs.YtencibjmiphinaaGreatDoor

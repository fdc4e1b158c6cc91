/- fits: a tree against a schema; Kinds. -/
import Derived.Test.YtencibjmiphinaaGreatDoorEZat
import Derived.Test.YtencibjmiphinaaGreatDoorEZaf
import Derived.Test.YtencibjmiphinaaGreatDoorEOSameNode
import Derived.Test.YtencibjmiphinaaGreatDoorEZal
import Derived.Test.YtencibjmiphinaaGreatDoorEZas
import Derived.Test.YtencibjmiphinaaGreatDoorEZaj
namespace Go.Proofs.YtencibjmiphinaaGreatDoor
open Go.RowKit Go.Sort
def askd (k:Int):Int:=if k=1 ∨ k=3 then 1 else 2
mutual
/-- Each predicate asks for its attribute's kind. -/
def fitN (ats:List (ByteArray × Int)):Nd->Bool
 | .mk kind attr _ _ _ _ op ks=>if op=1 then Sc.kindOf ats attr == askd kind else fitL ats ks
def fitL (ats:List (ByteArray × Int)):List Nd->Bool
 | []=>true
 | x :: xs=>fitN ats x && fitL ats xs
end
theorem fitL_take {ats:List (ByteArray × Int)} {l:List Nd} {k:Nat} {x:Nd} (h:l[k]? = some x):fitL ats (l.take (k + 1))=(fitL ats (l.take k) && fitN ats x):=by
 induction l generalizing k with
 | nil=>simp at h
 | cons y l ih =>
  cases k with
  | zero=>cases h;simp [fitL]
  | succ k =>
   have h':l[k]? = some x:=by simpa using h
   simp only [List.take_succ_cons,fitL,ih h',Bool.and_assoc]
theorem fitL_no {ats:List (ByteArray × Int)} {l:List Nd} {x:Nd} (h:x ∈ l) (hx:fitN ats x=false):fitL ats l=false:=by
 induction l with
 | nil=>simp at h
 | cons y l ih =>
  rcases List.mem_cons.1 h with rfl | h
  ·simp [fitL,hx]
  ·simp [fitL,ih h]
theorem asked_any (k:Int) (w:World):Calls Tryz.prog 69 #[.int .i64 k] w fun e w'=>e=.returned (.int .i64 (askd k))/\w'=w:=by
 by_cases h1:k=1
 ·have e1:askd k=1:=by simp [askd,h1]
  rw [e1]
  go_enter Tryz.func69,Tryz.ntmps69
  go_wp2
  go_ret
  exact ⟨rfl,rfl⟩
 ·by_cases h3:k=3
  ·have e1:askd k=1:=by simp [askd,h3]
   rw [e1]
   go_enter Tryz.func69,Tryz.ntmps69
   go_wp2
   go_ret
   exact ⟨rfl,rfl⟩
  ·have e1:askd k=2:=by simp [askd,h3,h1]
   rw [e1]
   have b1:(k == 1)=false:=by simp [h1]
   have b3:(k == 3)=false:=by simp [h3]
   clear h1 h3 e1
   go_enter Tryz.func69,Tryz.ntmps69
   go_wp2
   go_ret
   exact ⟨rfl,rfl⟩
set_option maxHeartbeats 2000000 in
theorem fits_leaf (b:Nat) (ats:List (ByteArray × Int)) (hm:ats.length<=140737488355328) (kind:Int) (attr:ByteArray) (qi:Option Addr) (ni ci:Nat) (qw:Option Addr) (nw cw:Nat) (lo hi:Int) (qk:Option Addr) (nk ck:Nat) (w:World) (hS:Sc.SchAt w b ats) :
  Calls Tryz.prog 39 #[.pointer (some ⟨b,0,none⟩),.agg #[.int .i64 kind,.string attr,.slice qi ni ci,.slice qw nw cw,.int .i64 lo,.int .i64 hi,.int .i64 1,.slice qk nk ck]] w fun e w'=>e=.returned (.bool (Sc.kindOf ats attr == askd kind))/\RowKit.Below w.heap.size w w':=by
 have mixed:Tryz.prog.follows .mixedOrders=true:=by kernel_rfl
 have en68:∀ args w,(callFunc 68 args).run Tryz.prog w=.ok (.enter 68 args) w:=enters_of Tryz.func68 (by kernel_rfl) rfl
 have en69:∀ args w,(callFunc 69 args).run Tryz.prog w=.ok (.enter 69 args) w:=enters_of Tryz.func69 (by kernel_rfl) rfl
 obtain ⟨W,HW⟩:∃ W,w.alloc (.cells #[.int .i64 kind,.string attr,.slice qi ni ci,.slice qw nw cw,.int .i64 lo,.int .i64 hi,.int .i64 1,.slice qk nk ck] 29)=W:=⟨_,rfl⟩
 have hB:RowKit.Below w.heap.size w W:=by rw [<- HW];exact (RowKit.Below.refl _ _).alloc (Nat.le_refl _) _
 have hbx:W.heap[w.heap.size]? = some (.cells #[.int .i64 kind,.string attr,.slice qi ni ci,.slice qw nw cw,.int .i64 lo,.int .i64 hi,.int .i64 1,.slice qk nk ck] 29):=by rw [<- HW];exact box_nw _ _
 obtain ⟨c0,c1,c2,c3,c4,c5,c6,c7⟩:=of8' hbx
 have q68:=fun (n:Nat) (os:Array Obj)=>Sc.kind_any b ats attr (grow (redrawn W n) os) hm ((hS.below hB).below (below_regrown W n os))
 have q69:=fun (n:Nat) (os:Array Obj)=>(asked_any kind (grow (redrawn W n) os)).mono (R':=fun e w'=>e=.returned (.int .i64 (askd kind))/\RowKit.Below (grow (redrawn W n) os).heap.size (grow (redrawn W n) os) w') fun e w' h=>⟨h.1,by rw [h.2];exact RowKit.Below.refl _ _⟩
 have k0:∀ n os,(grow (redrawn W n) os).cell? ⟨w.heap.size,0,none⟩=some _:=cell_regrown c0
 have k1:∀ n os,(grow (redrawn W n) os).cell? ⟨w.heap.size,1,none⟩=some _:=cell_regrown c1
 have HB:=hide hB
 clear hS hB hbx c2 c3 c4 c5 c7
 go_enter Tryz.func39,Tryz.ntmps39
 go_wp2
 refine wp_region_quiet_below (by assumption) (by kernel_rfl) ?_
 repeat (go_big_quiet_step (first
  | (go_at_fn 68;refine Calls.regrown_of (q68 _ _))
  | (go_at_fn 69;refine Calls.regrown_of (q69 _ _))))
 refine wpQuiet_nil ?_
 intro _ hw'
 obtain ⟨⟨dq,osq⟩,hw''⟩:=hw'
 subst hw''
 go_wp2
 go_ret
 exact ⟨rfl,below_sub (uh HB) (below_regrown _ _ _)⟩
set_option maxHeartbeats 2000000 in
theorem fits_any (b:Nat) (ats:List (ByteArray × Int)) (hm:ats.length<=140737488355328):∀ (t:Nd) (v:Nv) (w:World),NdIn w v t->Sc.SchAt w b ats->sizeN t<=1000000000 ->
  Calls Tryz.prog 39 #[.pointer (some ⟨b,0,none⟩),v.val] w fun e w'=>e=.returned (.bool (fitN ats t))/\RowKit.Below w.heap.size w w':=by
 intro t
 induction t using Nd.ind with
 | h kind attr ints words lo hi op kids ih =>
  intro v w hin hS hsz
  obtain ⟨qi,ci,qw,cw,qk,ck,rfl,hi1,hw1,hk⟩:=hin.parts
  by_cases hop:op=1
  ·subst hop
   have hx:fitN ats (.mk kind attr ints words lo hi 1 kids)=(Sc.kindOf ats attr == askd kind):=by simp only [fitN,if_true]
   rw [hx]
   exact fits_leaf b ats hm kind attr _ _ _ _ _ _ lo hi _ _ _ w hS
  ·have hx:fitN ats (.mk kind attr ints words lo hi op kids)=fitL ats kids:=by simp only [fitN,if_neg hop]
   rw [hx]
   simp only [sizeN] at hsz
   have hlen:=len_size kids
   have IH:=hide ih
   have HK:=hide hk
   have HS:=hide hS
   have a0:(kids.length:Int)<=1000000000:=by omega
   have hop':(op == 1)=false:=by simp [hop]
   clear ih hk hin hi1 hw1 hx hS hop
   simp only [Nv.val]
   go_enter Tryz.func39,Tryz.ntmps39
   go_wp2
   go_loopw [23] (fun i wr=>∃ k:Nat,k<=kids.length/\i=.int .i64 k/\fitL ats (kids.take k)=true/\RowKit.Below w.heap.size w wr) (fun i _=>kids.length - (intOf i).toNat)
   case atStart=>exact ⟨0,by omega,rfl,rfl,(RowKit.Below.refl _ _).alloc (Nat.le_refl _) _⟩
   case round =>
    obtain ⟨k,hkk,rfl,hall,hbel⟩:=hrel
    by_cases hlt:k < kids.length
    ·obtain ⟨x,hx,hxd⟩:=get_at hlt
     clear hxd
     obtain ⟨b',off,v',hq,hin,g0,g1,g2,g3,g4,g5,g6,g7⟩:=(uh HK).on hx hbel
     subst hq
     have hxm:x ∈ kids:=List.mem_of_getElem? hx
     have hxs:=sizeL_mem hxm
     have ki0:(0:Int)<=(k:Int):=by omega
     have ki1:(k:Int) < (kids.length:Int):=by omega
     have HIN:=hide hin
     have HC:=hide (uh IH x hxm v')
     simp only [Nv.val] at HC
     have HB:=hide hbel
     cases hf:fitN ats x with
     | true =>
      have HN:=hide (show fitL ats (kids.take (k + 1))=true by rw [fitL_take hx,hall,hf];rfl)
      have HF:=hide hf
      clear hin hx hbel hxm hall hf
      go_wp2_with (go_at_call 39;refine (uh HC _ (by exact (uh HIN).keep ((RowKit.Below.refl _ _).alloc (Nat.le_refl _) _)) ((uh HS).below ((uh HB).alloc (uh HB).size _)) (by omega)).mono ?_;rintro e w1 ⟨rfl,hb1⟩;rw [uh HF])
      exact ⟨⟨k + 1,by omega,by go_num,uh HN,((uh HB).alloc (uh HB).size _).trans (hb1.mono (by simp;have:=(uh HB).size;omega))⟩,by simp [intOf];omega⟩
     | false =>
      have HN:=hide (fitL_no hxm hf)
      have HF:=hide hf
      clear hin hx hbel hxm hall hf
      go_wp2_with (go_at_call 39;refine (uh HC _ (by exact (uh HIN).keep ((RowKit.Below.refl _ _).alloc (Nat.le_refl _) _)) ((uh HS).below ((uh HB).alloc (uh HB).size _)) (by omega)).mono ?_;rintro e w1 ⟨rfl,hb1⟩;rw [uh HF])
      go_ret
      exact ⟨ret_bool (uh HN).symm,((uh HB).alloc (uh HB).size _).trans (hb1.mono (by simp;have:=(uh HB).size;omega))⟩
    ·have ki1:¬ (k:Int) < (kids.length:Int):=by omega
     have HE:=hide (List.take_of_length_le (l:=kids) (i:=k) (by omega))
     have HA:=hide hall
     clear hall
     go_wp2
     go_ret
     exact ⟨ret_bool (by rw [uh HE] at HA;exact (uh HA).symm),hbel⟩
end Go.Proofs.YtencibjmiphinaaGreatDoor
namespace Go.Proofs.YtencibjmiphinaaGreatDoor
open Go.RowKit
def Sml (l:List Tk):Prop:=∀ t ∈ l,t.2.2.2.2.size<=4096
theorem skL_tail {s:ByteArray} {l r:List Tk} (h:skL s l=some r):∃ t,l=t :: r:=by
 cases l with
 | nil=>simp [skL] at h
 | cons t l =>
  simp only [skL] at h
  split at h
  ·cases h;exact ⟨t,rfl⟩
  ·cases h
theorem ndL_tail {en k:Int} {l r:List Tk} {t:Tk} (h:ndL en k l=.ok t r):l=t :: r/\t.1=k:=by
 cases l with
 | nil=>simp [ndL] at h
 | cons t l =>
  simp only [ndL] at h
  split at h
  ·cases h;exact ⟨rfl,‹_›⟩
  ·cases h
theorem sgL_tail {en:Int} {s:ByteArray} {l r:List Tk} {u:Unit} (h:sgL en s l=.ok u r):∃ t,l=t :: r:=by
 unfold sgL at h
 split at h
 ·cases h
 ·cases h;exact skL_tail ‹_›
theorem Sml.tail {l r:List Tk} {t:Tk} (h:Sml l) (e:l=t :: r):Sml r/\t.2.2.2.2.size<=4096/\r.length + 1=l.length:=by
 subst e;exact ⟨fun x hx=>h x (List.mem_cons_of_mem _ hx),h t (by simp),rfl⟩
def tw (ts:List Tk):Nat:=wordsWt (ts.map (·.2.2.2.2))
theorem tw_snoc (ts:List Tk) (t:Tk):tw (ts ++ [t])=tw ts + (1 + t.2.2.2.2.size):=by
 unfold tw
 induction ts with
 | nil=>simp [wordsWt]
 | cons x ts ih=>simp only [List.cons_append,List.map_cons,wordsWt,ih];omega
theorem mbL_wt {en k:Int}:∀ (n:Nat) (acc l ts r:List Tk),Sml l->mbL en k n acc l=.ok ts r->tw ts + 4098 * r.length<=tw acc + 4098 * l.length/\ts.length + r.length<=acc.length + l.length/\Sml r
 | 0,acc,l,ts,r,_,h=>by simp [mbL] at h
 | n + 1,acc,l,ts,r,hs,h=>by
  simp only [mbL] at h
  split at h
  ·split at h
   ·cases h
   ·cases h
    obtain ⟨t,e⟩:=sgL_tail ‹_›
    have:=hs.tail e
    exact ⟨by omega,by omega,this.1⟩
  ·obtain ⟨t,e⟩:=skL_tail ‹_›
   have h1:=hs.tail e
   split at h
   ·cases h
   ·split at h
    ·cases h
    ·obtain ⟨e2,_⟩:=ndL_tail ‹_›
     have h2:=h1.1.tail e2
     have h3:=mbL_wt n _ _ _ _ h2.1 h
     rw [tw_snoc] at h3
     simp only [List.length_append,List.length_cons,List.length_nil] at h3
     exact ⟨by omega,by omega,h3.2.2⟩
theorem msL_wt {en k:Int} {l ts r:List Tk} (hs:Sml l) (h:msL en k l=.ok ts r):tw ts + 4098 * r.length<=4098 * l.length/\ts.length + r.length<=l.length/\Sml r:=by
 unfold msL at h
 split at h
 ·cases h
 ·obtain ⟨e2,_⟩:=ndL_tail ‹_›
  have h2:=hs.tail e2
  have h3:=mbL_wt _ _ _ _ _ h2.1 h
  have:∀ t:Tk,tw [t]=1 + t.2.2.2.2.size:=fun t=>by simp [tw,wordsWt]
  rw [this] at h3
  simp only [List.length_cons,List.length_nil] at h3
  exact ⟨by omega,by omega,h3.2.2⟩
theorem setL_wt {en:Int} {a:ByteArray} {l r:List Tk} {x:Nd} (hs:Sml l) (h:setL en a l=.ok x r):wtN x + 4098 * r.length<=1 + a.size + 4098 * l.length/\Sml r:=by
 unfold setL at h
 split at h
 ·split at h
  ·cases h
  ·cases h
   have:=msL_wt hs ‹_›
   refine ⟨?_,this.2.2⟩
   unfold tw at this
   simp only [wtN,wtL,List.length_nil];omega
 ·split at h
  ·cases h
  ·cases h
   have:=msL_wt hs ‹_›
   refine ⟨?_,this.2.2⟩
   simp only [wtN,wtL,wordsWt,List.length_map];omega
theorem bdL_wt {en:Int} {a:ByteArray} {l r:List Tk} {x:Nd} (hs:Sml l) (h:bdL en a l=.ok x r):wtN x + 4098 * r.length<=1 + a.size + 4098 * l.length/\Sml r:=by
 unfold bdL at h
 split at h
 ·cases h
 ·have h1:=hs.tail (ndL_tail ‹_›).1
  split at h
  ·cases h
  ·obtain ⟨t,e⟩:=sgL_tail ‹_›
   have h2:=h1.1.tail e
   split at h
   ·cases h
   ·have h3:=h2.1.tail (ndL_tail ‹_›).1
    split at h
    ·cases h
    ·obtain ⟨t,e⟩:=sgL_tail ‹_›
     have h4:=h3.1.tail e
     cases h
     refine ⟨?_,h4.1⟩
     simp only [wtN,wtL,wordsWt,List.length_nil];omega
theorem pxL_wt {en:Int} {a:ByteArray} {l r:List Tk} {x:Nd} (hs:Sml l) (h:pxL en a l=.ok x r):wtN x + 4098 * r.length<=1 + a.size + 4098 * l.length/\Sml r:=by
 unfold pxL at h
 split at h
 ·cases h
 ·have h1:=hs.tail (ndL_tail ‹_›).1
  split at h
  ·cases h
  ·obtain ⟨t,e⟩:=sgL_tail ‹_›
   have h2:=h1.1.tail e
   cases h
   refine ⟨?_,h2.1⟩
   simp only [wtN,wtL,wordsWt,List.length_nil];omega
theorem prL_wt {en:Int} {l r:List Tk} {x:Nd} (hs:Sml l) (h:prL en l=.ok x r):wtN x + 4098 * r.length<=4098 * l.length/\Sml r:=by
 unfold prL at h
 split at h
 ·cases h
 ·have h1:=hs.tail (ndL_tail ‹_›).1
  split at h
  ·obtain ⟨t,e⟩:=skL_tail ‹_›
   have h2:=h1.1.tail e
   have h3:=setL_wt h2.1 h
   exact ⟨by omega,h3.2⟩
  ·split at h
   ·obtain ⟨t,e⟩:=skL_tail ‹_›
    have h2:=h1.1.tail e
    have h3:=bdL_wt h2.1 h
    exact ⟨by omega,h3.2⟩
   ·have h3:=pxL_wt h1.1 h
    exact ⟨by omega,h3.2⟩
def Wt (f:List Tk->Rs Nd):Prop:=∀ l x r,Sml l->f l=.ok x r->wtN x + 4098 * r.length<=4098 * l.length/\Sml r
theorem wtL_app (a b:List Nd):wtL (a ++ b)=wtL a + wtL b:=by
 induction a with
 | nil=>simp [wtL]
 | cons x a ih=>simp only [List.cons_append,wtL,ih];omega
theorem chG_wt {s:ByteArray} {f:List Tk->Rs Nd} (hf:Wt f):∀ (n:Nat) (ks:List Nd) (l:List Tk) (ks':List Nd) (r:List Tk),Sml l->chG s f n ks l=.ok ks' r->wtL ks' + ks'.length + 4098 * r.length<=wtL ks + ks.length + 4098 * l.length/\Sml r
 | 0,ks,l,ks',r,_,h=>by simp [chG] at h
 | n + 1,ks,l,ks',r,hs,h=>by
  simp only [chG] at h
  split at h
  ·cases h;exact ⟨by omega,hs⟩
  ·obtain ⟨t,e⟩:=skL_tail ‹_›
   have h1:=hs.tail e
   split at h
   ·cases h
   ·have h2:=hf _ _ _ h1.1 ‹_›
    have h3:=chG_wt hf n _ _ _ _ h2.2 h
    rw [wtL_app] at h3
    simp only [wtL,List.length_append,List.length_cons,List.length_nil] at h3
    exact ⟨by omega,h3.2⟩
theorem jnT_wt (op:Int) (ks:List Nd) (h:1<=ks.length):wtN (jnT op ks) + 1<=wtL ks + ks.length:=by
 match ks,h with
 | [x],_=>simp [jnT,wtL]
 | x :: y :: ks,_=>simp only [jnT,wtN,wtL,wordsWt,List.length_cons,List.length_nil];show 1 + 0 + 0 + 0 + _ + 1<=_;omega
theorem chG_pos {s:ByteArray} {f:List Tk->Rs Nd}:∀ (n:Nat) (ks:List Nd) (l:List Tk) (ks':List Nd) (r:List Tk),1<=ks.length->chG s f n ks l=.ok ks' r->1<=ks'.length
 | 0,ks,l,ks',r,_,h=>by simp [chG] at h
 | n + 1,ks,l,ks',r,hk,h=>by
  simp only [chG] at h
  split at h
  ·cases h;exact hk
  ·split at h
   ·cases h
   ·exact chG_pos n _ _ _ _ (by simp) h
theorem chL_wt {op:Int} {s:ByteArray} {f:List Tk->Rs Nd} (hf:Wt f):Wt (chL op s f):=fun l x r hs h=>by
 unfold chL at h
 split at h
 ·cases h
 ·have h1:=hf _ _ _ hs ‹_›
  split at h
  ·cases h
  ·rename_i hc
   have hp:=chG_pos _ [_] _ _ _ (Nat.le_refl 1) hc
   have h2:=chG_wt hf _ _ _ _ _ h1.2 hc
   cases h
   have h3:=jnT_wt op _ hp
   simp only [wtL,List.length_cons,List.length_nil] at h2
   exact ⟨by omega,h2.2⟩
theorem onL_wt {en:Int}:∀ (n:Nat),Wt (onL en n)
 | 0=>fun l x r _ h=>by change (Rs.bad 0:Rs Nd)=Rs.ok x r at h;cases h
 | n + 1=>fun l x r hs h=>by
  simp only [onL] at h
  split at h
  ·obtain ⟨t,e⟩:=skL_tail ‹_›
   have h1:=hs.tail e
   split at h
   ·cases h
   ·have h2:=onL_wt n _ _ _ h1.1 ‹_›
    cases h
    refine ⟨?_,h2.2⟩
    simp only [wtN,wtL,wordsWt,List.length_nil];show 1 + 0 + 0 + 0 + _ + _<=_;omega
  ·split at h
   ·obtain ⟨t,e⟩:=skL_tail ‹_›
    have h1:=hs.tail e
    split at h
    ·cases h
    ·have h2:=chL_wt (chL_wt (onL_wt n)) _ _ _ h1.1 ‹_›
     split at h
     ·cases h
     ·obtain ⟨t,e⟩:=sgL_tail ‹_›
      have h3:=h2.2.tail e
      cases h
      exact ⟨by omega,h3.1⟩
   ·exact prL_wt hs h
theorem orL_wt {en:Int} {n:Nat} {l r:List Tk} {x:Nd} (hs:Sml l) (h:orL en n l=.ok x r):wtN x<=4098 * l.length:=by
 have:=chL_wt (chL_wt (onL_wt n)) l x r hs h
 omega
end Go.Proofs.YtencibjmiphinaaGreatDoor
namespace Go.Proofs.YtencibjmiphinaaGreatDoor
open Go.RowKit
/-- What Kinds answers. -/
def kndE (ats:List (ByteArray × Int)) (t:Nd):Int:=if chkN t then (if fitN ats t then 0 else 12) else 1
set_option maxHeartbeats 2000000 in
theorem kinds_any (b:Nat) (ats:List (ByteArray × Int)) (hm:ats.length<=140737488355328) (t:Nd) (v:Nv) (w:World) (hin:NdIn w v t) (hS:Sc.SchAt w b ats) (hwt:wtN t<=1000000000) :
  Calls Tryz.prog 18 #[.pointer (some ⟨b,0,none⟩),v.val] w fun e w'=>e=.returned (.int .i64 (kndE ats t))/\Below w.heap.size w w':=by
 have hsz:sizeN t<=1000000000:=Nat.le_trans (size_wt t) hwt
 have hc:=checkT_any t v (w.alloc (.cells #[.int .i64 v.kind,.string v.attr,.slice v.qi v.ni v.ci,.slice v.qw v.nw v.cw,.int .i64 v.lo,.int .i64 v.hi,.int .i64 v.op,.slice v.qk v.nk v.ck] 29)) (hin.keep ((Below.refl _ _).alloc (Nat.le_refl _) _)) hwt
 have HIN:=hide hin
 have HS:=hide hS
 have hB:Below w.heap.size w (w.alloc (.cells #[.int .i64 v.kind,.string v.attr,.slice v.qi v.ni v.ci,.slice v.qw v.nw v.cw,.int .i64 v.lo,.int .i64 v.hi,.int .i64 v.op,.slice v.qk v.nk v.ck] 29)):=(Below.refl _ _).alloc (Nat.le_refl _) _
 have HB:=hide hB
 clear hin hS hB
 unfold Nv.val at hc ⊢
 cases hk:chkN t with
 | false =>
  have e1:kndE ats t=1:=by simp [kndE,hk]
  rw [e1]
  rw [hk] at hc
  simp only [code,Bool.false_eq_true,if_false] at hc
  clear hk e1
  go_enter Tryz.func18,Tryz.ntmps18
  go_wp2_with (go_at_call 22;refine hc.mono ?_;rintro e w1 ⟨rfl,hb⟩;have HB1:=hide hb;clear hb)
  go_ret
  exact ⟨rfl,below_sub (uh HB) (uh HB1)⟩
 | true =>
  rw [hk] at hc
  simp only [code,if_true] at hc
  have hf:=fun W (h1:NdIn W v t) (h2:Sc.SchAt W b ats)=>fits_any b ats hm t v W h1 h2 hsz
  unfold Nv.val at hf
  have HF:=hide hf
  clear hf
  cases hq:fitN ats t with
  | false =>
   have e1:kndE ats t=12:=by simp [kndE,hk,hq]
   rw [e1]
   have HQ:=hide hq
   clear hk e1 hq
   go_enter Tryz.func18,Tryz.ntmps18
   go_wp2_with first
    | (go_at_call 22;refine hc.mono ?_;rintro e w1 ⟨rfl,hb⟩;have HB1:=hide (below_sub (uh HB) hb);have hx:=(hb.block w.heap.size (by simp)).trans (box_nw w (.cells #[.int .i64 v.kind,.string v.attr,.slice v.qi v.ni v.ci,.slice v.qw v.nw v.cw,.int .i64 v.lo,.int .i64 v.hi,.int .i64 v.op,.slice v.qk v.nk v.ck] 29));obtain ⟨c0,c1,c2,c3,c4,c5,c6,c7⟩:=of8' hx;clear hb hx)
    | (go_at_call 39;refine (uh HF _ ((uh HIN).keep (uh HB1)) ((uh HS).below (uh HB1))).mono ?_;rintro e w2 ⟨rfl,hb⟩;have HB2:=hide hb;clear hb;rw [uh HQ])
   go_ret
   exact ⟨rfl,below_sub (uh HB1) (uh HB2)⟩
  | true =>
   have e1:kndE ats t=0:=by simp [kndE,hk,hq]
   rw [e1]
   have HQ:=hide hq
   clear hk e1 hq
   go_enter Tryz.func18,Tryz.ntmps18
   go_wp2_with first
    | (go_at_call 22;refine hc.mono ?_;rintro e w1 ⟨rfl,hb⟩;have HB1:=hide (below_sub (uh HB) hb);have hx:=(hb.block w.heap.size (by simp)).trans (box_nw w (.cells #[.int .i64 v.kind,.string v.attr,.slice v.qi v.ni v.ci,.slice v.qw v.nw v.cw,.int .i64 v.lo,.int .i64 v.hi,.int .i64 v.op,.slice v.qk v.nk v.ck] 29));obtain ⟨c0,c1,c2,c3,c4,c5,c6,c7⟩:=of8' hx;clear hb hx)
    | (go_at_call 39;refine (uh HF _ ((uh HIN).keep (uh HB1)) ((uh HS).below (uh HB1))).mono ?_;rintro e w2 ⟨rfl,hb⟩;have HB2:=hide hb;clear hb;rw [uh HQ])
   go_ret
   exact ⟨rfl,below_sub (uh HB1) (uh HB2)⟩
theorem parL_wt {s:ByteArray} {t:Nd} {r:List Tk} (h:parL s=.ok t r):wtN t<=1000000000:=by
 unfold parL at h
 split at h
 ·cases h
 ·rename_i hs
  split at h
  ·cases h
  ·have hf:=toksL_fit 4096 s.data.toList 0 (by simp;omega) (Nat.le_refl _)
   obtain ⟨l,hl⟩:∃ l,(Lx.toksL s.data.toList 0).1=l:=⟨_,rfl⟩
   rw [hl] at h hf
   unfold whL at h
   have hlen:l.length<=4096:=by have:=hf.1;simp at this;omega
   split at h
   ·cases h
   ·cases h
    have:=orL_wt (fun t ht=>(hf.2 t ht).2) ‹_›
    omega
   ·cases h
end Go.Proofs.YtencibjmiphinaaGreatDoor

/- What schema.New returns, for every list of attributes, and what Attrs returns of a schema. -/
import Derived.Test.YtdgoibnndfibnaaGreatDoorSScSort
namespace Go.Proofs.YtdgoibnndfibnaaGreatDoor.Sc
open Go.RowKit Go.Sort Go.Shelf
set_option maxHeartbeats 400000 in
theorem attrInForm_any (x:ByteArray × Int) (w:World) :
  Calls Tryz.prog 52 #[.agg #[.string x.1,.int .i64 x.2]] w fun e w'=>e=.returned (.bool (atOk x))/\Below w.heap.size w w':=by
 have hn:=fun (W:World)=>name_any x.1 W
 cases h:nameOk x.1 with
 | false =>
  rw [h] at hn
  have H:=hide h
  clear h
  go_enter Tryz.func52,Tryz.ntmps52
  go_wp2_with (first | (go_at_call 79;refine (hn _).mono ?_;rintro e w' ⟨rfl,rfl⟩))
  go_ret
  exact ⟨ret_bool (by simp [atOk,uh H]),(Below.refl _ _).alloc (Nat.le_refl _) _⟩
 | true =>
  rw [h] at hn
  have H:=hide h
  clear h
  by_cases h1:x.2=1
  ·have h1':(x.2 == 1)=true:=by simp [h1]
   have H1:=hide h1
   clear h1
   go_enter Tryz.func52,Tryz.ntmps52
   go_wp2_with (first | (go_at_call 79;refine (hn _).mono ?_;rintro e w' ⟨rfl,rfl⟩))
   go_ret
   exact ⟨ret_bool (by simp [atOk,uh H,uh H1]),(Below.refl _ _).alloc (Nat.le_refl _) _⟩
  ·have h1':(x.2 == 1)=false:=by simp [h1]
   have H1:=hide h1
   clear h1
   cases h2:(x.2 == 2) with
   | true =>
    have H2:=hide h2
    go_enter Tryz.func52,Tryz.ntmps52
    go_wp2_with (first | (go_at_call 79;refine (hn _).mono ?_;rintro e w' ⟨rfl,rfl⟩))
    go_ret
    exact ⟨ret_bool (by unfold atOk;rw [uh H,uh H2];simp),(Below.refl _ _).alloc (Nat.le_refl _) _⟩
   | false =>
    have H2:=hide h2
    have H1':=hide h1'
    go_enter Tryz.func52,Tryz.ntmps52
    go_wp2_with (first | (go_at_call 79;refine (hn _).mono ?_;rintro e w' ⟨rfl,rfl⟩))
    go_ret
    exact ⟨ret_bool (by unfold atOk;rw [uh H,uh H1',uh H2];rfl),(Below.refl _ _).alloc (Nat.le_refl _) _⟩
theorem all_no {α:Type} {l:List α} {f:α->Bool} {k:Nat} {x:α} (hx:l[k]? = some x) (h:f x=false):l.all f=false:=by
 rw [Bool.eq_false_iff]
 intro hall
 rw [List.all_eq_true] at hall
 have:=hall x (List.mem_of_getElem? hx)
 rw [h] at this;cases this
theorem all_yes {α:Type} {l:List α} {f:α->Bool} (h:∀ (j:Nat) (x:α),j < l.length->l[j]? = some x->f x=true):l.all f=true:=by
 rw [List.all_eq_true]
 intro x hx
 obtain ⟨j,hj,rfl⟩:=List.mem_iff_getElem.1 hx
 exact h j _ hj (List.getElem?_eq_getElem hj)
set_option maxHeartbeats 1000000 in
theorem allA_any (p:Option Addr) (cap:Nat) (l:List (ByteArray × Int)) (w:World) (hm:l.length<=140737488355328) (hA:AtsOf w p l) :
  Calls Tryz.prog 51 #[.slice p l.length cap,.func (.func 52) #[] #[]] w fun e w'=>e=.returned (.bool (l.all atOk))/\Below w.heap.size w w':=by
 have HA:=hide hA
 clear hA
 go_enter Tryz.func51,Tryz.ntmps51
 go_wp2
 go_loopw [9] (fun i wr=>∃ k:Nat,k<=l.length/\i=.int .i64 k/\Below w.heap.size w wr/\∀ (j:Nat) (x:ByteArray × Int),j < k->l[j]? = some x->atOk x=true) (fun i _=>l.length - (intOf i).toNat)
 case atStart=>exact ⟨0,by omega,rfl,Below.refl _ _,fun j x h=>by omega⟩
 case round =>
  obtain ⟨k,hk,rfl,hbel,hall⟩:=hrel
  have Hall:=hide hall
  clear hall
  by_cases hlt:k < l.length
  ·obtain ⟨bb,off,rfl,hbb,hAt⟩:=uh HA (by omega)
   obtain ⟨x,hx,_⟩:=get_at hlt
   have ki0:(0:Int)<=(k:Int):=by omega
   have ki1:(k:Int) < (l.length:Int):=by omega
   obtain ⟨g0,g1⟩:=hAt.below hbel hbb k x hx
   have Hx:=hide hx
   clear hx
   have hf:=fun (W:World)=>attrInForm_any x W
   cases ho:atOk x with
   | false =>
    have Hn:=hide (all_no (uh Hx) ho)
    rw [ho] at hf
    clear ho
    go_wp2_with (first | (go_at_call 52;refine (hf _).mono ?_;rintro e w1 ⟨rfl,b1⟩))
    go_ret
    exact ⟨ret_bool (uh Hn).symm,hbel.trans (((Below.refl _ _).alloc hbel.size _).trans (b1.mono (by have:=hbel.size;simp;omega)))⟩
   | true =>
    have Ho:=hide ho
    rw [ho] at hf
    clear ho
    go_wp2_with (first | (go_at_call 52;refine (hf _).mono ?_;rintro e w1 ⟨rfl,b1⟩))
    go_roundw
    case rel=>exact ⟨k + 1,by omega,by go_num,hbel.trans (((Below.refl _ _).alloc hbel.size _).trans (b1.mono (by have:=hbel.size;simp;omega))),fun j x' hj hx'=>by
     by_cases e:j=k
     ·subst e
      obtain rfl:x'=x:=Option.some.inj (hx'.symm.trans (uh Hx))
      exact uh Ho
     ·exact uh Hall j x' (by omega) hx'⟩
    case measure=>simp [intOf];omega
  ·obtain rfl:k=l.length:=by omega
   have Hy:=hide (all_yes (uh Hall))
   go_wp2
   go_ret
   exact ⟨ret_bool (uh Hy).symm,hbel⟩
/-- A schema in new memory, behind B. -/
def SchNew (B:Nat) (w:World) (b:Nat) (l:List (ByteArray × Int)):Prop :=
  B<=b/\b < w.heap.size/\∃ q cap,w.cell? ⟨b,0,none⟩=some (.slice q l.length cap)/\NewA B w q cap l
theorem SchNew.at {B:Nat} {w:World} {b:Nat} {l:List (ByteArray × Int)} (h:SchNew B w b l):SchAt w b l:=by
 obtain ⟨_,h1,q,cap,hc,hN⟩:=h
 refine ⟨h1,q,cap,hc,hN.of,fun e=>?_⟩
 rcases hN with ⟨_,rfl,h2⟩ | ⟨g,h2,_⟩
 ·exact ⟨rfl,h2⟩
 ·rw [e] at h2;cases h2
theorem SchNew.below {B:Nat} {w w':World} {b:Nat} {l:List (ByteArray × Int)} (h:SchNew B w b l) (hb:Below w.heap.size w w'):SchNew B w' b l:=by
 obtain ⟨h0,h1,q,cap,hc,hN⟩:=h
 exact ⟨h0,Nat.lt_of_lt_of_le h1 hb.size,q,cap,(hb.cell (by exact h1)).trans hc,hN.below hb⟩
theorem SchNew.mono {B B':Nat} {w:World} {b:Nat} {l:List (ByteArray × Int)} (h:SchNew B w b l) (hb:B'<=B):SchNew B' w b l:=by
 obtain ⟨h0,h1,q,cap,hc,hN⟩:=h
 exact ⟨Nat.le_trans hb h0,h1,q,cap,hc,hN.mono hb⟩
/-- What New returns. -/
def NewRes (B:Nat) (l:List (ByteArray × Int)) (e:Ending) (w':World):Prop :=
  (64 < l.length/\e=.returned (.tuple #[.pointer none,.int .i64 2])) ∨
  (l.length<=64/\¬ (l.all atOk=true/\(l.map nmA).Nodup)/\e=.returned (.tuple #[.pointer none,.int .i64 1])) ∨
  (l.length<=64/\l.all atOk=true/\(l.map nmA).Nodup/\∃ b l',e=.returned (.tuple #[.pointer (some ⟨b,0,none⟩),.int .i64 0])/\l'.Perm l/\Strict nmA l'/\SchNew B w' b l')
set_option maxHeartbeats 1000000 in
theorem new_any (p:Option Addr) (cap:Nat) (l:List (ByteArray × Int)) (w:World) (hl:l.length * 24<=140737488355328) (hp:p=none->l.length=0/\cap=0) (hA:AtsOf w p l) :
  Calls Tryz.prog 25 #[.slice p l.length cap] w fun e w'=>NewRes w.heap.size l e w'/\Below w.heap.size w w':=by
 by_cases h64:64 < l.length
 ·have i1:(64:Int) < (l.length:Int):=by omega
  clear hA hp
  go_enter Tryz.func25,Tryz.ntmps25
  go_wp2
  go_ret2
  exact ⟨Or.inl ⟨h64,rfl⟩,Below.refl _ _⟩
 ·have i1:¬ (64:Int) < (l.length:Int):=by omega
  have hal:=allA_any p cap l w (by omega) hA
  cases ho:l.all atOk with
  | false =>
   rw [ho] at hal
   have Ho:=hide ho
   clear ho hA hp
   go_enter Tryz.func25,Tryz.ntmps25
   go_wp2_with (first | (go_at_call 51;refine hal.mono ?_;rintro e w1 ⟨rfl,b1⟩))
   go_ret2
   exact ⟨Or.inr (Or.inl ⟨by omega,(fun h=>by rw [uh Ho] at h;cases h.1),rfl⟩),b1⟩
  | true =>
   rw [ho] at hal
   have Ho:=hide ho
   have hri:=fun (W:World) (hb:Below w.heap.size w W)=>risingA_any p cap l W hl hp (hA.below hb)
   clear ho hA hp
   go_enter Tryz.func25,Tryz.ntmps25
   go_wp2_with (first
    | (go_at_call 51;refine hal.mono ?_;rintro e w1 ⟨rfl,b1⟩)
    | (go_at_call 53;refine (hri _ b1).mono ?_;rintro e w2 ⟨hres,b2⟩;rcases hres with ⟨l',q,cap',rfl,hperm,hstr,hN,_⟩ | ⟨rfl,hno⟩))
   ·have HN:=hide hN
    have Hp:=hide hperm
    have Hs:=hide hstr
    have hbb:=hide (below_sub b1 b2)
    have hb1:=b1.size
    have hb2:=b2.size
    clear hN hperm hstr hri b1 b2
    go_wp2
    go_ret2
    have hbn:Below w2.heap.size w2 (w2.alloc (.cells #[.slice q l'.length cap'] 96)):=(Below.refl _ _).alloc (Nat.le_refl _) _
    refine ⟨Or.inr (Or.inr ⟨by omega,uh Ho,strict_nodup (uh Hs) (uh Hp),w2.heap.size,l',rfl,uh Hp,uh Hs,by omega,by simp,q,cap',by go_simp,((uh HN).mono hb1).below hbn⟩), ?_⟩
    exact below_sub (uh hbb) hbn
   ·have Hn:=hide hno
    have hbb:=hide (below_sub b1 b2)
    clear hri b1 b2 hno
    go_wp2
    go_ret2
    exact ⟨Or.inr (Or.inl ⟨by omega,fun h=>uh Hn h.2,rfl⟩),uh hbb⟩
end Go.Proofs.YtdgoibnndfibnaaGreatDoor.Sc

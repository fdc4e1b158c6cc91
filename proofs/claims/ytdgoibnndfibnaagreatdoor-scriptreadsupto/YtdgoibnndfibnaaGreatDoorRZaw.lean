/- ScriptAhead: the law. -/
import Derived.Test.YtdgoibnndfibnaaGreatDoorRZav
import Derived.Test.YtdgoibnndfibnaaGreatDoorRZaq
import Derived.Test.YtdgoibnndfibnaaGreatDoorRS38
import Derived.Test.YtdgoibnndfibnaaGreatDoorRZar
namespace Go.Proofs.YtdgoibnndfibnaaGreatDoor
open Go.RowKit Go.Sort
theorem go_cases:∀ (k n:Nat) (s:Scr) (t:Bs),t.length < k->(∃ s',readFrom n s t=(0,some s')) ∨ ∃ m,readFrom n s t=(m,none)
 | 0,_,_,_,h=>by omega
 | k + 1,n,s,t,hk=>by
  by_cases he:n ≠ 1/\t=[]
  ·obtain ⟨h1,rfl⟩:=he
   exact Or.inl ⟨s,readFrom_end h1 s⟩
  ·cases hc:cut10 t with
   | none=>exact Or.inr ⟨n,readFrom_none he hc⟩
   | some x =>
    cases ha:addS s n x.1 with
    | none=>exact Or.inr ⟨n,readFrom_bad hc ha⟩
    | some s' =>
     rw [readFrom_step hc ha]
     obtain ⟨e,_⟩:=cut10_len hc
     have hl:t.length=x.1.length + (x.2.length + 1):=by rw [e];simp
     exact go_cases k (n + 1) s' x.2 (by omega)
theorem readS_cases (t:Bs):(∃ s,readS t=(0,some s)) ∨ ∃ n,readS t=(n,none):=go_cases (t.length + 1) 1 scr0 t (by omega)
theorem lb_self (s:ByteArray):s=⟨(Lb s).toArray⟩:=str_eq rfl
theorem lb_len (s:ByteArray):(Lb s).length=s.size:=by unfold Lb;rw [Array.length_toList];rfl
end Go.Proofs.YtdgoibnndfibnaaGreatDoor
namespace Go.Proofs.YtdgoibnndfibnaaGreatDoor
open Go.RowKit Go.Sort
theorem parse_zero (L:Bs) (m:Nat) (h:readS L=(m,none)) (text:ByteArray) (ht:text=⟨L.toArray⟩) (hz:L.length<=100000000000) (W:World) (hG:G W) :
  Calls Tryz.prog 18 #[.string text] W fun e w'=>e=.returned (.tuple #[.agg #[.int .i64 0,.int .i64 0,.int .i64 0,.int .i64 0,.int .i64 0,.int .i64 0,.int .i64 0,.int .i64 0,.slice none 0 0,.slice none 0 0],.int .i64 (m:Int),.int .i64 10])/\Below W.heap.size W w':=by
 refine (parseScr_any L W hG hz text ht).mono ?_
 rintro e w' ⟨h1,hb⟩
 refine ⟨?_,hb⟩
 rcases h1 with ⟨s',hs,_⟩ | ⟨n,hn,rfl⟩
 ·rw [h] at hs
  injection hs with _ hs
  cases hs
 ·rw [h] at hn
  injection hn with hn _
  subst hn
  rfl
theorem zero_same (W:World):Calls Tryz.prog 17 #[.agg #[.int .i64 0,.int .i64 0,.int .i64 0,.int .i64 0,.int .i64 0,.int .i64 0,.int .i64 0,.int .i64 0,.slice none 0 0,.slice none 0 0],.agg #[.int .i64 0,.int .i64 0,.int .i64 0,.int .i64 0,.int .i64 0,.int .i64 0,.int .i64 0,.int .i64 0,.slice none 0 0,.slice none 0 0]] W fun e w'=>e=.returned (.bool true)/\Below W.heap.size W w':=by
 have h0:TxIn W none 0 none 0 [] scr0:=⟨SlOf.none _,SlOf.none _,rfl,fun j u o h1 _=>by simp at h1⟩
 have h:=refSame_scr W none 0 none 0 [] scr0 none 0 none 0 [] scr0 h0 h0 (by decide) (by simp) (fun o ho=>by simp [scr0] at ho)
 rw [sameB_refl] at h
 exact h
theorem ScrK.Z {K:Nat} {s:Scr} (h:ScrK K s) (hK:K<=100000000000):∀ o ∈ s.ops,OpZ o:=fun o ho=>by
 have:=(h.ops o ho).2
 unfold OpZ;omega
end Go.Proofs.YtdgoibnndfibnaaGreatDoor
namespace Go.Proofs.YtdgoibnndfibnaaGreatDoor
open Go.RowKit Go.Sort
end Go.Proofs.YtdgoibnndfibnaaGreatDoor
namespace Go.Proofs.YtdgoibnndfibnaaGreatDoor
open Go.RowKit Go.Sort
theorem wrap64 (n:Int):IntKind.u64.wrap n=n % 18446744073709551616:=by
 unfold IntKind.wrap
 simp only [show IntKind.u64.signed=false from rfl,Bool.false_and,Bool.false_eq_true,if_false]
 rfl
theorem wrap8 (n:Int):IntKind.u8.wrap n=n % 256:=by
 unfold IntKind.wrap
 simp only [show IntKind.u8.signed=false from rfl,Bool.false_and,Bool.false_eq_true,if_false]
 rfl
theorem wrap_i64 (u:Nat) (h:u < 18446744073709551616):IntKind.i64.wrap (u:Int)=u64I u:=by
 unfold IntKind.wrap u64I
 have e:(2:Int) ^ IntKind.i64.bits=18446744073709551616:=rfl
 have e2:(2:Int) ^ (IntKind.i64.bits - 1)=9223372036854775808:=rfl
 simp only [e,e2,show IntKind.i64.signed=true from rfl,Bool.true_and,decide_eq_true_eq]
 by_cases hu:u < 9223372036854775808
 ·rw [if_pos hu,if_neg (by omega)];omega
 ·rw [if_neg hu,if_pos (by omega)];omega
/-- What is read of a word so far. -/
def numS (l:Bs):Nat × Bool:=match l with
 | []=>(0,false)
 | c :: r=>if c=45 then (r.foldl stepU 0,true) else (r.foldl stepU (stepU 0 c),false)
theorem numS_lt (l:Bs):(numS l).1 < 18446744073709551616:=by
 cases l with
 | nil=>decide
 | cons c r =>
  unfold numS
  simp only
  split
  ·exact foldU_lt r _ (by decide)
  ·exact foldU_lt r _ (stepU_lt 0 c)
theorem numR_S (l:Bs):numR l=if (numS l).2=true then u64I ((18446744073709551616 - (numS l).1) % 18446744073709551616) else u64I (numS l).1:=by
 cases l with
 | nil=>rfl
 | cons c r =>
  unfold numR numS
  simp only
  by_cases h:c=45
  ·rw [if_pos h,if_pos h];rfl
  ·rw [if_neg h,if_neg h];rfl
theorem numS_snoc {l:Bs} (h:l ≠ []) (c:UInt8):numS (l ++ [c])=(stepU (numS l).1 c,(numS l).2):=by
 cases l with
 | nil=>exact absurd rfl h
 | cons a r =>
  rw [List.cons_append]
  unfold numS
  simp only
  by_cases h:a=45
  ·rw [if_pos h,if_pos h];simp
  ·rw [if_neg h,if_neg h];simp
theorem vu {a b:Int} (h:a=b):Value.int .u64 a=Value.int .u64 b:=by rw [h]
set_option maxHeartbeats 4000000 in
set_option maxRecDepth 100000 in
theorem refNumber_any (s:ByteArray) (w:World) (hz:s.size<=140737488355328) :
  Calls Tryz.prog 74 #[.string s] w fun e w'=>e=.returned (.int .i64 (numR (Lb s)))/\w'=w:=by
 have a0:(s.size:Int)<=140737488355328:=by omega
 go_enter Tryz.func74,Tryz.ntmps74
 go_wp2
 go_loopw [3,4,5] (fun u nt i wr=>wr=w/\∃ (k U:Nat) (b:Bool),k<=s.size/\i=.int .i64 (k:Int)/\u=.int .u64 (U:Int)/\nt=.bool b/\Hid ((U,b)=numS ((Lb s).take k))) (fun _ _ i _=>s.size - (intOf i).toNat)
 case atStart=>exact ⟨rfl,0,0,false,Nat.zero_le _,rfl,rfl,rfl,hide rfl⟩
 case round =>
  obtain ⟨rfl,k,U,b,hk,rfl,rfl,rfl,HS⟩:=hrel
  by_cases hlt:k < s.size
  ·have ki0:(0:Int)<=(k:Int):=by omega
   have ki1:(k:Int) < (s.size:Int):=by omega
   have ks:k < s.size:=hlt
   have htk:(Lb s).take (k + 1)=(Lb s).take k ++ [s[k]]:=take_snoc_of (by have h:=congrArg (fun l=>l[0]?) (drop_at hlt);rw [List.getElem?_drop] at h;simp only [Nat.add_zero,List.getElem?_cons_zero] at h;exact h)
   obtain ⟨c,hc⟩:∃ c,s[k]=c:=⟨_,rfl⟩
   rw [hc] at htk
   have e45:=u8_eq c 45 (by decide)
   have hUl:=numS_lt ((Lb s).take k)
   rw [<- uh HS] at hUl
   simp only at hUl
   have hcl:=c.toNat_lt
   have hst:IntKind.u64.wrap (IntKind.u64.wrap ((U:Int) * 10) + IntKind.u64.wrap (IntKind.u8.wrap ((c.toNat:Int) - 48)))=(stepU U c:Int):=by
    rw [wrap64,wrap64,wrap64,wrap8]
    unfold stepU
    omega
   have hst2:IntKind.u64.wrap (IntKind.u64.wrap ((U:Int) * 10) + IntKind.u8.wrap ((c.toNat:Int) - 48))=(stepU U c:Int):=by
    rw [wrap64,wrap64,wrap8]
    unfold stepU
    omega
   by_cases h0:k=0
   ·have n0:((k:Int) == 0)=true:=by rw [h0];rfl
    obtain ⟨rfl,rfl⟩:U=0/\b=false:=by have:=uh HS;rw [h0] at this;simp [numS] at this;exact this
    have htk0:(Lb s).take (k + 1)=[c]:=by rw [htk,h0];simp
    by_cases h45:c=45
    ·have n45:((c.toNat:Int) == 45)=true:=by rw [h45];rfl
     have HS2:=hide (show ((0:Nat),true)=numS ((Lb s).take (k + 1)) by rw [htk0];simp [numS,h45])
     clear e45 htk htk0 hst hst2 h45 h0
     go_wp2
     exact ⟨⟨trivial,k + 1,0,true,by omega,by go_num,rfl,rfl,HS2⟩,by simp [intOf];omega⟩
    ·have n45:((c.toNat:Int) == 45)=false:=by rw [show ((c.toNat:Int) == 45)=decide (c=45) from e45];exact decide_eq_false h45
     have HS2:=hide (show (stepU 0 c,false)=numS ((Lb s).take (k + 1)) by rw [htk0];simp [numS,h45])
     clear e45 htk htk0 h45 h0
     go_wp2
     exact ⟨⟨trivial,k + 1,stepU 0 c,false,by omega,by go_num,(by first | rfl | exact vu (by unfold stepU;omega)),rfl,HS2⟩,by simp [intOf];omega⟩
   ·have n0:((k:Int) == 0)=false:=by simp;omega
    have HS2:=hide (show (stepU U c,b)=numS ((Lb s).take (k + 1)) by rw [htk,numS_snoc (by intro e;have:=congrArg List.length e;rw [List.length_take,lb_len] at this;simp only [List.length_nil] at this;omega),<- uh HS])
    clear e45 htk
    go_wp2
    exact ⟨⟨trivial,k + 1,stepU U c,b,by omega,by go_num,(by first | rfl | exact vu hst | exact vu hst2 | exact vu (by unfold stepU;omega)),rfl,HS2⟩,by simp [intOf];omega⟩
  ·obtain rfl:k=s.size:=by omega
   have ki1:¬ (s.size:Int) < (s.size:Int):=by omega
   have hS:=uh HS
   rw [List.take_of_length_le (by rw [lb_len];exact Nat.le_refl _)] at hS
   have hUl:=numS_lt (Lb s)
   have hR:=numR_S (Lb s)
   rw [<- hS] at hUl hR
   simp only at hUl hR
   have w1:=wrap_i64 U hUl
   have w2:IntKind.i64.wrap (IntKind.u64.wrap (-(U:Int)))=u64I ((18446744073709551616 - U) % 18446744073709551616):=by
    rw [<- wrap_i64 _ (Nat.mod_lt _ (by decide)),wrap64]
    congr 1
    omega
   cases b with
   | true =>
    rw [if_pos rfl] at hR
    have HR:=hide hR
    clear hS hUl hR w1
    go_wp2
    go_ret
    exact ⟨by rw [uh HR];rfl,rfl⟩
   | false =>
    rw [if_neg (by decide)] at hR
    have HR:=hide hR
    clear hS hUl hR w2
    go_wp2
    go_ret
    exact ⟨by rw [uh HR];rfl,rfl⟩
end Go.Proofs.YtdgoibnndfibnaaGreatDoor
namespace Go.Proofs.YtdgoibnndfibnaaGreatDoor
open Go.RowKit Go.Sort
theorem strAt {w:World} {q:Option Addr} {c:Nat} {l:List ByteArray} {j:Nat} {x:ByteArray} (h:SlOf encS 1 w q c l) (hj:l[j]? = some x):∃ b off,q=some ⟨b,off,none⟩/\b < w.heap.size/\w.cell? ⟨b,off + j,none⟩=some (.string x):=by
 obtain ⟨b,off,hq,hb,hc⟩:=h.2.2.2.at hj
 exact ⟨b,off,hq,hb,by have:=hc 0 (by omega);rw [Nat.mul_one] at this;exact this⟩
theorem bal_to {a w:World} (h:Below a.heap.size a w) (o:Obj):Below a.heap.size a (w.alloc o):=bal h o
set_option maxHeartbeats 4000000 in
set_option maxRecDepth 100000 in
theorem refNumbers_any (q0:Option Addr) (c0:Nat) (l:List ByteArray) (w:World) (hz:l.length<=1000000000) (hs:∀ s ∈ l,s.size<=140737488355328) (hl:SlOf encS 1 w q0 c0 l) :
  Calls Tryz.prog 42 #[.slice q0 l.length c0] w fun e w'=>(∃ (q:Option Addr) (c:Nat),e=.returned (.slice q l.length c)/\OwnK encI 3 1 w.heap.size w' q c (l.map fun s=>numR (Lb s)))/\Below w.heap.size w w':=by
 have HL:=hide hl
 have HS:=hide hs
 have a0:(l.length:Int)<=1000000000:=by omega
 clear hl hs
 go_enter Tryz.func42,Tryz.ntmps42
 go_wp2
 go_loopw [3,4] (fun v i wr=>∃ (k:Nat) (q:Option Addr) (c:Nat),k<=l.length/\i=.int .i64 (k:Int)/\v=.slice q k c/\Hid (OwnK encI 3 1 w.heap.size wr q c ((l.take k).map fun s=>numR (Lb s)))/\Hid (Below w.heap.size w wr)) (fun _ i _=>l.length - (intOf i).toNat)
 case atStart=>exact ⟨0,none,0,Nat.zero_le _,rfl,rfl,hide (OwnK.nil _ _),hide (Below.refl _ _)⟩
 case round =>
  obtain ⟨k,q,cp,hk,rfl,rfl,HO,HB⟩:=hrel
  by_cases hlt:k < l.length
  ·obtain ⟨x,hx,_⟩:=get_at hlt
   obtain ⟨b,off,hq,hb,d0⟩:=strAt ((uh HL).below (uh HB)) hx
   have hn:=fun W=>refNumber_any x W (uh HS x (List.mem_of_getElem? hx))
   obtain ⟨M,hM⟩:∃ M,numR (Lb x)=M:=⟨_,rfl⟩
   rw [hM] at hn
   have ki0:(0:Int)<=(k:Int):=by omega
   have ki1:(k:Int) < (l.length:Int):=by omega
   have HLL:=hide (show ((l.take k).map fun s=>numR (Lb s)).length=k by simp;omega)
   have HTK:=hide (show ((l.take k).map fun s=>numR (Lb s)) ++ [M]=(l.take (k + 1)).map fun s=>numR (Lb s) by rw [take_snoc_of hx,List.map_append,<- hM];rfl)
   have hbs:w.heap.size<=wr.heap.size:=(uh HB).size
   subst hq
   clear hx hM
   go_wp2_with (first
    | (go_at_call 74;refine (hn _).mono ?_;rintro e w3 ⟨rfl,rfl⟩;have HFL:=hide trivial)
    | (at_builtin;refine wpList_app rowI rfl _ _ rfl w.heap.size q cp ((l.take k).map fun s=>numR (Lb s)) (some ⟨w3.heap.size,0,none⟩) 1 [M] k 1 (k + 1) (uh HLL) rfl rfl rfl rfl ((uh HO).below ((Below.refl _ _).alloc (Nat.le_refl _) _)) (one_int w3 M).src (by unfold maxLen;omega) (by omega) (by simp;omega) ?_;intro q2 c2 w5 o5 b5 _ _;have HO5:=hide o5;have HB5:=hide (below_tr ((uh HB).trans ((Below.refl _ _).alloc hbs (.cells #[.int .i64 M] 3))) b5);clear o5 b5))
   exact ⟨⟨k + 1,q2,c2,by omega,by go_num,rfl,hide (by rw [<- uh HTK];exact uh HO5),HB5⟩,by simp [intOf];omega⟩
  ·obtain rfl:k=l.length:=by omega
   have ki1:¬ (l.length:Int) < (l.length:Int):=by omega
   go_wp2
   go_ret
   exact ⟨⟨q,cp,rfl,by have h:=uh HO;rwa [List.take_length] at h⟩,uh HB⟩
theorem ext_str (s:ByteArray) (a b:Nat):Lb (s.extract a b)=((Lb s).drop a).take (b - a):=by
 unfold Lb
 rw [ByteArray.data_extract,Array.toList_extract,List.extract_eq_take_drop]
set_option maxHeartbeats 8000000 in
set_option maxRecDepth 100000 in
theorem refCut_any (s:ByteArray) (w:World) (hz:s.size<=100000000) :
  Calls Tryz.prog 43 #[.string s] w fun e w'=>(∃ (q:Option Addr) (c:Nat) (ws:List ByteArray),e=.returned (.slice q ws.length c)/\ws.map Lb=cutL (Lb s)/\OwnK encS 9 1 w.heap.size w' q c ws)/\Below w.heap.size w w':=by
 have a0:(s.size:Int)<=100000000:=by omega
 have hll:=lb_len s
 have HLN:=hide hll
 clear hll
 go_enter Tryz.func43,Tryz.ntmps43
 go_wp2
 go_loopw [3,4,5,6] (fun v f b i wr=>∃ (k fr n:Nat) (bq:Bool) (q:Option Addr) (c:Nat) (ws:List ByteArray),k<=s.size + 1/\fr<=k/\fr<=s.size/\n<=fr/\i=.int .i64 (k:Int)/\f=.int .i64 (fr:Int)/\b=.bool bq/\v=.slice q n c/\Hid (ws.length=n)/\Hid (ws.map Lb ++ cutG bq (((Lb s).drop fr).take (k - fr)) ((Lb s).drop k)=cutL (Lb s))/\Hid (OwnK encS 9 1 w.heap.size wr q c ws)/\Hid (Below w.heap.size w wr)) (fun _ _ _ i _=>s.size + 1 - (intOf i).toNat)
 case atStart=>exact ⟨0,0,0,false,none,0,[],by omega,Nat.le_refl _,Nat.zero_le _,Nat.le_refl _,rfl,rfl,rfl,rfl,hide rfl,hide rfl,hide (OwnK.nil _ _),hide (Below.refl _ _)⟩
 case round =>
  obtain ⟨k,fr,n,bq,q,cp,LS,hk,hfk,hfs,hnf,rfl,rfl,rfl,rfl,HLL,HC,HO,HB⟩:=hrel
  have hbs:w.heap.size<=wr.heap.size:=(uh HB).size
  have ki0:(0:Int)<=(k:Int):=by omega
  have kf0:(0:Int)<=(fr:Int):=by omega
  have kfk:(fr:Int)<=(k:Int):=by omega
  by_cases hlt:k < s.size
  ·have ki1:(k:Int) < (s.size:Int):=by omega
   have ks:k < s.size:=hlt
   have hd:=drop_at hlt
   have hacc:∀ c,s[k]=c->((Lb s).drop fr).take (k + 1 - fr)=((Lb s).drop fr).take (k - fr) ++ [c]:=fun c hc=>by
    rw [show k + 1 - fr=(k - fr) + 1 by omega]
    refine take_snoc_of ?_
    rw [List.getElem?_drop,show fr + (k - fr)=k by omega]
    have h:=congrArg (fun l=>l[0]?) hd
    rw [List.getElem?_drop] at h
    simp only [Nat.add_zero,List.getElem?_cons_zero] at h
    rw [h,hc]
   obtain ⟨c,hc⟩:∃ c,s[k]=c:=⟨_,rfl⟩
   have hac:=hacc c hc
   rw [hc] at hd
   have hC:=uh HC
   rw [hd] at hC
   have e92:=u8_eq c 92 (by decide)
   have e34:=u8_eq c 34 (by decide)
   have e32:=u8_eq c 32 (by decide)
   by_cases h34:c=34
   ·have n34:((c.toNat:Int) == 34)=true:=by rw [h34];rfl
    have n92:((c.toNat:Int) == 92)=false:=by rw [h34];rfl
    have n32:((c.toNat:Int) == 32)=false:=by rw [h34];rfl
    rw [h34,cutG_mark,<- h34,<- hac] at hC
    have HC2:=hide hC
    clear hC hac hacc hd e92 e34 e32 h34
    cases bq with
    | true =>
     go_wp2
     exact ⟨⟨k + 1,fr,n,false,q,cp,LS,by omega,by omega,by omega,by omega,by go_num,rfl,rfl,rfl,HLL,HC2,HO,HB⟩,by simp [intOf];omega⟩
    | false =>
     go_wp2
     exact ⟨⟨k + 1,fr,n,true,q,cp,LS,by omega,by omega,by omega,by omega,by go_num,rfl,rfl,rfl,HLL,HC2,HO,HB⟩,by simp [intOf];omega⟩
   ·have n34:((c.toNat:Int) == 34)=false:=by rw [show ((c.toNat:Int) == 34)=decide (c=34) from e34];exact decide_eq_false h34
    cases bq with
    | true =>
     by_cases h92:c=92
     ·have n92:((c.toNat:Int) == 92)=true:=by rw [h92];rfl
      have HC2:Hid (LS.map Lb ++ cutG true (((Lb s).drop fr).take (k + 2 - fr)) ((Lb s).drop (k + 2))=cutL (Lb s)):=by
       refine hide ?_
       rw [<- hC,h92]
       congr 1
       by_cases h2:k + 1 < s.size
       ·have hd2:=drop_at h2
        have ha2:((Lb s).drop fr).take (k + 2 - fr)=((Lb s).drop fr).take (k + 1 - fr) ++ [s[k + 1]]:=by
         rw [show k + 2 - fr=(k + 1 - fr) + 1 by omega]
         refine take_snoc_of ?_
         rw [List.getElem?_drop,show fr + (k + 1 - fr)=k + 1 by omega]
         have h:=congrArg (fun l=>l[0]?) hd2
         rw [List.getElem?_drop] at h
         simp only [Nat.add_zero,List.getElem?_cons_zero] at h
         exact h
        rw [hd2,cutG_esc,ha2,hac,h92]
        simp
       ·have e1:(Lb s).drop (k + 1)=[]:=List.drop_eq_nil_of_le (by have:=uh HLN;omega)
        have e2:(Lb s).drop (k + 2)=[]:=List.drop_eq_nil_of_le (by have:=uh HLN;omega)
        rw [e1,e2,cutG_esc1,cutG_end,<- h92,<- hac]
        rw [List.take_of_length_le (by rw [List.length_drop];have:=uh HLN;omega),List.take_of_length_le (by rw [List.length_drop];have:=uh HLN;omega)]
      clear hC hac hacc hd e92 e34 e32 h92 h34
      go_wp2
      exact ⟨⟨k + 2,fr,n,true,q,cp,LS,by omega,by omega,by omega,by omega,by go_num,rfl,rfl,rfl,HLL,HC2,HO,HB⟩,by simp [intOf];omega⟩
     ·have n92:((c.toNat:Int) == 92)=false:=by rw [show ((c.toNat:Int) == 92)=decide (c=92) from e92];exact decide_eq_false h92
      rw [cutG_one (fun e=>absurd e h92) h34 (Or.inr rfl),<- hac] at hC
      have HC2:=hide hC
      clear hC hac hacc hd e92 e34 h92 h34
      cases h32:((c.toNat:Int) == 32) with
      | true =>
       clear e32
       go_wp2
       exact ⟨⟨k + 1,fr,n,true,q,cp,LS,by omega,by omega,by omega,by omega,by go_num,rfl,rfl,rfl,HLL,HC2,HO,HB⟩,by simp [intOf];omega⟩
      | false =>
       clear e32
       go_wp2
       exact ⟨⟨k + 1,fr,n,true,q,cp,LS,by omega,by omega,by omega,by omega,by go_num,rfl,rfl,rfl,HLL,HC2,HO,HB⟩,by simp [intOf];omega⟩
    | false =>
     by_cases h32:c=32
     ·have n32:((c.toNat:Int) == 32)=true:=by rw [h32];rfl
      obtain ⟨A,hA⟩:∃ A,s.extract fr k=A:=⟨_,rfl⟩
      have hAl:Lb A=((Lb s).drop fr).take (k - fr):=by rw [<- hA,ext_str]
      have HC2:Hid ((LS ++ [A]).map Lb ++ cutG false (((Lb s).drop (k + 1)).take (k + 1 - (k + 1))) ((Lb s).drop (k + 1))=cutL (Lb s)):=by
       refine hide ?_
       rw [<- hC,h32,cutG_blank,<- hAl]
       simp
      have HA:=hide hA
      clear hC hac hacc hd e92 e34 e32 h32 h34 hAl
      go_wp2_with (at_builtin;refine wpList_app rowS rfl _ _ rfl w.heap.size q cp LS (some ⟨wr.heap.size,0,none⟩) 1 [A] n 1 (n + 1) (uh HLL) rfl rfl rfl rfl ((uh HO).below ((Below.refl _ _).alloc (Nat.le_refl _) _)) (one_str wr (A)).src (by unfold maxLen;omega) (by omega) (by have:=(uh HB).size;simp;omega) ?_;intro q2 c2 w5 o5 b5 _ _;have HO5:=hide o5;have HB5:=hide (below_tr (bal_to (uh HB) (.cells #[.string (A)] 9)) b5);clear o5 b5)
      exact ⟨⟨k + 1,k + 1,n + 1,false,q2,c2,LS ++ [A],by omega,by omega,by omega,by omega,by go_num,by go_num,rfl,rfl,hide (by rw [List.length_append,uh HLL];rfl),HC2,HO5,HB5⟩,by simp [intOf];omega⟩
     ·have n32:((c.toNat:Int) == 32)=false:=by rw [show ((c.toNat:Int) == 32)=decide (c=32) from e32];exact decide_eq_false h32
      rw [cutG_one (fun _=>rfl) h34 (Or.inl h32),<- hac] at hC
      have HC2:=hide hC
      clear hC hac hacc hd e34 e32 h32 h34 e92
      go_wp2
      exact ⟨⟨k + 1,fr,n,false,q,cp,LS,by omega,by omega,by omega,by omega,by go_num,rfl,rfl,rfl,HLL,HC2,HO,HB⟩,by simp [intOf];omega⟩
  ·have ki1:¬ (k:Int) < (s.size:Int):=by omega
   have kfs:(fr:Int)<=(s.size:Int):=by omega
   obtain ⟨A,hA⟩:∃ A,s.extract fr s.size=A:=⟨_,rfl⟩
   have hAl:Lb A=(Lb s).drop fr:=by rw [<- hA,ext_str,List.take_of_length_le (by rw [List.length_drop];have:=uh HLN;omega)]
   have hC:=uh HC
   rw [List.drop_eq_nil_of_le (show (Lb s).length<=k by have:=uh HLN;omega),cutG_end,List.take_of_length_le (by rw [List.length_drop];have:=uh HLN;omega),<- hAl] at hC
   have HC2:=hide (show (LS ++ [A]).map Lb=cutL (Lb s) by rw [<- hC];simp)
   have HA:=hide hA
   clear hC hAl
   go_wp2_with (at_builtin;refine wpList_app rowS rfl _ _ rfl w.heap.size q cp LS (some ⟨wr.heap.size,0,none⟩) 1 [A] n 1 (n + 1) (uh HLL) rfl rfl rfl rfl ((uh HO).below ((Below.refl _ _).alloc (Nat.le_refl _) _)) (one_str wr (A)).src (by unfold maxLen;omega) (by omega) (by have:=(uh HB).size;simp;omega) ?_;intro q2 c2 w5 o5 b5 _ _;have HO5:=hide o5;have HB5:=hide (below_tr (bal_to (uh HB) (.cells #[.string (A)] 9)) b5);clear o5 b5)
   go_ret
   exact ⟨⟨q2,c2,LS ++ [A],by rw [List.length_append,uh HLL];rfl,uh HC2,uh HO5⟩,uh HB5⟩
end Go.Proofs.YtdgoibnndfibnaaGreatDoor

/- What schema.Name and the reference's Name return, for every text: the same. -/
import Derived.Test.YtencibjmiphinaaGreatDoorEZab
import Derived.Test.YtencibjmiphinaaGreatDoorEOwn
import Derived.Test.YtencibjmiphinaaGreatDoorELxOwn
namespace Go.Proofs.YtencibjmiphinaaGreatDoor
open Go.RowKit
def isLet (c:Int):Bool:=decide (97<=c) && decide (c<=122)
def isDig (c:Int):Bool:=decide (48<=c) && decide (c<=57)
def okB (c:Int):Bool:=isLet c || isDig c || c == 95
def byteI (s:ByteArray) (i:Nat):Int:=if h:i < s.size then (s[i].toNat:Int) else 0
theorem byteI_lt {s:ByteArray} {i:Nat} (h:i < s.size):byteI s i=(s[i].toNat:Int):=by unfold byteI;rw [dif_pos h]
/-- Is it a name? -/
def nameOk (s:ByteArray):Bool:=decide (1<=s.size) && decide (s.size<=32) && isLet (byteI s 0) && (List.range s.size).all fun i=>okB (byteI s i)
theorem name_no0 {s:ByteArray} (h:s.size < 1):nameOk s=false:=by unfold nameOk;simp;omega
theorem name_no32 {s:ByteArray} (h:32 < s.size):nameOk s=false:=by unfold nameOk;simp;omega
theorem name_noL {s:ByteArray} (h:isLet (byteI s 0)=false):nameOk s=false:=by unfold nameOk;simp [h]
theorem name_noB {s:ByteArray} {i:Nat} (hi:i < s.size) (h:okB (byteI s i)=false):nameOk s=false:=by
 unfold nameOk
 rw [Bool.and_eq_false_iff]
 right
 rw [Bool.eq_false_iff]
 intro hall
 rw [List.all_eq_true] at hall
 have:=hall i (by simpa using hi)
 rw [h] at this;cases this
theorem name_yes {s:ByteArray} (h1:1<=s.size) (h2:s.size<=32) (h3:isLet (byteI s 0)=true) (h:∀ j,j < s.size->okB (byteI s j)=true):nameOk s=true:=by
 unfold nameOk
 rw [h3]
 simp only [Bool.and_eq_true,decide_eq_true_eq,List.all_eq_true,List.mem_range]
 exact ⟨⟨⟨h1,h2⟩,trivial⟩,h⟩
set_option maxHeartbeats 400000 in
theorem schLet_any (c:Int) (w:World) :
  Calls Tryz.prog 102 #[.int .u8 c] w fun e w'=>e=.returned (.bool (isLet c))/\w'=w:=by
 by_cases h1:97<=c <;> by_cases h2:c<=122
 all_goals
  go_enter Tryz.func102,Tryz.ntmps102
  go_wp2
  go_ret
  exact ⟨ret_bool (by simp [isLet,h1,h2]),rfl⟩
set_option maxHeartbeats 400000 in
theorem schDig_any (c:Int) (w:World) :
  Calls Tryz.prog 103 #[.int .u8 c] w fun e w'=>e=.returned (.bool (isDig c))/\w'=w:=by
 by_cases h1:48<=c <;> by_cases h2:c<=57
 all_goals
  go_enter Tryz.func103,Tryz.ntmps103
  go_wp2
  go_ret
  exact ⟨ret_bool (by simp [isDig,h1,h2]),rfl⟩
set_option maxHeartbeats 1000000 in
theorem name_any (s:ByteArray) (w:World) :
  Calls Tryz.prog 60 #[.string s] w fun e w'=>e=.returned (.bool (nameOk s))/\w'=w:=by
 by_cases h1:s.size < 1
 ·have hn:=hide (name_no0 h1)
  have i1:(s.size:Int) < 1:=by omega
  go_enter Tryz.func60,Tryz.ntmps60
  go_wp2
  go_ret
  exact ⟨ret_bool (uh hn).symm,rfl⟩
 ·by_cases h2:32 < s.size
  ·have hn:=hide (name_no32 h2)
   have i1:¬ (s.size:Int) < 1:=by omega
   have i2:(32:Int) < (s.size:Int):=by omega
   go_enter Tryz.func60,Tryz.ntmps60
   go_wp2
   go_ret
   exact ⟨ret_bool (uh hn).symm,rfl⟩
  ·have i1:¬ (s.size:Int) < 1:=by omega
   have i2:¬ (32:Int) < (s.size:Int):=by omega
   have hb0:=byteI_lt (s:=s) (i:=0) (by omega)
   have hlt:=fun (c:Int) (W:World)=>schLet_any c W
   have hdg:=fun (c:Int) (W:World)=>schDig_any c W
   cases hl:isLet (byteI s 0) with
   | false =>
    have hn:=hide (name_noL hl)
    rw [hb0] at hl
    clear hb0
    have i0:(0:Int) < (s.size:Int):=by omega
    go_enter Tryz.func60,Tryz.ntmps60
    go_wp2_with (first | (go_at_call 102;refine (hlt _ _).mono ?_;rintro e w' ⟨rfl,rfl⟩))
    go_ret
    exact ⟨ret_bool (uh hn).symm,rfl⟩
   | true =>
    have Hl:=hide hl
    rw [hb0] at hl
    clear hb0
    have i0:(0:Int) < (s.size:Int):=by omega
    go_enter Tryz.func60,Tryz.ntmps60
    go_wp2_with (first | (go_at_call 102;refine (hlt _ _).mono ?_;rintro e w' ⟨rfl,rfl⟩))
    go_loop [20] (fun i=>∃ k:Nat,k<=s.size/\i=.int .i64 k/\∀ j,j < k->okB (byteI s j)=true) (fun i=>s.size - (intOf i).toNat)
    case atStart=>exact ⟨0,by omega,rfl,fun j hj=>by omega⟩
    case round =>
     obtain ⟨k,hk,rfl,hz⟩:=hrel
     have Hz:=hide hz
     clear hz
     by_cases hkl:k < s.size
     ·have ki0:(0:Int)<=(k:Int):=by omega
      have ki1:(k:Int) < (s.size:Int):=by omega
      have hbk:=byteI_lt hkl
      cases hok:okB (byteI s k) with
      | true =>
       have Hok:=hide hok
       rw [hbk] at hok
       have hparts:(isLet (s[k].toNat:Int)=true) ∨ (isLet (s[k].toNat:Int)=false/\isDig (s[k].toNat:Int)=true) ∨ (isLet (s[k].toNat:Int)=false/\isDig (s[k].toNat:Int)=false/\((s[k].toNat:Int) != 95)=false):=by
        revert hok;unfold okB
        cases isLet (s[k].toNat:Int) <;> cases isDig (s[k].toNat:Int) <;> simp
       clear hok hbk
       rcases hparts with p1 | ⟨p1,p2⟩ | ⟨p1,p2,p3⟩
       all_goals
        go_wp2_with (first | (go_at_call 102;refine (hlt _ _).mono ?_;rintro e w' ⟨rfl,rfl⟩) | (go_at_call 103;refine (hdg _ _).mono ?_;rintro e w' ⟨rfl,rfl⟩))
        go_round
        case rel=>exact ⟨k + 1,by omega,by go_num,fun j hj=>by
         by_cases e:j=k
         ·rw [e];exact uh Hok
         ·exact uh Hz j (by omega)⟩
        case measure=>simp [intOf];omega
      | false =>
       have hn:=hide (name_noB hkl hok)
       rw [hbk] at hok
       have hparts:isLet (s[k].toNat:Int)=false/\isDig (s[k].toNat:Int)=false/\((s[k].toNat:Int) != 95)=true:=by
        revert hok;unfold okB
        cases isLet (s[k].toNat:Int) <;> cases isDig (s[k].toNat:Int) <;> simp
       obtain ⟨p1,p2,p3⟩:=hparts
       clear hok hbk
       go_wp2_with (first | (go_at_call 102;refine (hlt _ _).mono ?_;rintro e w' ⟨rfl,rfl⟩) | (go_at_call 103;refine (hdg _ _).mono ?_;rintro e w' ⟨rfl,rfl⟩))
       go_ret
       exact ⟨ret_bool (uh hn).symm,rfl⟩
     ·obtain rfl:k=s.size:=by omega
      go_wp2
      go_ret
      exact ⟨ret_bool (name_yes (by omega) (by omega) (uh Hl) (uh Hz)).symm,rfl⟩
end Go.Proofs.YtencibjmiphinaaGreatDoor
namespace Go.Proofs.YtencibjmiphinaaGreatDoor
open Go.RowKit
inductive Nd where
 | mk (kind:Int) (attr:ByteArray) (ints:List Int) (words:List ByteArray) (lo hi op:Int) (kids:List Nd)
namespace Nd
def kids:Nd->List Nd
 | .mk _ _ _ _ _ _ _ ks=>ks
theorem ind {P:Nd->Prop} (h:∀ kind attr ints words lo hi op kids,(∀ x ∈ kids,P x)->P (.mk kind attr ints words lo hi op kids)) (t:Nd):P t :=
  Nd.rec (motive_1:=P) (motive_2:=fun l=>∀ x ∈ l,P x) (fun kind attr ints words lo hi op kids ih=>h kind attr ints words lo hi op kids ih)
    (fun x hx=>by simp at hx) (fun x xs hx hxs y hy=>by
      rcases List.mem_cons.1 hy with rfl | hy
      · exact hx
      · exact hxs y hy) t
end Nd
/-- The value of a node. -/
def Nv.val (v:Nv):Value:=.agg #[.int .i64 v.kind,.string v.attr,.slice v.qi v.ni v.ci,.slice v.qw v.nw v.cw,.int .i64 v.lo,.int .i64 v.hi,.int .i64 v.op,.slice v.qk v.nk v.ck]
/-- The tree of the node v lies in memory. -/
inductive NdIn (w:World):Nv->Nd->Prop
  | mk {kind:Int} {attr:ByteArray} {ints:List Int} {words:List ByteArray} {lo hi op:Int} {kids:List Nd} {qi:Option Addr} {ci:Nat} {qw:Option Addr} {cw:Nat} {qk:Option Addr} {ck:Nat} {vs:List Nv} :
      SlOf encI 1 w qi ci ints->SlOf encS 1 w qw cw words->SlOf encV 8 w qk ck vs->vs.length=kids.length->(∀ (j:Nat) (v:Nv) (x:Nd),vs[j]? = some v->kids[j]? = some x->NdIn w v x) ->
      NdIn w ⟨kind,attr,qi,ints.length,ci,qw,words.length,cw,lo,hi,op,qk,kids.length,ck⟩ (.mk kind attr ints words lo hi op kids)
theorem NdIn.keep {w w':World} {v:Nv} {t:Nd} (h:NdIn w v t) (hb:Below w.heap.size w w'):NdIn w' v t:=by
 induction h with
 | mk hi hw hk hl hr ih=>exact .mk (hi.below hb) (hw.below hb) (hk.below hb) hl fun j v x hj hx=>ih j v x hj hx
/-- A list of nodes in memory. -/
def NdsOf (w:World) (q:Option Addr) (c:Nat) (l:List Nd):Prop:=∃ vs,SlOf encV 8 w q c vs/\vs.length=l.length/\∀ (j:Nat) (v:Nv) (x:Nd),vs[j]? = some v->l[j]? = some x->NdIn w v x
theorem NdsOf.below {w w':World} {q:Option Addr} {c:Nat} {l:List Nd} (h:NdsOf w q c l) (hb:Below w.heap.size w w'):NdsOf w' q c l:=by
 obtain ⟨vs,h1,h2,h3⟩:=h
 exact ⟨vs,h1.below hb,h2,fun j v x hj hx=>(h3 j v x hj hx).keep hb⟩
theorem NdIn.parts {w:World} {v:Nv} {kind:Int} {attr:ByteArray} {ints:List Int} {words:List ByteArray} {lo hi op:Int} {kids:List Nd} (h:NdIn w v (.mk kind attr ints words lo hi op kids)) :
  ∃ qi ci qw cw qk ck,v=⟨kind,attr,qi,ints.length,ci,qw,words.length,cw,lo,hi,op,qk,kids.length,ck⟩/\SlOf encI 1 w qi ci ints/\SlOf encS 1 w qw cw words/\NdsOf w qk ck kids:=by
 cases h with
 | mk hi hw hk hl hr=>exact ⟨_,_,_,_,_,_,rfl,hi,hw,_,hk,hl,hr⟩
/-- The j-th kid: its cells, and its tree. -/
theorem NdsOf.at {w:World} {q:Option Addr} {c:Nat} {l:List Nd} {j:Nat} {x:Nd} (h:NdsOf w q c l) (hj:l[j]? = some x) :
    ∃ b off v,q=some ⟨b,off,none⟩/\b < w.heap.size/\NdIn w v x/\w.cell? ⟨b,off + j * 8,none⟩=some (.int .i64 v.kind)/\w.cell? ⟨b,off + j * 8 + 1,none⟩=some (.string v.attr)/\w.cell? ⟨b,off + j * 8 + 2,none⟩=some (.slice v.qi v.ni v.ci)/\w.cell? ⟨b,off + j * 8 + 3,none⟩=some (.slice v.qw v.nw v.cw)/\w.cell? ⟨b,off + j * 8 + 4,none⟩=some (.int .i64 v.lo)/\w.cell? ⟨b,off + j * 8 + 5,none⟩=some (.int .i64 v.hi)/\w.cell? ⟨b,off + j * 8 + 6,none⟩=some (.int .i64 v.op)/\w.cell? ⟨b,off + j * 8 + 7,none⟩=some (.slice v.qk v.nk v.ck):=by
  obtain ⟨vs,h1,h2,h3⟩:=h
  have hl:j < l.length:=(List.getElem?_eq_some_iff.1 hj).1
  obtain ⟨v,hv,_⟩:=get_at (l:=vs) (k:=j) (by omega)
  obtain ⟨b,off,hq,hb,hc⟩:=h1.2.2.2.at hv
  exact ⟨b,off,v,hq,hb,h3 j v x hv hj,cells8 hc⟩
/-- The same, seen from a later world. -/
theorem NdsOf.on {w wr:World} {q:Option Addr} {c:Nat} {l:List Nd} {j:Nat} {x:Nd} (h:NdsOf w q c l) (hj:l[j]? = some x) (hbel:Below w.heap.size w wr) :
    ∃ b off v,q=some ⟨b,off,none⟩/\NdIn wr v x/\wr.cell? ⟨b,off + j * 8,none⟩=some (.int .i64 v.kind)/\wr.cell? ⟨b,off + j * 8 + 1,none⟩=some (.string v.attr)/\wr.cell? ⟨b,off + j * 8 + 2,none⟩=some (.slice v.qi v.ni v.ci)/\wr.cell? ⟨b,off + j * 8 + 3,none⟩=some (.slice v.qw v.nw v.cw)/\wr.cell? ⟨b,off + j * 8 + 4,none⟩=some (.int .i64 v.lo)/\wr.cell? ⟨b,off + j * 8 + 5,none⟩=some (.int .i64 v.hi)/\wr.cell? ⟨b,off + j * 8 + 6,none⟩=some (.int .i64 v.op)/\wr.cell? ⟨b,off + j * 8 + 7,none⟩=some (.slice v.qk v.nk v.ck):=by
  obtain ⟨b,off,v,hq,hb,hin,c⟩:=(h.below hbel).at hj
  exact ⟨b,off,v,hq,hin,c⟩
theorem intsAt {w:World} {q:Option Addr} {c:Nat} {l:List Int} {j:Nat} {x:Int} (h:SlOf encI 1 w q c l) (hj:l[j]? = some x):∃ b off,q=some ⟨b,off,none⟩/\b < w.heap.size/\w.cell? ⟨b,off + j,none⟩=some (.int .i64 x):=by
 obtain ⟨b,off,hq,hb,hc⟩:=h.2.2.2.at hj
 exact ⟨b,off,hq,hb,by have:=hc 0 (by omega);rw [Nat.mul_one] at this;exact this⟩
theorem wordsAt {w:World} {q:Option Addr} {c:Nat} {l:List ByteArray} {j:Nat} {x:ByteArray} (h:SlOf encS 1 w q c l) (hj:l[j]? = some x):∃ b off,q=some ⟨b,off,none⟩/\b < w.heap.size/\w.cell? ⟨b,off + j,none⟩=some (.string x):=by
 obtain ⟨b,off,hq,hb,hc⟩:=h.2.2.2.at hj
 exact ⟨b,off,hq,hb,by have:=hc 0 (by omega);rw [Nat.mul_one] at this;exact this⟩
mutual
/-- How many nodes. -/
def sizeN:Nd->Nat
  | .mk _ _ _ _ _ _ _ ks=>1 + sizeL ks
def sizeL:List Nd->Nat
 | []=>0
 | x :: xs=>sizeN x + sizeL xs
end
mutual
/-- How many levels. -/
def depN:Nd->Nat
  | .mk _ _ _ _ _ _ _ ks=>1 + depL ks
def depL:List Nd->Nat
 | []=>0
 | x :: xs=>max (depN x) (depL xs)
end
def wordsWt:List ByteArray->Nat
 | []=>0
 | x :: xs=>1 + x.size + wordsWt xs
mutual
/-- How much a tree holds. -/
def wtN:Nd->Nat
  | .mk _ attr ints words _ _ _ ks=>1 + attr.size + ints.length + wordsWt words + wtL ks
def wtL:List Nd->Nat
 | []=>0
 | x :: xs=>wtN x + wtL xs
end
theorem wtL_mem {x:Nd} {l:List Nd} (h:x ∈ l):wtN x<=wtL l:=by
 induction l with
 | nil=>simp at h
 | cons y l ih =>
  rcases List.mem_cons.1 h with rfl | h
  ·simp [wtL]
  ·have:=ih h;simp only [wtL];omega
theorem words_len (l:List ByteArray):l.length<=wordsWt l:=by
 induction l with
 | nil=>simp [wordsWt]
 | cons x l ih=>simp only [wordsWt,List.length_cons];omega
theorem depL_app (a b:List Nd):depL (a ++ b)=max (depL a) (depL b):=by
 induction a with
 | nil=>simp [depL]
 | cons x a ih=>simp only [List.cons_append,depL,ih];omega
theorem sizeL_mem {x:Nd} {l:List Nd} (h:x ∈ l):sizeN x<=sizeL l:=by
 induction l with
 | nil=>simp at h
 | cons y l ih =>
  rcases List.mem_cons.1 h with rfl | h
  ·simp [sizeL]
  ·have:=ih h;simp only [sizeL];omega
theorem dep_le:∀ t,depN t<=sizeN t:=by
 apply Nd.ind
 intro kind attr ints words lo hi op kids ih
 have:depL kids<=sizeL kids:=by
  clear kind attr ints words lo hi op
  induction kids with
  | nil=>simp [depL]
  | cons x xs ih2 =>
   have h1:=ih x List.mem_cons_self
   have h2:=ih2 fun y hy=>ih y (List.mem_cons_of_mem _ hy)
   simp only [depL,sizeL];omega
 simp only [depN,sizeN];omega
theorem size_wt:∀ t,sizeN t<=wtN t:=by
 apply Nd.ind
 intro kind attr ints words lo hi op kids ih
 have:sizeL kids<=wtL kids:=by
  clear kind attr ints words lo hi op
  induction kids with
  | nil=>simp [sizeL]
  | cons x xs ih2 =>
   have h1:=ih x List.mem_cons_self
   have h2:=ih2 fun y hy=>ih y (List.mem_cons_of_mem _ hy)
   simp only [wtL,sizeL];omega
 simp only [wtN,sizeN];omega
theorem sizeL_wt (l:List Nd):sizeL l<=wtL l:=by
 induction l with
 | nil=>simp [sizeL]
 | cons x l ih=>have:=size_wt x;simp only [wtL,sizeL];omega
theorem take_snoc_of {α:Type} {l:List α} {k:Nat} {x:α} (h:l[k]? = some x):l.take (k + 1)=l.take k ++ [x]:=by
 rw [List.take_add_one,h];rfl
end Go.Proofs.YtencibjmiphinaaGreatDoor
namespace Go.Proofs.YtencibjmiphinaaGreatDoor
open Go.RowKit
abbrev Tk:=Int × Int × Int × Int × ByteArray
/-- What a rule of the language answers: the place where it gives up, or what it read and what is left. -/
inductive Rs (α:Type) where
  | bad (p:Int)
  | ok (x:α) (r:List Tk)
def plc (en:Int):List Tk->Int
 | []=>en
 | t :: _=>t.2.1
def isK (k:Int):List Tk->Bool
 | []=>false
 | t :: _=>t.1 == k
def skL (s:ByteArray):List Tk->Option (List Tk)
 | []=>none
 | t :: r=>if t.1=4/\t.2.2.2.2=s then some r else none
def ndL (en k:Int):List Tk->Rs Tk
 | []=>.bad en
 | t :: r=>if t.1=k then .ok t r else .bad t.2.1
def sgL (en:Int) (s:ByteArray) (l:List Tk):Rs Unit:=match skL s l with
 | none=>.bad (plc en l)
 | some r=>.ok () r
theorem skL_len {s:ByteArray} {l r:List Tk} (h:skL s l=some r):r.length + 1=l.length:=by
 cases l with
 | nil=>simp [skL] at h
 | cons t l =>
  simp only [skL] at h
  split at h
  ·cases h;rfl
  ·cases h
theorem ndL_len {en k:Int} {l r:List Tk} {t:Tk} (h:ndL en k l=.ok t r):r.length + 1=l.length:=by
 cases l with
 | nil=>simp [ndL] at h
 | cons t l =>
  simp only [ndL] at h
  split at h
  ·cases h;rfl
  ·cases h
theorem sgL_len {en:Int} {s:ByteArray} {l r:List Tk} {t:Unit} (h:sgL en s l=.ok t r):r.length + 1=l.length:=by
 unfold sgL at h
 split at h
 ·cases h
 ·cases h;exact skL_len ‹_›
/-- The members behind the first ones, acc. -/
def mbL (en k:Int):Nat->List Tk->List Tk->Rs (List Tk)
  | 0,_,_=>.bad 0
  | n + 1,acc,l=>match skL ⟨#[44]⟩ l with
    | none=>match sgL en ⟨#[125]⟩ l with
      | .bad p=>.bad p
      | .ok _ r=>.ok acc r
    | some r=>if acc.length=64 then .bad (plc en r) else match ndL en k r with
      | .bad p=>.bad p
      | .ok t r'=>mbL en k n (acc ++ [t]) r'
def msL (en k:Int) (l:List Tk):Rs (List Tk):=match ndL en k l with
 | .bad p=>.bad p
 | .ok t r=>mbL en k (r.length + 1) [t] r
def setL (en:Int) (attr:ByteArray) (l:List Tk):Rs Nd :=
 if isK 3 l then match msL en 3 l with
  | .bad p=>.bad p
  | .ok ts r=>.ok (.mk 2 attr [] (ts.map (·.2.2.2.2)) 0 0 1 []) r
 else match msL en 2 l with
  | .bad p=>.bad p
  | .ok ts r=>.ok (.mk 1 attr (ts.map (·.2.2.2.1)) [] 0 0 1 []) r
def bdL (en:Int) (attr:ByteArray) (l:List Tk):Rs Nd:=match ndL en 2 l with
 | .bad p=>.bad p
 | .ok t1 r1=>match sgL en ⟨#[44]⟩ r1 with
  | .bad p=>.bad p
  | .ok _ r2=>match ndL en 2 r2 with
   | .bad p=>.bad p
   | .ok t2 r3=>match sgL en ⟨#[93]⟩ r3 with
    | .bad p=>.bad p
    | .ok _ r4=>.ok (.mk 3 attr [] [] t1.2.2.2.1 t2.2.2.2.1 1 []) r4
def pxL (en:Int) (attr:ByteArray) (l:List Tk):Rs Nd:=match ndL en 3 l with
 | .bad p=>.bad p
 | .ok t r=>match sgL en ⟨#[42]⟩ r with
  | .bad p=>.bad p
  | .ok _ r2=>.ok (.mk 4 attr [] [t.2.2.2.2] 0 0 1 []) r2
def prL (en:Int) (l:List Tk):Rs Nd:=match ndL en 1 l with
 | .bad p=>.bad p
 | .ok t r=>match skL ⟨#[123]⟩ r with
  | some r1=>setL en t.2.2.2.2 r1
  | none=>match skL ⟨#[91]⟩ r with
   | some r1=>bdL en t.2.2.2.2 r1
   | none=>pxL en t.2.2.2.2 r
/-- Operands with a sign between, behind the first ones, ks. -/
def chG (s:ByteArray) (f:List Tk->Rs Nd):Nat->List Nd->List Tk->Rs (List Nd)
  | 0,_,_=>.bad 0
  | n + 1,ks,l=>match skL s l with
    | none=>.ok ks l
    | some r=>match f r with
      | .bad p=>.bad p
      | .ok x r'=>chG s f n (ks ++ [x]) r'
def jnT (op:Int) (ks:List Nd):Nd:=match ks with
 | [x]=>x
 | ks=>.mk 0 ⟨#[]⟩ [] [] 0 0 op ks
def chL (op:Int) (s:ByteArray) (f:List Tk->Rs Nd) (l:List Tk):Rs Nd:=match f l with
 | .bad p=>.bad p
 | .ok x r=>match chG s f (r.length + 1) [x] r with
  | .bad p=>.bad p
  | .ok ks r'=>.ok (jnT op ks) r'
def onL (en:Int):Nat->List Tk->Rs Nd
 | 0,_=>.bad 0
 | n + 1,l=>match skL ⟨#[33]⟩ l with
  | some r=>match onL en n r with
   | .bad p=>.bad p
   | .ok x r'=>.ok (.mk 0 ⟨#[]⟩ [] [] 0 0 2 [x]) r'
  | none=>match skL ⟨#[40]⟩ l with
   | some r=>match chL 4 ⟨#[124]⟩ (chL 3 ⟨#[38]⟩ (onL en n)) r with
    | .bad p=>.bad p
    | .ok x r'=>match sgL en ⟨#[41]⟩ r' with
     | .bad p=>.bad p
     | .ok _ r''=>.ok x r''
   | none=>prL en l
def anL (en:Int) (n:Nat) (l:List Tk):Rs Nd:=chL 3 ⟨#[38]⟩ (onL en n) l
def orL (en:Int) (n:Nat) (l:List Tk):Rs Nd:=chL 4 ⟨#[124]⟩ (anL en n) l
end Go.Proofs.YtencibjmiphinaaGreatDoor

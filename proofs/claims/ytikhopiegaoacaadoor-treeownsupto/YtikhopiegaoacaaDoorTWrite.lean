/- What the functions that write lists of values into a builder do. -/
import Derived.Test.YtikhopiegaoacaaDoorTBuild
import Derived.Test.YtikhopiegaoacaaDoorTForm
namespace Go.Proofs.YtikhopiegaoacaaDoor
open Go.RowKit

theorem grown_none {w w':World} (h:Below w.heap.size w w'):w.grownBy w' none:=⟨h.os,h.tape,h.output,h.size,fun k hk _=>h.block k hk⟩
theorem Bld.below {B b:Nat} {l:List UInt8} {w w':World} (h:Bld B b l w) (hb:Below w.heap.size w w'):Bld B b l w':=by
 have aux:∀ p,Lib.BuilderAtF 55 5 B b p (Lib.byteCells l) w→Lib.BuilderAtF 55 5 B b p (Lib.byteCells l) w':=by
  rintro p ⟨hB,v,hbk,hown,hne⟩
  refine ⟨hB,v,(hb.block b (heap_lt hbk)).trans hbk,hown.kept (grown_none hb) ?_,hne⟩
  cases v.ownBlock <;> simp
 rcases h with h | h
 ·exact Or.inl (aux _ h)
 ·exact Or.inr (aux _ h)
theorem Kept.of {B b:Nat} {w w':World} (hb:Below w.heap.size w w') (hB:B≤w.heap.size):Kept B b w w' :=
 ⟨hb.mono hB,fun k _ hk _ _=>(hb.block k (heap_lt hk)).trans hk⟩
/-- Items, one behind the other, with a sign between. -/
def jl (sep:List UInt8):Nat→List (List UInt8)→List UInt8
 | _,[]=>[]
 | i,x :: xs=>(if 0 < i then sep else []) ++ x ++ jl sep (i + 1) xs
theorem jl_0 (sep x:List UInt8) (xs:List (List UInt8)) {i:Nat} (h:¬ 0 < i):jl sep i (x :: xs)=x ++ jl sep (i + 1) xs:=by show _ ++ _ ++ _=_;rw [if_neg h];rfl
theorem jl_1 (sep x:List UInt8) (xs:List (List UInt8)) {i:Nat} (h:0 < i):jl sep i (x :: xs)=sep ++ x ++ jl sep (i + 1) xs:=by show _ ++ _ ++ _=_;rw [if_pos h]
theorem drop_cons {α:Type} {l:List α} {j:Nat} {x:α} (h:l[j]? = some x):l.drop j=x :: l.drop (j + 1):=by
 obtain ⟨hj,hx⟩:=List.getElem?_eq_some_iff.1 h
 rw [← hx];exact List.drop_eq_getElem_cons hj
theorem map_drop_cons {α β:Type} {l:List α} {j:Nat} {x:α} (f:α→β) (h:l[j]? = some x):(l.map f).drop j=f x :: (l.map f).drop (j + 1):=drop_cons (by rw [List.getElem?_map,h];rfl)
theorem len_part {a b c:List UInt8} (h:a ++ b=c):a.length + b.length=c.length:=by rw [← h];simp
def itI (n:Int):List UInt8:=(textB 1 n ⟨#[]⟩).data.toList
def itW (s:ByteArray):List UInt8:=(textB 2 0 s).data.toList
theorem bytes_len (x:ByteArray):x.data.toList.length=x.size:=by simp
set_option maxHeartbeats 4000000 in
theorem writeI (w0:World) (hG0:G w0) (b:Nat) (acc:List UInt8) (s1 s2:ByteArray) (q:Option Addr) (c:Nat) (l:List Int) (hl:l.length≤1000000000) (w:World) (hw:Below w0.heap.size w0 w) (hst:∀ w',Kept w0.heap.size b w w'→SlOf encI 1 w' q c l) (hb:Bld w0.heap.size b acc w)
  (hlen:(acc ++ s1.data.toList ++ jl [44,32] 0 (l.map itI) ++ s2.data.toList).length≤140737488355328) :
  Calls Tryd.prog 62 #[.pointer (some ⟨b,0,none⟩),.string s1,.slice q l.length c,.func (.func 58) #[] #[],.string s2] w fun e w'=>e=.returned (.tuple #[])∧Bld w0.heap.size b (acc ++ s1.data.toList ++ jl [44,32] 0 (l.map itI) ++ s2.data.toList) w'∧Kept w0.heap.size b w w':=by
 simp only [List.length_append,bytes_len] at hlen
 have h1:=writeString_any w0.heap.size b acc s1 w hb (by omega) hw.size
 have HST:=hide hst
 have HW:=hide hw
 have a0:(l.length:Int)≤1000000000:=by omega
 clear hst hb hw
 go_enter Tryd.func62,Tryd.ntmps62
 go_wp2_with (go_at_call 61;refine h1.mono ?_;rintro e w1 ⟨rfl,bb,kk⟩;have BB:=hide bb;have KK:=hide kk;clear bb kk)
 clear h1
 go_loopw [19] (fun i wr=>∃ (k:Nat) (cur:List UInt8),k≤l.length∧i=.int .i64 k∧cur ++ jl [44,32] k ((l.map itI).drop k)=acc ++ s1.data.toList ++ jl [44,32] 0 (l.map itI)∧Bld w0.heap.size b cur wr∧Kept w0.heap.size b w wr) (fun i _=>l.length - (intOf i).toNat)
 case atStart=>exact ⟨0,acc ++ s1.data.toList,by omega,rfl,by simp,uh BB,uh KK⟩
 case round =>
  clear BB KK
  obtain ⟨k,cur,hk,rfl,heq,hbld,hkep⟩:=hrel
  obtain ⟨U,rfl⟩:∃ U,U=wr:=⟨_,rfl⟩
  have hlq:=len_part heq
  simp only [List.length_append,bytes_len] at hlq
  have HK:=hide hkep
  have HB:=hide hbld
  have hbel:Below w0.heap.size w0 U:=(uh HW).trans hkep.1
  have HBEL:=hide hbel
  by_cases hlt:k < l.length
  ·obtain ⟨x,hx,hxd⟩:=get_at hlt
   obtain ⟨bb,off,hq,hbb,hc⟩:=intsAt (uh HST U hkep) hx
   subst hq
   have ki0:(0:Int)≤(k:Int):=by omega
   have ki1:(k:Int) < (l.length:Int):=by omega
   have htx:=fun w hG=>text_any 1 x ⟨#[]⟩ w hG
   obtain ⟨tx,Htx⟩:∃ tx,textB 1 x ⟨#[]⟩=tx:=⟨_,rfl⟩
   rw [Htx] at htx
   have hit:itI x=tx.data.toList:=by unfold itI;rw [Htx]
   rw [map_drop_cons itI hx,hit] at heq hlq
   clear Htx hit hxd hx hkep hbld hbel
   by_cases h0:0 < k
   ·have e0:(0:Int) < (k:Int):=by omega
    rw [jl_1 _ _ _ h0] at heq hlq
    have HE:=hide heq
    simp only [List.length_append,bytes_len,List.length_cons,List.length_nil] at hlq
    clear heq
    have h2:=writeString_any w0.heap.size b cur ⟨#[44,32]⟩ U (uh HB) (by show cur.length + 2≤_;omega) (uh HBEL).size
    have h3:=fun w (hb:Bld w0.heap.size b (cur ++ [44,32]) w) hs=>writeString_any w0.heap.size b (cur ++ [44,32]) tx w hb (by simp;omega) hs
    go_wp2_with (first
     | (go_at_call 58;refine (number_any x _).mono ?_;rintro e w3 ⟨rfl,b3⟩;have B3:=hide b3;clear b3)
     | (go_at_call 66;refine (htx _ (by exact G_below hG0 ((uh HBEL).trans ((uh K2).1.trans ((uh B3).mono (Nat.le_trans (uh HBEL).size (uh K2).1.size)))))).mono ?_;rintro e w4 ⟨rfl,b4⟩;have B4:=hide (below_sub (uh B3) b4);clear b4)
     | (go_at_call 61;have hB:=uh B4;clear hB;refine (h3 _ (by exact (uh D2).below (uh B4)) (by exact Nat.le_trans (uh HBEL).size (Nat.le_trans (uh K2).1.size (uh B4).size))).mono ?_;rintro e w5 ⟨rfl,d5,k5⟩;have D5:=hide d5;have K5:=hide k5;clear d5 k5)
     | (go_at_call 61;refine h2.mono ?_;rintro e w2 ⟨rfl,d2,k2⟩;have D2:=hide d2;have K2:=hide k2;clear d2 k2))
    exact ⟨⟨k + 1,_,by omega,by go_num,by rw [← uh HE];simp,uh D5,(uh HK).trans ((uh K2).trans ((Kept.of (uh B4) (Nat.le_trans (uh HBEL).size (uh K2).1.size)).trans (uh K5)))⟩,by simp [intOf];omega⟩
   ·have e0:¬ (0:Int) < (k:Int):=by omega
    rw [jl_0 _ _ _ h0] at heq hlq
    have HE:=hide heq
    simp only [List.length_append,bytes_len] at hlq
    clear heq
    have h3:=fun w (hb:Bld w0.heap.size b cur w) hs=>writeString_any w0.heap.size b cur tx w hb (by omega) hs
    go_wp2_with (first
     | (go_at_call 58;refine (number_any x _).mono ?_;rintro e w3 ⟨rfl,b3⟩;have B3:=hide b3;clear b3)
     | (go_at_call 66;refine (htx _ (by exact G_below hG0 ((uh HBEL).trans ((uh B3).mono (uh HBEL).size)))).mono ?_;rintro e w4 ⟨rfl,b4⟩;have B4:=hide (below_sub (uh B3) b4);clear b4)
     | (go_at_call 61;refine (h3 _ (by exact (uh HB).below (uh B4)) (by exact Nat.le_trans (uh HBEL).size (uh B4).size)).mono ?_;rintro e w5 ⟨rfl,d5,k5⟩;have D5:=hide d5;have K5:=hide k5;clear d5 k5))
    exact ⟨⟨k + 1,_,by omega,by go_num,by rw [← uh HE];simp,uh D5,(uh HK).trans ((Kept.of (uh B4) (uh HBEL).size).trans (uh K5))⟩,by simp [intOf];omega⟩
  ·have ki1:¬ (k:Int) < (l.length:Int):=by omega
   rw [List.drop_of_length_le (by simp;omega)] at heq
   have he2:cur=acc ++ s1.data.toList ++ jl [44,32] 0 (l.map itI):=by simpa [jl] using heq
   subst he2
   have h4:=writeString_any w0.heap.size b _ s2 U (uh HB) (by simp only [List.length_append,bytes_len];omega) (uh HBEL).size
   clear heq hlq hkep hbld hbel
   go_wp2_with (go_at_call 61;refine h4.mono ?_;rintro e w2 ⟨rfl,d2,k2⟩;have D2:=hide d2;have K2:=hide k2;clear d2 k2)
   go_end0
   exact ⟨rfl,uh D2,(uh HK).trans (uh K2)⟩
set_option maxHeartbeats 4000000 in
theorem writeW (w0:World) (hG0:G w0) (b:Nat) (acc:List UInt8) (s1 s2:ByteArray) (q:Option Addr) (c:Nat) (l:List ByteArray) (hl:l.length≤1000000000) (w:World) (hw:Below w0.heap.size w0 w) (hst:∀ w',Kept w0.heap.size b w w'→SlOf encS 1 w' q c l) (hb:Bld w0.heap.size b acc w)
  (hlen:(acc ++ s1.data.toList ++ jl [44,32] 0 (l.map itW) ++ s2.data.toList).length≤140737488355328) :
  Calls Tryd.prog 63 #[.pointer (some ⟨b,0,none⟩),.string s1,.slice q l.length c,.func (.func 59) #[] #[],.string s2] w fun e w'=>e=.returned (.tuple #[])∧Bld w0.heap.size b (acc ++ s1.data.toList ++ jl [44,32] 0 (l.map itW) ++ s2.data.toList) w'∧Kept w0.heap.size b w w':=by
 simp only [List.length_append,bytes_len] at hlen
 have h1:=writeString_any w0.heap.size b acc s1 w hb (by omega) hw.size
 have HST:=hide hst
 have HW:=hide hw
 have a0:(l.length:Int)≤1000000000:=by omega
 clear hst hb hw
 go_enter Tryd.func63,Tryd.ntmps63
 go_wp2_with (go_at_call 61;refine h1.mono ?_;rintro e w1 ⟨rfl,bb,kk⟩;have BB:=hide bb;have KK:=hide kk;clear bb kk)
 clear h1
 go_loopw [19] (fun i wr=>∃ (k:Nat) (cur:List UInt8),k≤l.length∧i=.int .i64 k∧cur ++ jl [44,32] k ((l.map itW).drop k)=acc ++ s1.data.toList ++ jl [44,32] 0 (l.map itW)∧Bld w0.heap.size b cur wr∧Kept w0.heap.size b w wr) (fun i _=>l.length - (intOf i).toNat)
 case atStart=>exact ⟨0,acc ++ s1.data.toList,by omega,rfl,by simp,uh BB,uh KK⟩
 case round =>
  clear BB KK
  obtain ⟨k,cur,hk,rfl,heq,hbld,hkep⟩:=hrel
  obtain ⟨U,rfl⟩:∃ U,U=wr:=⟨_,rfl⟩
  have hlq:=len_part heq
  simp only [List.length_append,bytes_len] at hlq
  have HK:=hide hkep
  have HB:=hide hbld
  have hbel:Below w0.heap.size w0 U:=(uh HW).trans hkep.1
  have HBEL:=hide hbel
  by_cases hlt:k < l.length
  ·obtain ⟨x,hx,hxd⟩:=get_at hlt
   obtain ⟨bb,off,hq,hbb,hc⟩:=wordsAt (uh HST U hkep) hx
   subst hq
   have ki0:(0:Int)≤(k:Int):=by omega
   have ki1:(k:Int) < (l.length:Int):=by omega
   have htx:=fun w hG=>text_any 2 0 x w hG
   obtain ⟨tx,Htx⟩:∃ tx,textB 2 0 x=tx:=⟨_,rfl⟩
   rw [Htx] at htx
   have hit:itW x=tx.data.toList:=by unfold itW;rw [Htx]
   rw [map_drop_cons itW hx,hit] at heq hlq
   clear Htx hit hxd hx hkep hbld hbel
   by_cases h0:0 < k
   ·have e0:(0:Int) < (k:Int):=by omega
    rw [jl_1 _ _ _ h0] at heq hlq
    have HE:=hide heq
    simp only [List.length_append,bytes_len,List.length_cons,List.length_nil] at hlq
    clear heq
    have h2:=writeString_any w0.heap.size b cur ⟨#[44,32]⟩ U (uh HB) (by show cur.length + 2≤_;omega) (uh HBEL).size
    have h3:=fun w (hb:Bld w0.heap.size b (cur ++ [44,32]) w) hs=>writeString_any w0.heap.size b (cur ++ [44,32]) tx w hb (by simp;omega) hs
    go_wp2_with (first
     | (go_at_call 59;refine (word_any x _).mono ?_;rintro e w3 ⟨rfl,b3⟩;have B3:=hide b3;clear b3)
     | (go_at_call 66;refine (htx _ (by exact G_below hG0 ((uh HBEL).trans ((uh K2).1.trans ((uh B3).mono (Nat.le_trans (uh HBEL).size (uh K2).1.size)))))).mono ?_;rintro e w4 ⟨rfl,b4⟩;have B4:=hide (below_sub (uh B3) b4);clear b4)
     | (go_at_call 61;have hB:=uh B4;clear hB;refine (h3 _ (by exact (uh D2).below (uh B4)) (by exact Nat.le_trans (uh HBEL).size (Nat.le_trans (uh K2).1.size (uh B4).size))).mono ?_;rintro e w5 ⟨rfl,d5,k5⟩;have D5:=hide d5;have K5:=hide k5;clear d5 k5)
     | (go_at_call 61;refine h2.mono ?_;rintro e w2 ⟨rfl,d2,k2⟩;have D2:=hide d2;have K2:=hide k2;clear d2 k2))
    exact ⟨⟨k + 1,_,by omega,by go_num,by rw [← uh HE];simp,uh D5,(uh HK).trans ((uh K2).trans ((Kept.of (uh B4) (Nat.le_trans (uh HBEL).size (uh K2).1.size)).trans (uh K5)))⟩,by simp [intOf];omega⟩
   ·have e0:¬ (0:Int) < (k:Int):=by omega
    rw [jl_0 _ _ _ h0] at heq hlq
    have HE:=hide heq
    simp only [List.length_append,bytes_len] at hlq
    clear heq
    have h3:=fun w (hb:Bld w0.heap.size b cur w) hs=>writeString_any w0.heap.size b cur tx w hb (by omega) hs
    go_wp2_with (first
     | (go_at_call 59;refine (word_any x _).mono ?_;rintro e w3 ⟨rfl,b3⟩;have B3:=hide b3;clear b3)
     | (go_at_call 66;refine (htx _ (by exact G_below hG0 ((uh HBEL).trans ((uh B3).mono (uh HBEL).size)))).mono ?_;rintro e w4 ⟨rfl,b4⟩;have B4:=hide (below_sub (uh B3) b4);clear b4)
     | (go_at_call 61;refine (h3 _ (by exact (uh HB).below (uh B4)) (by exact Nat.le_trans (uh HBEL).size (uh B4).size)).mono ?_;rintro e w5 ⟨rfl,d5,k5⟩;have D5:=hide d5;have K5:=hide k5;clear d5 k5))
    exact ⟨⟨k + 1,_,by omega,by go_num,by rw [← uh HE];simp,uh D5,(uh HK).trans ((Kept.of (uh B4) (uh HBEL).size).trans (uh K5))⟩,by simp [intOf];omega⟩
  ·have ki1:¬ (k:Int) < (l.length:Int):=by omega
   rw [List.drop_of_length_le (by simp;omega)] at heq
   have he2:cur=acc ++ s1.data.toList ++ jl [44,32] 0 (l.map itW):=by simpa [jl] using heq
   subst he2
   have h4:=writeString_any w0.heap.size b _ s2 U (uh HB) (by simp only [List.length_append,bytes_len];omega) (uh HBEL).size
   clear heq hlq hkep hbld hbel
   go_wp2_with (go_at_call 61;refine h4.mono ?_;rintro e w2 ⟨rfl,d2,k2⟩;have D2:=hide d2;have K2:=hide k2;clear d2 k2)
   go_end0
   exact ⟨rfl,uh D2,(uh HK).trans (uh K2)⟩
/-- Does a kid stand in parentheses? -/
def brack (p k:Int):Bool:=decide (k=4) || (decide (k=3) && decide (p ≠ 4))
set_option maxHeartbeats 1000000 in
theorem bracketed_any (p k:Int) (w:World):Calls Tryd.prog 65 #[.int .i64 p,.int .i64 k] w fun e w'=>e=.returned (.bool (brack p k))∧w'=w:=by
 by_cases h1:k=4
 ·subst h1
  go_enter Tryd.func65,Tryd.ntmps65
  go_wp2
  go_ret
  exact ⟨ret_bool (by simp [brack]),rfl⟩
 ·have e1:(k == 4)=false:=by simpa using h1
  by_cases h2:k=3
  ·subst h2
   by_cases h3:p=4
   ·subst h3
    go_enter Tryd.func65,Tryd.ntmps65
    go_wp2
    go_ret
    exact ⟨ret_bool (by simp [brack]),rfl⟩
   ·have e3:(p != 4)=true:=by simpa using h3
    go_enter Tryd.func65,Tryd.ntmps65
    go_wp2
    go_ret
    exact ⟨ret_bool (by simp [brack,h3]),rfl⟩
  ·have e2:(k == 3)=false:=by simpa using h2
   go_enter Tryd.func65,Tryd.ntmps65
   go_wp2
   go_ret
   exact ⟨ret_bool (by simp [brack,h1,h2]),rfl⟩
end Go.Proofs.YtikhopiegaoacaaDoor

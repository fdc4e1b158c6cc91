/- How keys are compared. -/
import Derived.Test.YtimklglliffpcaaGreatQZab
import Derived.Test.YtimklglliffpcaaGreatQShelfC
namespace Go.Proofs.YtimklglliffpcaaGreat
open Go.RowKit Go.Sort Go.Shelf
theorem Cw (a:Int) (w:World):Calls Tryz.prog 123 #[.int .i64 a] w fun e w'=>e=.returned (.bool false)/\w'=w:=by
 have h:(a != a)=false:=by simp
 go_enter Tryz.func123,Tryz.ntmps123
 go_wp2
 go_ret
 exact ⟨rfl,rfl⟩
theorem Vd {a b:Int} (h:a < b):kc a b=-1:=by unfold kc;rw [if_pos h]
theorem Tr {a b:Int} (h:b < a):kc a b=1:=by unfold kc;rw [if_neg (by omega),if_pos h]
theorem Tn {a b:Int} (h1:¬ a < b) (h2:¬ b < a):kc a b=0:=by unfold kc;rw [if_neg h1,if_neg h2]
theorem C4 (a b:Int) (w:World):Calls Tryz.prog 69 #[.int .i64 a,.int .i64 b] w fun e w'=>e=.returned (.int .i64 (kc a b))/\w'=w:=by
 by_cases h1:a < b
 ·go_enter Tryz.func69,Tryz.ntmps69
  go_wp2_with (go_at_call 123;refine (Cw _ _).mono ?_;rintro e w1 ⟨rfl,rfl⟩)
  go_ret
  exact ⟨jg (Vd h1).symm,rfl⟩
 ·by_cases h2:b < a
  ·go_enter Tryz.func69,Tryz.ntmps69
   go_wp2_with (go_at_call 123;refine (Cw _ _).mono ?_;rintro e w1 ⟨rfl,rfl⟩)
   go_ret
   exact ⟨jg (Tr h2).symm,rfl⟩
  ·go_enter Tryz.func69,Tryz.ntmps69
   go_wp2_with (go_at_call 123;refine (Cw _ _).mono ?_;rintro e w1 ⟨rfl,rfl⟩)
   go_ret
   exact ⟨jg (Tn (by omega) (by omega)).symm,rfl⟩
theorem D5:∀ a b:List UInt8,Lib.compareBytes a b=ri a b
 | [],[]=>by simp [Lib.compareBytes,ri,Op.bytesLess]
 | [],_ :: _=>by simp [Lib.compareBytes,ri,Op.bytesLess]
 | _ :: _,[]=>by simp [Lib.compareBytes,ri,Op.bytesLess]
 | x :: a,y :: b=>by
  have ih:=D5 a b
  unfold Lib.compareBytes
  by_cases h1:x < y
  ·rw [if_pos h1,qy (by simp [Op.bytesLess,h1])]
  ·rw [if_neg h1]
   by_cases h2:y < x
   ·have hne:x ≠ y:=fun e=>by subst e;exact h1 h2
    rw [if_pos h2]
    unfold ri
    rw [if_neg (by simp [Op.bytesLess,h1,hne]),if_neg (by simp [hne])]
   ·rw [if_neg h2,ih]
    obtain rfl:x=y:=UInt8.toNat_inj.1 (by rw [UInt8.lt_iff_toNat_lt] at h1 h2;omega)
    unfold ri
    simp [Op.bytesLess,h1]
theorem Xe (a b:ByteArray) (w:World):Calls Tryz.prog 122 #[.string a,.string b] w fun e w'=>e=.returned (.int .i64 (ri a.data.toList b.data.toList))/\w'=w:=by
 have h:=Any.strings_Compare Tryz.cmpStr a b w
 change Calls Tryz.prog 122 _ _ _ at h
 rw [D5] at h
 exact h
/-- The first that is not nought. -/
def Bn:List Int->Int
 | []=>0
 | x :: l=>if x=0 then Bn l else x
theorem Ql {l:List Int} {k:Nat} {x:Int} (hx:l[k]? = some x):Bn (l.drop k)=if x=0 then Bn (l.drop (k + 1)) else x:=by
 obtain ⟨hk,rfl⟩:=List.getElem?_eq_some_iff.1 hx
 rw [List.drop_eq_getElem_cons hk];rfl
set_option maxHeartbeats 1000000 in
set_option maxRecDepth 100000 in
theorem orI (q:Option Addr) (c:Nat) (l:List Int) (w:World) (hs:SlOf jq 1 w q c l) (hl:l.length<=1000000):Calls Tryz.prog 67 #[.slice q l.length c] w fun e w'=>e=.returned (.int .i64 (Bn l))/\w'=w:=by
 have l1:(l.length:Int)<=1000000:=by omega
 have HS:=d9 hs
 clear hs
 go_enter Tryz.func67,Tryz.ntmps67
 go_wp2
 go_loopw [8] (fun i wr=>∃ k:Nat,k<=l.length/\i=.int .i64 k/\Bn (l.drop k)=Bn l/\wr=w) (fun i _=>l.length - (intOf i).toNat)
 case atStart=>exact ⟨0,by omega,rfl,rfl,rfl⟩
 case round =>
  obtain ⟨k,hk,rfl,hf,rfl⟩:=hrel
  have HF:=d9 hf
  by_cases hlt:k < l.length
  ·obtain ⟨x,hx,hxd⟩:=je hlt
   obtain ⟨b,off,hq,hbs,hc⟩:=(uh HS).2.2.2.at hx
   have g0:=hc 0 (by omega)
   rw [Nat.mul_one,Nat.add_zero] at g0
   subst hq
   have ki0:(0:Int)<=(k:Int):=by omega
   have ki1:(k:Int) < (l.length:Int):=by omega
   have HD:=d9 (Ql hx)
   have g0':wr.cell? ⟨b,off + k,none⟩=some (.int .i64 x):=g0
   clear hx hxd hc hf g0
   by_cases h0:x=0
   ·subst h0
    go_wp2
    go_roundw
    case rel=>exact ⟨k + 1,by omega,by go_num,by rw [<- uh HF,uh HD,if_pos rfl],by first | rfl | trivial⟩
    case measure=>simp [intOf];omega
   ·have h1:(x != 0)=true:=by simpa using h0
    go_wp2
    go_ret
    exact ⟨jg (by rw [<- uh HF,uh HD,if_neg h0]),rfl⟩
  ·have ki1:¬ (k:Int) < (l.length:Int):=by omega
   have HZ:=d9 (show Bn l=0 by rw [<- hf,List.drop_eq_nil_of_le (by omega)];rfl)
   clear hf
   go_wp2
   go_ret
   exact ⟨jg (uh HZ).symm,rfl⟩
theorem zh (l:List Int):(flatK jq 1 l.toArray).toList=l.map (fun x=>Value.int .i64 x):=by
 apply List.ext_getElem?
 intro j
 by_cases hj:j < l.length
 ·obtain ⟨x,hx,_⟩:=je hj
  have:=lj (enc:=jq) (k:=1) hx 0 (by omega)
  rw [Nat.mul_one,Nat.add_zero] at this
  rw [this,List.getElem?_map,hx];rfl
 ·rw [List.getElem?_eq_none (by simp;omega),List.getElem?_eq_none (by simp;omega)]
theorem Xv {W:World} {M:Nat} {cs:Array Value} (h:W.heap[M]? = some (.cells cs 3 (0,0))) (j:Nat):W.cell? ⟨M,j,none⟩=cs[j]?:=by
 unfold World.cell?;simp [h]
end Go.Proofs.YtimklglliffpcaaGreat

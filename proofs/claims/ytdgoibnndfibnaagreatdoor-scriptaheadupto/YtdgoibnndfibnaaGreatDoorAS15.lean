/- Which kind has a word. -/
import Derived.Test.YtdgoibnndfibnaaGreatDoorAZaf
namespace Go.Proofs.YtdgoibnndfibnaaGreatDoor
open Go.RowKit Go.Sort
set_option maxHeartbeats 4000000 in
set_option maxRecDepth 100000 in
theorem kindOp_any (s:ByteArray) (w:World) :
  Calls Tryz.prog 101 #[.string s,.func (.func 65) #[] #[],.int .i64 7] w fun e w'=>e=.returned (.int .i64 (kindOfW opW 7 (Lb s)))/\w'=w:=by
 obtain ⟨R,hR⟩:∃ R,kindOfW opW 7 (Lb s)=R:=⟨_,rfl⟩
 rw [hR]
 have HR:=hide hR
 have HA:=hide opWord_any
 clear hR
 go_enter Tryz.func101,Tryz.ntmps101
 go_wp2
 go_loopw [7] (fun i wr=>wr=w/\∃ k:Nat,k<=7/\i=.int .i64 ((k:Int) + 1)/\Hid (∀ j:Nat,j < k->opW ((j:Int) + 1) ≠ Lb s)) (fun i _=>7 + 1 - (intOf i).toNat)
 case atStart=>exact ⟨rfl,0,by omega,rfl,hide (fun j hj=>by omega)⟩
 case round =>
  obtain ⟨rfl,k,hk,rfl,HN⟩:=hrel
  by_cases hlt:k < 7
  ·have ki:((k:Int) + 1)<=7:=by omega
   have ki2:decide (((k:Int) + 1)<=7)=true:=decide_eq_true ki
   have hA:=uh HA ((k:Int) + 1)
   obtain ⟨A,hAA⟩:∃ A:ByteArray,(⟨(opW ((k:Int) + 1)).toArray⟩:ByteArray)=A:=⟨_,rfl⟩
   rw [hAA] at hA
   have HAA:=hide hAA
   by_cases he:opW ((k:Int) + 1)=Lb s
   ·have e1:A=s:=lb_inj (by rw [<- hAA,lb_mk];exact he)
    have hres:R=(k:Int) + 1:=by
     rw [<- uh HR]
     unfold kindOfW
     have hf:(List.range 7).find? (fun (k:Nat)=>decide (opW ((k:Int) + 1)=Lb s))=some k:=by
      rw [List.find?_range_eq_some]
      exact ⟨decide_eq_true he,List.mem_range.2 hlt,fun j hj=>by simp;exact uh HN j hj⟩
     rw [hf];rfl
    have HRS:=hide hres
    subst e1
    have e2:(A.toList == A.toList)=true:=by simp
    clear he hres hAA
    go_wp2_with (go_at_call 65;refine (hA _).mono ?_;rintro e w1 ⟨rfl,h1⟩;obtain rfl:=h1.symm)
    go_ret
    exact ⟨by rw [uh HRS];rfl,rfl⟩
   ·have e1:A ≠ s:=fun e=>he (by rw [<- e,<- hAA,lb_mk])
    have e2:(A.toList == s.toList)=false:=by rw [beq_eq_false_iff_ne];exact fun h=>e1 (ba_ext h)
    have HN2:=hide (show ∀ j:Nat,j < k + 1->opW ((j:Int) + 1) ≠ Lb s from fun j hj=>by
     by_cases h:j=k
     ·subst h;exact he
     ·exact uh HN j (by omega))
    clear he hAA HN e1
    go_wp2_with (go_at_call 65;refine (hA _).mono ?_;rintro e w1 ⟨rfl,h1⟩;obtain rfl:=h1.symm)
    exact ⟨⟨(by first | trivial | rfl),k + 1,by omega,by go_num,HN2⟩,by simp [intOf];omega⟩
  ·have hk2:k=7:=by omega
   have ki:¬ ((k:Int) + 1)<=7:=by omega
   have ki2:decide (((k:Int) + 1)<=7)=false:=decide_eq_false ki
   have hres:R=0:=by
    rw [<- uh HR]
    unfold kindOfW
    have hf:(List.range 7).find? (fun (k:Nat)=>decide (opW ((k:Int) + 1)=Lb s))=none:=by
     rw [List.find?_eq_none]
     intro j hj
     simp only [decide_eq_true_eq]
     exact uh HN j (by rw [hk2];exact List.mem_range.1 hj)
    rw [hf];rfl
   have HRS:=hide hres
   clear hres HN hk2
   go_wp2
   go_ret
   exact ⟨by rw [uh HRS];rfl,rfl⟩
set_option maxHeartbeats 4000000 in
set_option maxRecDepth 100000 in
theorem kindCall_any (s:ByteArray) (w:World) :
  Calls Tryz.prog 101 #[.string s,.func (.func 92) #[] #[],.int .i64 4] w fun e w'=>e=.returned (.int .i64 (kindOfW callW 4 (Lb s)))/\w'=w:=by
 obtain ⟨R,hR⟩:∃ R,kindOfW callW 4 (Lb s)=R:=⟨_,rfl⟩
 rw [hR]
 have HR:=hide hR
 have HA:=hide callWord_any
 clear hR
 go_enter Tryz.func101,Tryz.ntmps101
 go_wp2
 go_loopw [7] (fun i wr=>wr=w/\∃ k:Nat,k<=4/\i=.int .i64 ((k:Int) + 1)/\Hid (∀ j:Nat,j < k->callW ((j:Int) + 1) ≠ Lb s)) (fun i _=>4 + 1 - (intOf i).toNat)
 case atStart=>exact ⟨rfl,0,by omega,rfl,hide (fun j hj=>by omega)⟩
 case round =>
  obtain ⟨rfl,k,hk,rfl,HN⟩:=hrel
  by_cases hlt:k < 4
  ·have ki:((k:Int) + 1)<=4:=by omega
   have ki2:decide (((k:Int) + 1)<=4)=true:=decide_eq_true ki
   have hA:=uh HA ((k:Int) + 1)
   obtain ⟨A,hAA⟩:∃ A:ByteArray,(⟨(callW ((k:Int) + 1)).toArray⟩:ByteArray)=A:=⟨_,rfl⟩
   rw [hAA] at hA
   have HAA:=hide hAA
   by_cases he:callW ((k:Int) + 1)=Lb s
   ·have e1:A=s:=lb_inj (by rw [<- hAA,lb_mk];exact he)
    have hres:R=(k:Int) + 1:=by
     rw [<- uh HR]
     unfold kindOfW
     have hf:(List.range 4).find? (fun (k:Nat)=>decide (callW ((k:Int) + 1)=Lb s))=some k:=by
      rw [List.find?_range_eq_some]
      exact ⟨decide_eq_true he,List.mem_range.2 hlt,fun j hj=>by simp;exact uh HN j hj⟩
     rw [hf];rfl
    have HRS:=hide hres
    subst e1
    have e2:(A.toList == A.toList)=true:=by simp
    clear he hres hAA
    go_wp2_with (go_at_call 92;refine (hA _).mono ?_;rintro e w1 ⟨rfl,h1⟩;obtain rfl:=h1.symm)
    go_ret
    exact ⟨by rw [uh HRS];rfl,rfl⟩
   ·have e1:A ≠ s:=fun e=>he (by rw [<- e,<- hAA,lb_mk])
    have e2:(A.toList == s.toList)=false:=by rw [beq_eq_false_iff_ne];exact fun h=>e1 (ba_ext h)
    have HN2:=hide (show ∀ j:Nat,j < k + 1->callW ((j:Int) + 1) ≠ Lb s from fun j hj=>by
     by_cases h:j=k
     ·subst h;exact he
     ·exact uh HN j (by omega))
    clear he hAA HN e1
    go_wp2_with (go_at_call 92;refine (hA _).mono ?_;rintro e w1 ⟨rfl,h1⟩;obtain rfl:=h1.symm)
    exact ⟨⟨(by first | trivial | rfl),k + 1,by omega,by go_num,HN2⟩,by simp [intOf];omega⟩
  ·have hk2:k=4:=by omega
   have ki:¬ ((k:Int) + 1)<=4:=by omega
   have ki2:decide (((k:Int) + 1)<=4)=false:=decide_eq_false ki
   have hres:R=0:=by
    rw [<- uh HR]
    unfold kindOfW
    have hf:(List.range 4).find? (fun (k:Nat)=>decide (callW ((k:Int) + 1)=Lb s))=none:=by
     rw [List.find?_eq_none]
     intro j hj
     simp only [decide_eq_true_eq]
     exact uh HN j (by rw [hk2];exact List.mem_range.1 hj)
    rw [hf];rfl
   have HRS:=hide hres
   clear hres HN hk2
   go_wp2
   go_ret
   exact ⟨by rw [uh HRS];rfl,rfl⟩
set_option maxHeartbeats 4000000 in
set_option maxRecDepth 100000 in
theorem kindKind_any (s:ByteArray) (w:World) :
  Calls Tryz.prog 101 #[.string s,.func (.func 56) #[] #[],.int .i64 2] w fun e w'=>e=.returned (.int .i64 (kindOfW kindW 2 (Lb s)))/\w'=w:=by
 obtain ⟨R,hR⟩:∃ R,kindOfW kindW 2 (Lb s)=R:=⟨_,rfl⟩
 rw [hR]
 have HR:=hide hR
 have HA:=hide kindWord_any
 clear hR
 go_enter Tryz.func101,Tryz.ntmps101
 go_wp2
 go_loopw [7] (fun i wr=>wr=w/\∃ k:Nat,k<=2/\i=.int .i64 ((k:Int) + 1)/\Hid (∀ j:Nat,j < k->kindW ((j:Int) + 1) ≠ Lb s)) (fun i _=>2 + 1 - (intOf i).toNat)
 case atStart=>exact ⟨rfl,0,by omega,rfl,hide (fun j hj=>by omega)⟩
 case round =>
  obtain ⟨rfl,k,hk,rfl,HN⟩:=hrel
  by_cases hlt:k < 2
  ·have ki:((k:Int) + 1)<=2:=by omega
   have ki2:decide (((k:Int) + 1)<=2)=true:=decide_eq_true ki
   have hA:=uh HA ((k:Int) + 1)
   obtain ⟨A,hAA⟩:∃ A:ByteArray,(⟨(kindW ((k:Int) + 1)).toArray⟩:ByteArray)=A:=⟨_,rfl⟩
   rw [hAA] at hA
   have HAA:=hide hAA
   by_cases he:kindW ((k:Int) + 1)=Lb s
   ·have e1:A=s:=lb_inj (by rw [<- hAA,lb_mk];exact he)
    have hres:R=(k:Int) + 1:=by
     rw [<- uh HR]
     unfold kindOfW
     have hf:(List.range 2).find? (fun (k:Nat)=>decide (kindW ((k:Int) + 1)=Lb s))=some k:=by
      rw [List.find?_range_eq_some]
      exact ⟨decide_eq_true he,List.mem_range.2 hlt,fun j hj=>by simp;exact uh HN j hj⟩
     rw [hf];rfl
    have HRS:=hide hres
    subst e1
    have e2:(A.toList == A.toList)=true:=by simp
    clear he hres hAA
    go_wp2_with (go_at_call 56;refine (hA _).mono ?_;rintro e w1 ⟨rfl,h1⟩;obtain rfl:=h1.symm)
    go_ret
    exact ⟨by rw [uh HRS];rfl,rfl⟩
   ·have e1:A ≠ s:=fun e=>he (by rw [<- e,<- hAA,lb_mk])
    have e2:(A.toList == s.toList)=false:=by rw [beq_eq_false_iff_ne];exact fun h=>e1 (ba_ext h)
    have HN2:=hide (show ∀ j:Nat,j < k + 1->kindW ((j:Int) + 1) ≠ Lb s from fun j hj=>by
     by_cases h:j=k
     ·subst h;exact he
     ·exact uh HN j (by omega))
    clear he hAA HN e1
    go_wp2_with (go_at_call 56;refine (hA _).mono ?_;rintro e w1 ⟨rfl,h1⟩;obtain rfl:=h1.symm)
    exact ⟨⟨(by first | trivial | rfl),k + 1,by omega,by go_num,HN2⟩,by simp [intOf];omega⟩
  ·have hk2:k=2:=by omega
   have ki:¬ ((k:Int) + 1)<=2:=by omega
   have ki2:decide (((k:Int) + 1)<=2)=false:=decide_eq_false ki
   have hres:R=0:=by
    rw [<- uh HR]
    unfold kindOfW
    have hf:(List.range 2).find? (fun (k:Nat)=>decide (kindW ((k:Int) + 1)=Lb s))=none:=by
     rw [List.find?_eq_none]
     intro j hj
     simp only [decide_eq_true_eq]
     exact uh HN j (by rw [hk2];exact List.mem_range.1 hj)
    rw [hf];rfl
   have HRS:=hide hres
   clear hres HN hk2
   go_wp2
   go_ret
   exact ⟨by rw [uh HRS];rfl,rfl⟩
end Go.Proofs.YtdgoibnndfibnaaGreatDoor

/- Which kind has a word. -/
import Derived.Test.YtdgoibnndfibnaaGreatDoorRZal
namespace Go.Proofs.YtdgoibnndfibnaaGreatDoor
open Go.RowKit Go.Sort
set_option maxHeartbeats 4000000 in
set_option maxRecDepth 100000 in
theorem kindOp_any (s:ByteArray) (w:World) :
  Calls Tryz.prog 101 #[.string s,.func (.func 65) #[] #[],.int .i64 7] w fun e w'=>e=.returned (.int .i64 (kindOfW opW 7 (Lb s)))/\w'=w:=by
 obtain ⟨R,hR⟩:∃ R,kindOfW opW 7 (Lb s)=R:=⟨_,rfl⟩
 rw [hR]
 have HR:=hide hR
 have HA:=hide opWord_any
 clear hR
 go_enter Tryz.func101,Tryz.ntmps101
 go_wp2
 go_loopw [7] (fun i wr=>wr=w/\∃ k:Nat,k<=7/\i=.int .i64 ((k:Int) + 1)/\Hid (∀ j:Nat,j < k->opW ((j:Int) + 1) ≠ Lb s)) (fun i _=>7 + 1 - (intOf i).toNat)
 case atStart=>exact ⟨rfl,0,by omega,rfl,hide (fun j hj=>by omega)⟩
 case round =>
  obtain ⟨rfl,k,hk,rfl,HN⟩:=hrel
  by_cases hlt:k < 7
  ·have ki:((k:Int) + 1)<=7:=by omega
   have ki2:decide (((k:Int) + 1)<=7)=true:=decide_eq_true ki
   have hA:=uh HA ((k:Int) + 1)
   obtain ⟨A,hAA⟩:∃ A:ByteArray,(⟨(opW ((k:Int) + 1)).toArray⟩:ByteArray)=A:=⟨_,rfl⟩
   rw [hAA] at hA
   have HAA:=hide hAA
   by_cases he:opW ((k:Int) + 1)=Lb s
   ·have e1:A=s:=lb_inj (by rw [<- hAA,lb_mk];exact he)
    have hres:R=(k:Int) + 1:=by
     rw [<- uh HR]
     unfold kindOfW
     have hf:(List.range 7).find? (fun (k:Nat)=>decide (opW ((k:Int) + 1)=Lb s))=some k:=by
      rw [List.find?_range_eq_some]
      exact ⟨decide_eq_true he,List.mem_range.2 hlt,fun j hj=>by simp;exact uh HN j hj⟩
     rw [hf];rfl
    have HRS:=hide hres
    subst e1
    have e2:(A.toList == A.toList)=true:=by simp
    clear he hres hAA
    go_wp2_with (go_at_call 65;refine (hA _).mono ?_;rintro e w1 ⟨rfl,h1⟩;obtain rfl:=h1.symm)
    go_ret
    exact ⟨by rw [uh HRS];rfl,rfl⟩
   ·have e1:A ≠ s:=fun e=>he (by rw [<- e,<- hAA,lb_mk])
    have e2:(A.toList == s.toList)=false:=by rw [beq_eq_false_iff_ne];exact fun h=>e1 (ba_ext h)
    have HN2:=hide (show ∀ j:Nat,j < k + 1->opW ((j:Int) + 1) ≠ Lb s from fun j hj=>by
     by_cases h:j=k
     ·subst h;exact he
     ·exact uh HN j (by omega))
    clear he hAA HN e1
    go_wp2_with (go_at_call 65;refine (hA _).mono ?_;rintro e w1 ⟨rfl,h1⟩;obtain rfl:=h1.symm)
    exact ⟨⟨(by first | trivial | rfl),k + 1,by omega,by go_num,HN2⟩,by simp [intOf];omega⟩
  ·have hk2:k=7:=by omega
   have ki:¬ ((k:Int) + 1)<=7:=by omega
   have ki2:decide (((k:Int) + 1)<=7)=false:=decide_eq_false ki
   have hres:R=0:=by
    rw [<- uh HR]
    unfold kindOfW
    have hf:(List.range 7).find? (fun (k:Nat)=>decide (opW ((k:Int) + 1)=Lb s))=none:=by
     rw [List.find?_eq_none]
     intro j hj
     simp only [decide_eq_true_eq]
     exact uh HN j (by rw [hk2];exact List.mem_range.1 hj)
    rw [hf];rfl
   have HRS:=hide hres
   clear hres HN hk2
   go_wp2
   go_ret
   exact ⟨by rw [uh HRS];rfl,rfl⟩
set_option maxHeartbeats 4000000 in
set_option maxRecDepth 100000 in
theorem kindCall_any (s:ByteArray) (w:World) :
  Calls Tryz.prog 101 #[.string s,.func (.func 92) #[] #[],.int .i64 4] w fun e w'=>e=.returned (.int .i64 (kindOfW callW 4 (Lb s)))/\w'=w:=by
 obtain ⟨R,hR⟩:∃ R,kindOfW callW 4 (Lb s)=R:=⟨_,rfl⟩
 rw [hR]
 have HR:=hide hR
 have HA:=hide callWord_any
 clear hR
 go_enter Tryz.func101,Tryz.ntmps101
 go_wp2
 go_loopw [7] (fun i wr=>wr=w/\∃ k:Nat,k<=4/\i=.int .i64 ((k:Int) + 1)/\Hid (∀ j:Nat,j < k->callW ((j:Int) + 1) ≠ Lb s)) (fun i _=>4 + 1 - (intOf i).toNat)
 case atStart=>exact ⟨rfl,0,by omega,rfl,hide (fun j hj=>by omega)⟩
 case round =>
  obtain ⟨rfl,k,hk,rfl,HN⟩:=hrel
  by_cases hlt:k < 4
  ·have ki:((k:Int) + 1)<=4:=by omega
   have ki2:decide (((k:Int) + 1)<=4)=true:=decide_eq_true ki
   have hA:=uh HA ((k:Int) + 1)
   obtain ⟨A,hAA⟩:∃ A:ByteArray,(⟨(callW ((k:Int) + 1)).toArray⟩:ByteArray)=A:=⟨_,rfl⟩
   rw [hAA] at hA
   have HAA:=hide hAA
   by_cases he:callW ((k:Int) + 1)=Lb s
   ·have e1:A=s:=lb_inj (by rw [<- hAA,lb_mk];exact he)
    have hres:R=(k:Int) + 1:=by
     rw [<- uh HR]
     unfold kindOfW
     have hf:(List.range 4).find? (fun (k:Nat)=>decide (callW ((k:Int) + 1)=Lb s))=some k:=by
      rw [List.find?_range_eq_some]
      exact ⟨decide_eq_true he,List.mem_range.2 hlt,fun j hj=>by simp;exact uh HN j hj⟩
     rw [hf];rfl
    have HRS:=hide hres
    subst e1
    have e2:(A.toList == A.toList)=true:=by simp
    clear he hres hAA
    go_wp2_with (go_at_call 92;refine (hA _).mono ?_;rintro e w1 ⟨rfl,h1⟩;obtain rfl:=h1.symm)
    go_ret
    exact ⟨by rw [uh HRS];rfl,rfl⟩
   ·have e1:A ≠ s:=fun e=>he (by rw [<- e,<- hAA,lb_mk])
    have e2:(A.toList == s.toList)=false:=by rw [beq_eq_false_iff_ne];exact fun h=>e1 (ba_ext h)
    have HN2:=hide (show ∀ j:Nat,j < k + 1->callW ((j:Int) + 1) ≠ Lb s from fun j hj=>by
     by_cases h:j=k
     ·subst h;exact he
     ·exact uh HN j (by omega))
    clear he hAA HN e1
    go_wp2_with (go_at_call 92;refine (hA _).mono ?_;rintro e w1 ⟨rfl,h1⟩;obtain rfl:=h1.symm)
    exact ⟨⟨(by first | trivial | rfl),k + 1,by omega,by go_num,HN2⟩,by simp [intOf];omega⟩
  ·have hk2:k=4:=by omega
   have ki:¬ ((k:Int) + 1)<=4:=by omega
   have ki2:decide (((k:Int) + 1)<=4)=false:=decide_eq_false ki
   have hres:R=0:=by
    rw [<- uh HR]
    unfold kindOfW
    have hf:(List.range 4).find? (fun (k:Nat)=>decide (callW ((k:Int) + 1)=Lb s))=none:=by
     rw [List.find?_eq_none]
     intro j hj
     simp only [decide_eq_true_eq]
     exact uh HN j (by rw [hk2];exact List.mem_range.1 hj)
    rw [hf];rfl
   have HRS:=hide hres
   clear hres HN hk2
   go_wp2
   go_ret
   exact ⟨by rw [uh HRS];rfl,rfl⟩
set_option maxHeartbeats 4000000 in
set_option maxRecDepth 100000 in
theorem kindKind_any (s:ByteArray) (w:World) :
  Calls Tryz.prog 101 #[.string s,.func (.func 56) #[] #[],.int .i64 2] w fun e w'=>e=.returned (.int .i64 (kindOfW kindW 2 (Lb s)))/\w'=w:=by
 obtain ⟨R,hR⟩:∃ R,kindOfW kindW 2 (Lb s)=R:=⟨_,rfl⟩
 rw [hR]
 have HR:=hide hR
 have HA:=hide kindWord_any
 clear hR
 go_enter Tryz.func101,Tryz.ntmps101
 go_wp2
 go_loopw [7] (fun i wr=>wr=w/\∃ k:Nat,k<=2/\i=.int .i64 ((k:Int) + 1)/\Hid (∀ j:Nat,j < k->kindW ((j:Int) + 1) ≠ Lb s)) (fun i _=>2 + 1 - (intOf i).toNat)
 case atStart=>exact ⟨rfl,0,by omega,rfl,hide (fun j hj=>by omega)⟩
 case round =>
  obtain ⟨rfl,k,hk,rfl,HN⟩:=hrel
  by_cases hlt:k < 2
  ·have ki:((k:Int) + 1)<=2:=by omega
   have ki2:decide (((k:Int) + 1)<=2)=true:=decide_eq_true ki
   have hA:=uh HA ((k:Int) + 1)
   obtain ⟨A,hAA⟩:∃ A:ByteArray,(⟨(kindW ((k:Int) + 1)).toArray⟩:ByteArray)=A:=⟨_,rfl⟩
   rw [hAA] at hA
   have HAA:=hide hAA
   by_cases he:kindW ((k:Int) + 1)=Lb s
   ·have e1:A=s:=lb_inj (by rw [<- hAA,lb_mk];exact he)
    have hres:R=(k:Int) + 1:=by
     rw [<- uh HR]
     unfold kindOfW
     have hf:(List.range 2).find? (fun (k:Nat)=>decide (kindW ((k:Int) + 1)=Lb s))=some k:=by
      rw [List.find?_range_eq_some]
      exact ⟨decide_eq_true he,List.mem_range.2 hlt,fun j hj=>by simp;exact uh HN j hj⟩
     rw [hf];rfl
    have HRS:=hide hres
    subst e1
    have e2:(A.toList == A.toList)=true:=by simp
    clear he hres hAA
    go_wp2_with (go_at_call 56;refine (hA _).mono ?_;rintro e w1 ⟨rfl,h1⟩;obtain rfl:=h1.symm)
    go_ret
    exact ⟨by rw [uh HRS];rfl,rfl⟩
   ·have e1:A ≠ s:=fun e=>he (by rw [<- e,<- hAA,lb_mk])
    have e2:(A.toList == s.toList)=false:=by rw [beq_eq_false_iff_ne];exact fun h=>e1 (ba_ext h)
    have HN2:=hide (show ∀ j:Nat,j < k + 1->kindW ((j:Int) + 1) ≠ Lb s from fun j hj=>by
     by_cases h:j=k
     ·subst h;exact he
     ·exact uh HN j (by omega))
    clear he hAA HN e1
    go_wp2_with (go_at_call 56;refine (hA _).mono ?_;rintro e w1 ⟨rfl,h1⟩;obtain rfl:=h1.symm)
    exact ⟨⟨(by first | trivial | rfl),k + 1,by omega,by go_num,HN2⟩,by simp [intOf];omega⟩
  ·have hk2:k=2:=by omega
   have ki:¬ ((k:Int) + 1)<=2:=by omega
   have ki2:decide (((k:Int) + 1)<=2)=false:=decide_eq_false ki
   have hres:R=0:=by
    rw [<- uh HR]
    unfold kindOfW
    have hf:(List.range 2).find? (fun (k:Nat)=>decide (kindW ((k:Int) + 1)=Lb s))=none:=by
     rw [List.find?_eq_none]
     intro j hj
     simp only [decide_eq_true_eq]
     exact uh HN j (by rw [hk2];exact List.mem_range.1 hj)
    rw [hf];rfl
   have HRS:=hide hres
   clear hres HN hk2
   go_wp2
   go_ret
   exact ⟨by rw [uh HRS];rfl,rfl⟩
end Go.Proofs.YtdgoibnndfibnaaGreatDoor
namespace Go.Proofs.YtdgoibnndfibnaaGreatDoor
open Go.RowKit Go.Sort
theorem gr_of {w w':World} (h:Below w.heap.size w w') (r:Option Nat):w.grownBy w' r:=⟨h.os,h.tape,h.output,h.size,fun k hk _=>h.block k hk⟩
theorem gr_refl (w:World) (r:Option Nat):w.grownBy w r:=gr_of (Below.refl _ _) r
theorem gr_set {w w':World} {g:Nat} (h:w.grownBy w' (some g)) (o:Nat) (v:Value):w.grownBy (w'.setCell ⟨g,o,none⟩ v) (some g) :=
 ⟨h.os,h.tape,h.output,by simpa using h.size,fun k hk hne=>(Below.heap_setCell _ _ _ _ (by show k ≠ g;intro e;exact hne (by rw [e]))).trans (h.block k hk hne)⟩
theorem gr_below {B:Nat} {w w':World} {g:Nat} (h:w.grownBy w' (some g)) (hB:B<=g) (hw:B<=w.heap.size):Below B w w':=⟨h.os,h.tape,h.output,h.size,fun k hk=>h.block k (by omega) (fun e=>by injection e with e;omega)⟩
/-- The reader at g has L left. -/
def Rd (w:World) (g:Nat) (L:Bs):Prop:=w.heap[g]? = some (.cells #[.string ⟨L.toArray⟩] 117 (0,0))
theorem Rd.on {w w':World} {g:Nat} {L:Bs} (h:Rd w g L) (hb:Below w.heap.size w w'):Rd w' g L:=blk_onS h hb
theorem Rd.lt {w:World} {g:Nat} {L:Bs} (h:Rd w g L):g < w.heap.size:=heap_lt h
theorem Rd.cell {w:World} {g:Nat} {L:Bs} (h:Rd w g L):w.cell? ⟨g,0,none⟩=some (.string ⟨L.toArray⟩):=cell_of h
theorem Rd.set {w:World} {g:Nat} {L:Bs} (h:Rd w g L) (M:Bs):Rd (w.setCell ⟨g,0,none⟩ (.string ⟨M.toArray⟩)) g M:=by
 unfold Rd at h ⊢
 simp [World.setCell,Array.getElem?_modify,h]
/-- Behind a step of the reader. -/
structure RdS (w:World) (g:Nat) (L:Bs) (w':World):Prop where
 rd:Rd w' g L
 gr:w.grownBy w' (some g)
theorem take_str (s:ByteArray) (n:Nat):s.extract 0 n=⟨((Lb s).take n).toArray⟩:=str_eq (by rw [ByteArray.data_extract,Array.toList_extract,List.extract_eq_take_drop];simp [Lb])
theorem drop_str (s:ByteArray) (n:Nat):s.extract n s.size=⟨((Lb s).drop n).toArray⟩:=str_eq (extract_all s n)
set_option maxHeartbeats 4000000 in
set_option maxRecDepth 100000 in
theorem next_any (g:Nat) (L:Bs) (w:World) (h:Rd w g L) (hz:L.length<=140737488355328) :
  Calls Tryz.prog 70 #[.pointer (some ⟨g,0,none⟩)] w fun e w'=>e=.returned (.string ⟨(nextW L).1.toArray⟩)/\RdS w g (nextW L).2 w':=by
 obtain ⟨s,hs⟩:∃ s:ByteArray,(⟨L.toArray⟩:ByteArray)=s:=⟨_,rfl⟩
 have hL:Lb s=L:=by rw [<- hs,lb_mk]
 have hsz:s.size=L.length:=by rw [<- hs,ba_size]
 have c0:=h.cell
 rw [hs] at c0
 have hf:∀ o,w.frozen? ⟨g,o,none⟩=false:=fun o=>by
  unfold Rd at h
  unfold World.frozen?
  simp [h]
 have f0:=hf 0
 have hW:=wordEnd_any s
 have hle:=wEnd_le false L
 obtain ⟨n,hn⟩:∃ n,wEnd false (Lb s)=n:=⟨_,rfl⟩
 rw [hn] at hW
 rw [hL] at hn
 rw [hn,<- hsz] at hle
 have a0:(0:Int)<=(n:Int):=by omega
 have a1:(n:Int)<=(s.size:Int):=by omega
 have hT:=fun W=>trim_any (s.extract n s.size) W
 have hdl:Lb (s.extract n s.size)=L.drop n:=by rw [drop_str,lb_mk,hL]
 rw [hdl] at hT
 have hres1:s.extract 0 n=⟨(nextW L).1.toArray⟩:=by rw [take_str,hL];unfold nextW;rw [hn]
 have hres2:trimP (L.drop n)=(nextW L).2:=by unfold nextW;rw [hn]
 rw [hres2] at hT
 have H:=hide h
 have HR1:=hide hres1
 have hz2:s.size<=140737488355328:=by omega
 have hg:g < w.heap.size:=h.lt
 clear hres1 hres2 hdl hle hn hsz hL hs h hf
 go_enter Tryz.func70,Tryz.ntmps70
 go_wp2_with (first
  | (go_at_call 97;refine (hW _ hz2).mono ?_;rintro e w1 ⟨rfl,h1⟩;obtain rfl:=h1.symm)
  | (go_at_call 98;refine (hT _).mono ?_;rintro e w1 ⟨rfl,h1⟩;obtain rfl:=h1.symm))
 go_ret
 exact ⟨by rw [uh HR1];rfl,(uh H).set _,gr_set (gr_refl _ _) _ _⟩
theorem more_any (g:Nat) (L:Bs) (w:World) (h:Rd w g L) :
  Calls Tryz.prog 103 #[.pointer (some ⟨g,0,none⟩)] w fun e w'=>e=.returned (.bool (!L.isEmpty))/\w'=w:=by
 have c0:=h.cell
 have hg:g < w.heap.size:=h.lt
 obtain ⟨s,hs⟩:∃ s:ByteArray,(⟨L.toArray⟩:ByteArray)=s:=⟨_,rfl⟩
 have hL:Lb s=L:=by rw [<- hs,lb_mk]
 rw [hs] at c0
 cases L with
 | nil =>
  have e2:s.toList.isEmpty=true:=by rw [ByteArray.toList_eq];show (Lb s).isEmpty=true;rw [hL];rfl
  clear hs hL h
  go_enter Tryz.func103,Tryz.ntmps103
  go_wp2
  go_ret
  exact ⟨rfl,rfl⟩
 | cons c r =>
  have e2:s.toList.isEmpty=false:=by rw [ByteArray.toList_eq];show (Lb s).isEmpty=false;rw [hL];rfl
  clear hs hL h
  go_enter Tryz.func103,Tryz.ntmps103
  go_wp2
  go_ret
  exact ⟨rfl,rfl⟩
set_option maxHeartbeats 4000000 in
theorem number_any2 (w0:World) (hG:G w0) (g:Nat) (L:Bs) (w:World) (hw:Below w0.heap.size w0 w) (hg0:w0.heap.size<=g) (h:Rd w g L) (hz:L.length<=140737488355328) :
  Calls Tryz.prog 99 #[.pointer (some ⟨g,0,none⟩)] w fun e w'=>e=.returned (.int .i64 (numAt L))/\RdS w g (nextW L).2 w':=by
 have hN:=next_any g L w h hz
 have hA:=fun W hW=>atoi_any ⟨(nextW L).1.toArray⟩ (by rw [ba_size];have:=nextW_le1 L;omega) W hW
 rw [lb_mk] at hA
 have HN:=hide hN
 have HA:=hide hA
 have hg:g < w.heap.size:=h.lt
 clear hN hA h
 unfold numAt
 go_enter Tryz.func99,Tryz.ntmps99
 go_wp2_with (first
  | (go_at_call 70;refine (uh HN).mono ?_;rintro e w1 ⟨rfl,h1⟩;have R1:=hide h1;clear h1)
  | (go_at_call 124;refine (uh HA _ (by exact G_below hG (hw.trans (gr_below (uh R1).gr hg0 hw.size)))).mono ?_;rintro e w2 ⟨⟨p,rfl⟩,b2⟩;have B2:=hide b2;clear b2))
 go_ret
 exact ⟨rfl,(uh R1).rd.on (uh B2),(uh R1).gr.trans (gr_of (uh B2) _)⟩
set_option maxHeartbeats 4000000 in
theorem text_any2 (g:Nat) (L:Bs) (w:World) (h:Rd w g L) (hz:L.length<=100000000000000) :
  Calls Tryz.prog 126 #[.pointer (some ⟨g,0,none⟩)] w fun e w'=>e=.returned (.string (unqV (nextW L).1))/\RdS w g (nextW L).2 w':=by
 have hN:=next_any g L w h (by omega)
 have hA:=fun W=>unquoteV_any ⟨(nextW L).1.toArray⟩ (by rw [ba_size];have:=nextW_le1 L;omega) W
 rw [lb_mk] at hA
 have HN:=hide hN
 have HA:=hide hA
 have hg:g < w.heap.size:=h.lt
 clear hN hA h
 go_enter Tryz.func126,Tryz.ntmps126
 go_wp2_with (first
  | (go_at_call 70;refine (uh HN).mono ?_;rintro e w1 ⟨rfl,h1⟩;have R1:=hide h1;clear h1)
  | (go_at_call 149;refine (uh HA _).mono ?_;rintro e w2 ⟨⟨p,rfl⟩,b2⟩;have B2:=hide b2;clear b2))
 go_ret
 exact ⟨rfl,(uh R1).rd.on (uh B2),(uh R1).gr.trans (gr_of (uh B2) _)⟩
end Go.Proofs.YtdgoibnndfibnaaGreatDoor

/- Is an op in form? -/
import Derived.Test.YtdgoibnndfibnaaGreatDoorRS9
namespace Go.Proofs.YtdgoibnndfibnaaGreatDoor
open Go.RowKit Go.Sort
set_option maxHeartbeats 4000000 in
set_option maxRecDepth 100000 in
theorem eventInForm_any (q:Option Addr) (c:Nat) (l:List Pq) (w:World) (hl:SlOf encQ 4 w q c l) (hz:l.length<=140737488355328) :
  Calls Tryz.prog 91 #[.slice q l.length c] w fun e w'=>e=.returned (.bool (l.all pairOk))/\Below w.heap.size w w':=by
 have HL:=hide hl
 have a0:(l.length:Int)<=140737488355328:=by omega
 obtain ⟨R,hR⟩:∃ R,l.all pairOk=R:=⟨_,rfl⟩
 rw [hR]
 have HR:=hide hR
 clear hl hz hR
 go_enter Tryz.func91,Tryz.ntmps91
 go_wp2
 go_loopw [7] (fun i wr=>∃ k:Nat,k<=l.length/\i=.int .i64 (k:Int)/\Hid ((l.drop k).all pairOk=R)/\Hid (Below w.heap.size w wr)) (fun i _=>l.length - (intOf i).toNat)
 case atStart=>exact ⟨0,Nat.zero_le _,rfl,hide (by rw [List.drop_zero];exact uh HR),hide (Below.refl _ _)⟩
 case round =>
  clear HR
  obtain ⟨k,hk,rfl,HT,HB⟩:=hrel
  obtain ⟨U,rfl⟩:∃ U,U=wr:=⟨_,rfl⟩
  by_cases hlt:k < l.length
  ·obtain ⟨x,hx,hd⟩:=get_at hlt
   obtain ⟨b,off,hq,hb,c0,c1,c2,c3⟩:=pairsAt ((uh HL).below (uh HB)) hx
   subst hq
   have ki0:(0:Int)<=(k:Int):=by omega
   have ki1:(k:Int) < (l.length:Int):=by omega
   have hall:(l.drop k).all pairOk=(pairOk x && (l.drop (k + 1)).all pairOk):=by rw [hd];rfl
   obtain ⟨Y,HY⟩:∃ Y,U.alloc (.cells #[.string x.1,.int .i64 x.2.1,.int .i64 x.2.2.1,.string x.2.2.2] 78)=Y:=⟨_,rfl⟩
   have bY:Below U.heap.size U Y:=by rw [<- HY];exact (Below.refl _ _).alloc (Nat.le_refl _) _
   have hY:Y.heap[U.heap.size]? = some (.cells #[.string x.1,.int .i64 x.2.1,.int .i64 x.2.2.1,.string x.2.2.2] 78 (0,0)):=by rw [<- HY];exact box_new _ _
   obtain ⟨y0,y1,y2,y3⟩:=of4s hY
   have hN:=Sc.name_any x.1
   obtain ⟨cc,hcc⟩:∃ cc,chkV x.2.1 x.2.2.1 x.2.2.2=cc:=⟨_,rfl⟩
   have hC:=check_any x.2.1 x.2.2.1 x.2.2.2
   rw [hcc] at hC
   have HBY:=hide ((uh HB).trans (bY.mono (uh HB).size))
   by_cases h1:Sc.nameOk x.1=true
   ·rw [h1] at hN
    by_cases h2:cc=0
    ·subst h2
     have hP:pairOk x=true:=by unfold pairOk;rw [h1,Bool.true_and,decide_eq_true_eq];exact hcc
     rw [hP,Bool.true_and] at hall
     have HT2:=hide (hall.symm.trans (uh HT))
     clear hall hP hcc hx hd h1 bY hY
     go_wp2_with (first
      | (go_at_call 79;refine (hN _).mono ?_;rintro e w1 ⟨rfl,h1⟩;obtain rfl:=h1.symm)
      | (go_at_call 115;refine (hC _).mono ?_;rintro e w2 ⟨rfl,b2⟩;have B2:=hide b2;clear b2))
     exact ⟨⟨k + 1,by omega,by go_num,HT2,hide ((uh HBY).trans ((uh B2).mono (uh HBY).size))⟩,by simp [intOf];omega⟩
    ·have hP:pairOk x=false:=by unfold pairOk;rw [h1,Bool.true_and,decide_eq_false_iff_not,hcc];exact h2
     rw [hP,Bool.false_and] at hall
     have HN:=hide (hall.symm.trans (uh HT))
     have n2:(cc != 0)=true:=by simpa using h2
     clear hall hP hcc hx hd h1 bY hY
     go_wp2_with (first
      | (go_at_call 79;refine (hN _).mono ?_;rintro e w1 ⟨rfl,h1⟩;obtain rfl:=h1.symm)
      | (go_at_call 115;refine (hC _).mono ?_;rintro e w2 ⟨rfl,b2⟩;have B2:=hide b2;clear b2))
     go_ret
     exact ⟨ret_bool (uh HN),(uh HBY).trans ((uh B2).mono (uh HBY).size)⟩
   ·have h1':Sc.nameOk x.1=false:=by simpa using h1
    rw [h1'] at hN
    have hP:pairOk x=false:=by unfold pairOk;rw [h1',Bool.false_and]
    rw [hP,Bool.false_and] at hall
    have HN:=hide (hall.symm.trans (uh HT))
    clear hall hP hcc hx hd h1 h1' bY hY
    go_wp2_with (go_at_call 79;refine (hN _).mono ?_;rintro e w1 ⟨rfl,h1⟩;obtain rfl:=h1.symm)
    go_ret
    exact ⟨ret_bool (uh HN),uh HBY⟩
  ·have ki1:¬ (k:Int) < (l.length:Int):=by omega
   obtain rfl:k=l.length:=by omega
   have hR:true=R:=by have:=uh HT;rw [List.drop_length] at this;exact this
   clear HT
   subst hR
   go_wp2
   go_ret
   exact ⟨rfl,uh HB⟩
theorem callOk_of {o:Sop} (h:callNm o=true):callOk o=(if o.ck=1 then txOk o.text else if o.ck=2 then idOk o.id && txOk o.text else if o.ck=3 then idOk o.id else if o.ck=4 then o.ev.all pairOk else false):=by unfold callOk;rw [h,Bool.true_and]
set_option maxHeartbeats 8000000 in
set_option maxRecDepth 100000 in
theorem callInForm_any {w:World} {u:Ou} {o:Sop} (hu:OpIn w u o) (hz:o.ev.length<=140737488355328) :
  Calls Tryz.prog 64 #[u.call] w fun e w'=>e=.returned (.bool (callOk o))/\Below w.heap.size w w':=by
 have mixed:Tryz.prog.follows .mixedOrders=true:=by kernel_rfl
 obtain ⟨X,HX⟩:∃ X,w.alloc (.cells #[.int .i64 u.ck,.int .i64 u.id,.string u.text,.slice u.qe u.ne u.ce] 39)=X:=⟨_,rfl⟩
 have hwX:Below w.heap.size w X:=by rw [<- HX];exact (Below.refl _ _).alloc (Nat.le_refl _) _
 have hX:X.heap[w.heap.size]? = some (.cells #[.int .i64 u.ck,.int .i64 u.id,.string u.text,.slice u.qe u.ne u.ce] 39 (0,0)):=by rw [<- HX];exact box_new _ _
 obtain ⟨x0,x1,x2,x3⟩:=of4s hX
 have HWX:=hide hwX
 have HXB:=hide hX
 have hN:=fun W=>callNamed_any u W
 have hS:=fun (W:World) (hb:Below X.heap.size X W)=>sameCall_any ((hu.below hwX).below hb) ((hu.below hwX).below hb).nmCl hz
 rw [nmCl_eq o] at hS
 obtain ⟨v,hv⟩:∃ v,nmClU u=v:=⟨_,rfl⟩
 rw [hv] at hN hS
 have hE:=fun (W:World) (hb:Below X.heap.size X W)=>eventInForm_any u.qe u.ce o.ev W ((hu.below hwX).below hb).ev hz
 rw [<- hu.ne] at hE
 have KS:∀ W,Below X.heap.size X W->(fun w':World=>w'.cell? ⟨w.heap.size,0,none⟩=some (.int .i64 u.ck)/\w'.cell? ⟨w.heap.size,1,none⟩=some (.int .i64 u.id)/\w'.cell? ⟨w.heap.size,2,none⟩=some (.string u.text)/\w'.cell? ⟨w.heap.size,3,none⟩=some (.slice u.qe u.ne u.ce)) W:=fun W hW=>by
  obtain ⟨a0,a1,a2,a3⟩:=of4s (blk_onS (uh HXB) hW)
  exact ⟨a0,a1,a2,a3⟩
 have KSH:=hide KS
 have HN:=hide hN
 have HS:=hide hS
 have HE:=hide hE
 have HT:=hide (textInForm_any u.text)
 have HI:=hide (idInForm_any u.id)
 have ET:=hide (show txOk u.text=txOk o.text by rw [hu.text])
 have EI:=hide (show idOk u.id=idOk o.id by rw [hu.id])
 have EC:=hide hu.ck
 clear hN hS hE KS hX hv hu hwX
 unfold Ou.call at HN ⊢
 cases hnm:callNm o with
 | false =>
  rw [hnm] at HS
  have e:callOk o=false:=by unfold callOk;rw [hnm,Bool.false_and]
  rw [e]
  clear e hnm
  go_enter Tryz.func64,Tryz.ntmps64
  go_wp2
  go_region_held3 (fun w':World=>w'.cell? ⟨w.heap.size,0,none⟩=some (.int .i64 u.ck)/\w'.cell? ⟨w.heap.size,1,none⟩=some (.int .i64 u.id)/\w'.cell? ⟨w.heap.size,2,none⟩=some (.string u.text)/\w'.cell? ⟨w.heap.size,3,none⟩=some (.slice u.qe u.ne u.ce)) (first | exact uh KSH _ (by (repeat (first | exact Below.refl _ _ | exact uh R2 | exact uh R1 | refine Below.drew ?_ | refine bal ?_ _)))) (first
   | (go_at_call 88;refine (uh HN _).mono ?_;rintro e w1 ⟨rfl,b1⟩;simp only;have R1:=hide (show Below X.heap.size X w1 from below_sub (by (repeat (first | exact Below.refl _ _ | exact uh R2 | exact uh R1 | refine Below.drew ?_ | refine bal ?_ _))) b1);clear b1)
   | (go_at_call 77;refine (uh HS _ (by (repeat (first | exact Below.refl _ _ | exact uh R2 | exact uh R1 | refine Below.drew ?_ | refine bal ?_ _)))).mono ?_;rintro e w2 ⟨rfl,b2⟩;simp only;have R2:=hide (show Below X.heap.size X w2 from below_sub (by (repeat (first | exact Below.refl _ _ | exact uh R2 | exact uh R1 | refine Below.drew ?_ | refine bal ?_ _))) b2);clear b2))
  go_wp2
  go_ret
  exact ⟨rfl,below_sub (uh HWX) (uh R2)⟩
 | true =>
  rw [hnm] at HS
  rw [callOk_of hnm,<- uh EC,<- uh ET,<- uh EI]
  obtain ⟨R,hR⟩:∃ R,(if u.ck=1 then txOk u.text else if u.ck=2 then idOk u.id && txOk u.text else if u.ck=3 then idOk u.id else if u.ck=4 then o.ev.all pairOk else false)=R:=⟨_,rfl⟩
  rw [hR]
  have HR:=hide hR
  clear hnm hR
  go_enter Tryz.func64,Tryz.ntmps64
  go_wp2
  go_region_held3 (fun w':World=>w'.cell? ⟨w.heap.size,0,none⟩=some (.int .i64 u.ck)/\w'.cell? ⟨w.heap.size,1,none⟩=some (.int .i64 u.id)/\w'.cell? ⟨w.heap.size,2,none⟩=some (.string u.text)/\w'.cell? ⟨w.heap.size,3,none⟩=some (.slice u.qe u.ne u.ce)) (first | exact uh KSH _ (by (repeat (first | exact Below.refl _ _ | exact uh R2 | exact uh R1 | refine Below.drew ?_ | refine bal ?_ _)))) (first
   | (go_at_call 88;refine (uh HN _).mono ?_;rintro e w1 ⟨rfl,b1⟩;simp only;have R1:=hide (show Below X.heap.size X w1 from below_sub (by (repeat (first | exact Below.refl _ _ | exact uh R2 | exact uh R1 | refine Below.drew ?_ | refine bal ?_ _))) b1);clear b1)
   | (go_at_call 77;refine (uh HS _ (by (repeat (first | exact Below.refl _ _ | exact uh R2 | exact uh R1 | refine Below.drew ?_ | refine bal ?_ _)))).mono ?_;rintro e w2 ⟨rfl,b2⟩;simp only;have R2:=hide (show Below X.heap.size X w2 from below_sub (by (repeat (first | exact Below.refl _ _ | exact uh R2 | exact uh R1 | refine Below.drew ?_ | refine bal ?_ _))) b2);clear b2))
  clear x0 x1 x2 x3
  obtain ⟨x0,x1,x2,x3⟩:=uh KSH _ (uh R2)
  by_cases c1:u.ck=1
  ·have n1:(u.ck == 1)=true:=by simpa using c1
   replace HR:=hide ((if_pos c1).symm.trans (uh HR))
   clear c1
   go_wp2_with (go_at_call 89;refine (uh HT _).mono ?_;rintro e w3 ⟨rfl,h3⟩;obtain rfl:=h3.symm)
   go_ret
   exact ⟨ret_bool (uh HR),below_sub (uh HWX) (uh R2)⟩
  ·have n1:(u.ck == 1)=false:=by simpa using c1
   replace HR:=hide ((if_neg c1).symm.trans (uh HR))
   by_cases c2:u.ck=2
   ·have n2:(u.ck == 2)=true:=by simpa using c2
    replace HR:=hide ((if_pos c2).symm.trans (uh HR))
    clear c1 c2
    cases hid:idOk u.id with
    | true =>
     rw [hid] at HI
     replace HR:=hide (show txOk u.text=R by have:=uh HR;rw [hid,Bool.true_and] at this;exact this)
     clear hid
     go_wp2_with (first
      | (go_at_call 90;refine (uh HI _).mono ?_;rintro e w3 ⟨rfl,h3⟩;obtain rfl:=h3.symm)
      | (go_at_call 89;refine (uh HT _).mono ?_;rintro e w4 ⟨rfl,h4⟩;obtain rfl:=h4.symm))
     go_ret
     exact ⟨ret_bool (uh HR),below_sub (uh HWX) (uh R2)⟩
    | false =>
     rw [hid] at HI
     replace HR:=hide (show false=R by have:=uh HR;rw [hid,Bool.false_and] at this;exact this)
     clear hid
     go_wp2_with (go_at_call 90;refine (uh HI _).mono ?_;rintro e w3 ⟨rfl,h3⟩;obtain rfl:=h3.symm)
     go_ret
     exact ⟨ret_bool (uh HR),below_sub (uh HWX) (uh R2)⟩
   ·have n2:(u.ck == 2)=false:=by simpa using c2
    replace HR:=hide ((if_neg c2).symm.trans (uh HR))
    by_cases c3:u.ck=3
    ·have n3:(u.ck == 3)=true:=by simpa using c3
     replace HR:=hide ((if_pos c3).symm.trans (uh HR))
     clear c1 c2 c3
     go_wp2_with (go_at_call 90;refine (uh HI _).mono ?_;rintro e w3 ⟨rfl,h3⟩;obtain rfl:=h3.symm)
     go_ret
     exact ⟨ret_bool (uh HR),below_sub (uh HWX) (uh R2)⟩
    ·have n3:(u.ck == 3)=false:=by simpa using c3
     replace HR:=hide ((if_neg c3).symm.trans (uh HR))
     by_cases c4:u.ck=4
     ·have n4:(u.ck == 4)=true:=by simpa using c4
      replace HR:=hide ((if_pos c4).symm.trans (uh HR))
      clear c1 c2 c3 c4
      go_wp2_with (go_at_call 91;refine (uh HE _ (uh R2)).mono ?_;rintro e w3 ⟨rfl,b3⟩;have B3:=hide (below_sub (uh R2) b3);clear b3)
      go_ret
      exact ⟨ret_bool (uh HR),below_sub (uh HWX) (uh B3)⟩
     ·have n4:(u.ck == 4)=false:=by simpa using c4
      replace HR:=hide ((if_neg c4).symm.trans (uh HR))
      clear c1 c2 c3 c4
      go_wp2
      go_ret
      exact ⟨ret_bool (uh HR),below_sub (uh HWX) (uh R2)⟩
end Go.Proofs.YtdgoibnndfibnaaGreatDoor
namespace Go.Proofs.YtdgoibnndfibnaaGreatDoor
open Go.RowKit Go.Sort
theorem opOk_of {o:Sop} (h:opNm o=true):opOk o=(if o.kind=1 then decide (0<=o.who) && decide (o.who < 8) && callOk o else if o.kind=2 then decide (1<=o.nums.length) else if o.kind=5 then decide (o.nums.length=2)
 else decide (o.kind=3 ∨ o.kind=4 ∨ o.kind=6 ∨ o.kind=7)):=by unfold opOk;rw [h,Bool.true_and]
set_option maxHeartbeats 8000000 in
set_option maxRecDepth 100000 in
theorem opInForm_any {w:World} {u:Ou} {o:Sop} (hu:OpIn w u o) (hz:o.ev.length<=140737488355328) (hz2:o.nums.length<=140737488355328) :
  Calls Tryz.prog 32 #[u.val] w fun e w'=>e=.returned (.bool (opOk o))/\Below w.heap.size w w':=by
 have mixed:Tryz.prog.follows .mixedOrders=true:=by kernel_rfl
 obtain ⟨X,HX⟩:∃ X,w.alloc (.cells #[.int .i64 u.kind,.int .i64 u.who,.int .i64 u.ck,.int .i64 u.id,.string u.text,.slice u.qe u.ne u.ce,.slice u.qn u.nn u.cn] 42)=X:=⟨_,rfl⟩
 have hwX:Below w.heap.size w X:=by rw [<- HX];exact (Below.refl _ _).alloc (Nat.le_refl _) _
 have hX:X.heap[w.heap.size]? = some (.cells #[.int .i64 u.kind,.int .i64 u.who,.int .i64 u.ck,.int .i64 u.id,.string u.text,.slice u.qe u.ne u.ce,.slice u.qn u.nn u.cn] 42 (0,0)):=by rw [<- HX];exact box_new _ _
 obtain ⟨x0,x1,x2,x3,x4,x5,x6⟩:=of7s hX
 have HWX:=hide hwX
 have HXB:=hide hX
 have hN:=fun W=>opNamed_any u W
 have hS:=fun (W:World) (hb:Below X.heap.size X W)=>sameOp_any ((hu.below hwX).below hb) ((hu.below hwX).below hb).nm hz hz2
 rw [nmOp_eq o] at hS
 obtain ⟨v,hv⟩:∃ v,nmU u=v:=⟨_,rfl⟩
 rw [hv] at hN hS
 have hE:=fun (W:World) (hb:Below X.heap.size X W)=>callInForm_any ((hu.below hwX).below hb) hz
 have KS:∀ W,Below X.heap.size X W->(fun w':World=>w'.cell? ⟨w.heap.size,0,none⟩=some (.int .i64 u.kind)/\w'.cell? ⟨w.heap.size,1,none⟩=some (.int .i64 u.who)/\w'.cell? ⟨w.heap.size,2,none⟩=some (.int .i64 u.ck)/\w'.cell? ⟨w.heap.size,3,none⟩=some (.int .i64 u.id)/\w'.cell? ⟨w.heap.size,4,none⟩=some (.string u.text)/\w'.cell? ⟨w.heap.size,5,none⟩=some (.slice u.qe u.ne u.ce)/\w'.cell? ⟨w.heap.size,6,none⟩=some (.slice u.qn u.nn u.cn)) W:=fun W hW=>by
  obtain ⟨a0,a1,a2,a3,a4,a5,a6⟩:=of7s (blk_onS (uh HXB) hW)
  exact ⟨a0,a1,a2,a3,a4,a5,a6⟩
 have KSH:=hide KS
 have HN:=hide hN
 have HS:=hide hS
 have HE:=hide hE
 have EK:=hide hu.kind
 have EW:=hide hu.who
 have EN:=hide hu.nn
 have nz:(u.nn:Int)<=140737488355328:=by rw [hu.nn];omega
 clear hN hS hE KS hX hv hu hwX
 unfold Ou.val at HN HS ⊢
 unfold Ou.call at HE
 cases hnm:opNm o with
 | false =>
  rw [hnm] at HS
  have e:opOk o=false:=by unfold opOk;rw [hnm,Bool.false_and]
  rw [e]
  clear e hnm
  go_enter Tryz.func32,Tryz.ntmps32
  go_wp2
  go_region_held3 (fun w':World=>w'.cell? ⟨w.heap.size,0,none⟩=some (.int .i64 u.kind)/\w'.cell? ⟨w.heap.size,1,none⟩=some (.int .i64 u.who)/\w'.cell? ⟨w.heap.size,2,none⟩=some (.int .i64 u.ck)/\w'.cell? ⟨w.heap.size,3,none⟩=some (.int .i64 u.id)/\w'.cell? ⟨w.heap.size,4,none⟩=some (.string u.text)/\w'.cell? ⟨w.heap.size,5,none⟩=some (.slice u.qe u.ne u.ce)/\w'.cell? ⟨w.heap.size,6,none⟩=some (.slice u.qn u.nn u.cn)) (first | exact uh KSH _ (by (repeat (first | exact Below.refl _ _ | exact uh R2 | exact uh R1 | refine Below.drew ?_ | refine bal ?_ _)))) (first
   | (go_at_call 63;refine (uh HN _).mono ?_;rintro e w1 ⟨rfl,b1⟩;simp only;have R1:=hide (show Below X.heap.size X w1 from below_sub (by (repeat (first | exact Below.refl _ _ | exact uh R2 | exact uh R1 | refine Below.drew ?_ | refine bal ?_ _))) b1);clear b1)
   | (go_at_call 50;refine (uh HS _ (by (repeat (first | exact Below.refl _ _ | exact uh R2 | exact uh R1 | refine Below.drew ?_ | refine bal ?_ _)))).mono ?_;rintro e w2 ⟨rfl,b2⟩;simp only;have R2:=hide (show Below X.heap.size X w2 from below_sub (by (repeat (first | exact Below.refl _ _ | exact uh R2 | exact uh R1 | refine Below.drew ?_ | refine bal ?_ _))) b2);clear b2))
  go_wp2
  go_ret
  exact ⟨rfl,below_sub (uh HWX) (uh R2)⟩
 | true =>
  rw [hnm] at HS
  rw [opOk_of hnm,<- uh EK,<- uh EW,<- uh EN]
  obtain ⟨R,hR⟩:∃ R,(if u.kind=1 then decide (0<=u.who) && decide (u.who < 8) && callOk o else if u.kind=2 then decide (1<=u.nn) else if u.kind=5 then decide (u.nn=2)
   else decide (u.kind=3 ∨ u.kind=4 ∨ u.kind=6 ∨ u.kind=7))=R:=⟨_,rfl⟩
  rw [hR]
  have HR:=hide hR
  clear hnm hR
  go_enter Tryz.func32,Tryz.ntmps32
  go_wp2
  go_region_held3 (fun w':World=>w'.cell? ⟨w.heap.size,0,none⟩=some (.int .i64 u.kind)/\w'.cell? ⟨w.heap.size,1,none⟩=some (.int .i64 u.who)/\w'.cell? ⟨w.heap.size,2,none⟩=some (.int .i64 u.ck)/\w'.cell? ⟨w.heap.size,3,none⟩=some (.int .i64 u.id)/\w'.cell? ⟨w.heap.size,4,none⟩=some (.string u.text)/\w'.cell? ⟨w.heap.size,5,none⟩=some (.slice u.qe u.ne u.ce)/\w'.cell? ⟨w.heap.size,6,none⟩=some (.slice u.qn u.nn u.cn)) (first | exact uh KSH _ (by (repeat (first | exact Below.refl _ _ | exact uh R2 | exact uh R1 | refine Below.drew ?_ | refine bal ?_ _)))) (first
   | (go_at_call 63;refine (uh HN _).mono ?_;rintro e w1 ⟨rfl,b1⟩;simp only;have R1:=hide (show Below X.heap.size X w1 from below_sub (by (repeat (first | exact Below.refl _ _ | exact uh R2 | exact uh R1 | refine Below.drew ?_ | refine bal ?_ _))) b1);clear b1)
   | (go_at_call 50;refine (uh HS _ (by (repeat (first | exact Below.refl _ _ | exact uh R2 | exact uh R1 | refine Below.drew ?_ | refine bal ?_ _)))).mono ?_;rintro e w2 ⟨rfl,b2⟩;simp only;have R2:=hide (show Below X.heap.size X w2 from below_sub (by (repeat (first | exact Below.refl _ _ | exact uh R2 | exact uh R1 | refine Below.drew ?_ | refine bal ?_ _))) b2);clear b2))
  clear x0 x1 x2 x3 x4 x5 x6
  obtain ⟨x0,x1,x2,x3,x4,x5,x6⟩:=uh KSH _ (uh R2)
  by_cases c1:u.kind=1
  ·have n1:(u.kind == 1)=true:=by simpa using c1
   replace HR:=hide ((if_pos c1).symm.trans (uh HR))
   clear c1
   by_cases a1:0<=u.who
   ·have b1:decide (0<=u.who)=true:=decide_eq_true a1
    by_cases a2:u.who < 8
    ·have b2:decide (u.who < 8)=true:=decide_eq_true a2
     replace HR:=hide (show callOk o=R by have:=uh HR;rw [b1,b2,Bool.true_and,Bool.true_and] at this;exact this)
     clear a1 a2
     go_wp2_with (go_at_call 64;refine (uh HE _ (uh R2)).mono ?_;rintro e w3 ⟨rfl,b3⟩;have B3:=hide (below_sub (uh R2) b3);clear b3)
     go_ret
     exact ⟨ret_bool (uh HR),below_sub (uh HWX) (uh B3)⟩
    ·have b2:decide (u.who < 8)=false:=decide_eq_false a2
     replace HR:=hide (show false=R by have:=uh HR;rw [b1,b2,Bool.true_and,Bool.false_and] at this;exact this)
     clear a1 a2
     go_wp2
     go_ret
     exact ⟨ret_bool (uh HR),below_sub (uh HWX) (uh R2)⟩
   ·have b1:decide (0<=u.who)=false:=decide_eq_false a1
    replace HR:=hide (show false=R by have:=uh HR;rw [b1,Bool.false_and,Bool.false_and] at this;exact this)
    clear a1
    go_wp2
    go_ret
    exact ⟨ret_bool (uh HR),below_sub (uh HWX) (uh R2)⟩
  ·have n1:(u.kind == 1)=false:=by simpa using c1
   replace HR:=hide ((if_neg c1).symm.trans (uh HR))
   by_cases c2:u.kind=2
   ·have n2:(u.kind == 2)=true:=by simpa using c2
    replace HR:=hide ((if_pos c2).symm.trans (uh HR))
    have hd:decide ((1:Int)<=(u.nn:Int))=decide (1<=u.nn):=by rw [Bool.eq_iff_iff,decide_eq_true_eq,decide_eq_true_eq];omega
    replace HR:=hide (hd.trans (uh HR))
    clear c1 c2 hd
    go_wp2
    go_ret
    exact ⟨ret_bool (uh HR),below_sub (uh HWX) (uh R2)⟩
   ·have n2:(u.kind == 2)=false:=by simpa using c2
    replace HR:=hide ((if_neg c2).symm.trans (uh HR))
    by_cases c5:u.kind=5
    ·have n5:(u.kind == 5)=true:=by simpa using c5
     replace HR:=hide ((if_pos c5).symm.trans (uh HR))
     have hd:((u.nn:Int) == 2)=decide (u.nn=2):=by rw [Bool.eq_iff_iff,decide_eq_true_eq,beq_iff_eq];omega
     replace HR:=hide (hd.trans (uh HR))
     clear c1 c2 c5 hd
     go_wp2
     go_ret
     exact ⟨ret_bool (uh HR),below_sub (uh HWX) (uh R2)⟩
    ·have n5:(u.kind == 5)=false:=by simpa using c5
     replace HR:=hide ((if_neg c5).symm.trans (uh HR))
     by_cases c3:u.kind=3
     ·have n3:(u.kind == 3)=true:=by simpa using c3
      replace HR:=hide (show true=R by have:=uh HR;rw [decide_eq_true (by omega)] at this;exact this)
      clear c1 c2 c5 c3
      go_wp2
      go_ret
      exact ⟨ret_bool (uh HR),below_sub (uh HWX) (uh R2)⟩
     have n3:(u.kind == 3)=false:=by simpa using c3
     by_cases c4:u.kind=4
     ·have n4:(u.kind == 4)=true:=by simpa using c4
      replace HR:=hide (show true=R by have:=uh HR;rw [decide_eq_true (by omega)] at this;exact this)
      clear c1 c2 c5 c3 c4
      go_wp2
      go_ret
      exact ⟨ret_bool (uh HR),below_sub (uh HWX) (uh R2)⟩
     have n4:(u.kind == 4)=false:=by simpa using c4
     by_cases c6:u.kind=6
     ·have n6:(u.kind == 6)=true:=by simpa using c6
      replace HR:=hide (show true=R by have:=uh HR;rw [decide_eq_true (by omega)] at this;exact this)
      clear c1 c2 c5 c3 c4 c6
      go_wp2
      go_ret
      exact ⟨ret_bool (uh HR),below_sub (uh HWX) (uh R2)⟩
     have n6:(u.kind == 6)=false:=by simpa using c6
     by_cases c7:u.kind=7
     ·have n7:(u.kind == 7)=true:=by simpa using c7
      replace HR:=hide (show true=R by have:=uh HR;rw [decide_eq_true (by omega)] at this;exact this)
      clear c1 c2 c5 c3 c4 c6 c7
      go_wp2
      go_ret
      exact ⟨ret_bool (uh HR),below_sub (uh HWX) (uh R2)⟩
     have n7:(u.kind == 7)=false:=by simpa using c7
     replace HR:=hide (show false=R by have:=uh HR;rw [decide_eq_false (by omega)] at this;exact this)
     clear c1 c2 c5 c3 c4 c6 c7
     go_wp2
     go_ret
     exact ⟨ret_bool (uh HR),below_sub (uh HWX) (uh R2)⟩
/-- The line of an op, and its error. -/
def opL (o:Sop):ByteArray:=if opOk o=true then ⟨(lineB o).toArray⟩ else ⟨#[]⟩
def opE (o:Sop):Int:=if opOk o=true then 0 else 1
set_option maxHeartbeats 8000000 in
set_option maxRecDepth 100000 in
theorem op_any {w:World} {u:Ou} {o:Sop} (hu:OpIn w u o) (hI:SopI o) (hG:G w) (hz:OpZ o) :
  Calls Tryz.prog 13 #[u.val] w fun e w'=>e=.returned (.tuple #[.string (opL o),.int .i64 (opE o)])/\Below w.heap.size w w':=by
 have hz1:o.ev.length<=140737488355328/\o.nums.length<=140737488355328:=by unfold OpZ at hz;omega
 obtain ⟨X,HX⟩:∃ X,w.alloc (.cells #[.int .i64 u.kind,.int .i64 u.who,.int .i64 u.ck,.int .i64 u.id,.string u.text,.slice u.qe u.ne u.ce,.slice u.qn u.nn u.cn] 42)=X:=⟨_,rfl⟩
 have hwX:Below w.heap.size w X:=by rw [<- HX];exact (Below.refl _ _).alloc (Nat.le_refl _) _
 have hX:X.heap[w.heap.size]? = some (.cells #[.int .i64 u.kind,.int .i64 u.who,.int .i64 u.ck,.int .i64 u.id,.string u.text,.slice u.qe u.ne u.ce,.slice u.qn u.nn u.cn] 42 (0,0)):=by rw [<- HX];exact box_new _ _
 obtain ⟨x0,x1,x2,x3,x4,x5,x6⟩:=of7s hX
 have HWX:=hide hwX
 have HXB:=hide hX
 have hF:=opInForm_any (hu.below hwX) hz1.1 hz1.2
 have hL:=fun (ho:opOk o=true) (W:World) (hb:Below X.heap.size X W)=>opLine_any ho hI ((hu.below hwX).below hb) (G_below (G_below hG hwX) hb) hz
 have KS:∀ W,Below X.heap.size X W->(fun w':World=>w'.cell? ⟨w.heap.size,0,none⟩=some (.int .i64 u.kind)/\w'.cell? ⟨w.heap.size,1,none⟩=some (.int .i64 u.who)/\w'.cell? ⟨w.heap.size,2,none⟩=some (.int .i64 u.ck)/\w'.cell? ⟨w.heap.size,3,none⟩=some (.int .i64 u.id)/\w'.cell? ⟨w.heap.size,4,none⟩=some (.string u.text)/\w'.cell? ⟨w.heap.size,5,none⟩=some (.slice u.qe u.ne u.ce)/\w'.cell? ⟨w.heap.size,6,none⟩=some (.slice u.qn u.nn u.cn)) W:=fun W hW=>by
  obtain ⟨a0,a1,a2,a3,a4,a5,a6⟩:=of7s (blk_onS (uh HXB) hW)
  exact ⟨a0,a1,a2,a3,a4,a5,a6⟩
 have KSH:=hide KS
 have HF:=hide hF
 have HL:=hide hL
 clear hF hL KS hX hu hwX hG hI hz hz1
 unfold Ou.val at HF HL ⊢
 unfold opL opE
 cases hnm:opOk o with
 | false =>
  rw [hnm] at HF
  simp only [Bool.false_eq_true,if_false]
  clear HL hnm
  go_enter Tryz.func13,Tryz.ntmps13
  go_wp2_with (go_at_call 32;refine (uh HF).mono ?_;rintro e w1 ⟨rfl,b1⟩;have R2:=hide b1;clear b1)
  go_ret2
  exact ⟨rfl,below_sub (uh HWX) (uh R2)⟩
 | true =>
  rw [hnm] at HF
  have HL2:=hide (uh HL hnm)
  simp only [if_true]
  clear HL hnm
  go_enter Tryz.func13,Tryz.ntmps13
  go_wp2_with (first
   | (go_at_call 32;refine (uh HF).mono ?_;rintro e w1 ⟨rfl,b1⟩;have R2:=hide b1;clear b1 x0 x1 x2 x3 x4 x5 x6;obtain ⟨x0,x1,x2,x3,x4,x5,x6⟩:=uh KSH _ (uh R2))
   | (go_at_call 33;refine (uh HL2 _ (uh R2)).mono ?_;rintro e w2 ⟨rfl,b2⟩;have B2:=hide (below_sub (uh R2) b2);clear b2))
  go_ret2
  exact ⟨rfl,below_sub (uh HWX) (uh B2)⟩
end Go.Proofs.YtdgoibnndfibnaaGreatDoor

/- The document's Op. -/
import Derived.Test.YtdgoibnndfibnaaGreatDoorRS47
namespace Go.Proofs.YtdgoibnndfibnaaGreatDoor
open Go.RowKit Go.Sort
theorem ret_tup2 {A:ByteArray} {l:Bs} (h:Lb A=l):Ending.returned (.tuple #[.string A,.int .i64 0])=.returned (.tuple #[.string ⟨l.toArray⟩,.int .i64 0]):=by rw [str_eq h]
set_option maxHeartbeats 8000000 in
set_option maxRecDepth 100000 in
theorem refOp_0 {w:World} {u:Ou} {o:Sop} (hu:OpIn w u o) (hz3:o.nums.length<=1000000000) (k1:¬ u.kind=1) (k2:¬ u.kind=2) (k3:¬ u.kind=3) (k4:¬ u.kind=4) (k5:¬ u.kind=5) (k6:¬ u.kind=6) (k7:¬ u.kind=7) :
  Calls Tryz.prog 14 #[u.val] w fun e w'=>e=.returned (.tuple #[.string (opL o),.int .i64 (opE o)])/\Below w.heap.size w w':=by
 have mixed:Tryz.prog.follows .mixedOrders=true:=by kernel_rfl
 obtain ⟨X,HX⟩:∃ X,w.alloc (.cells #[.int .i64 u.kind,.int .i64 u.who,.int .i64 u.ck,.int .i64 u.id,.string u.text,.slice u.qe u.ne u.ce,.slice u.qn u.nn u.cn] 42)=X:=⟨_,rfl⟩
 have hwX:Below w.heap.size w X:=by rw [<- HX];exact (Below.refl _ _).alloc (Nat.le_refl _) _
 have hX:X.heap[w.heap.size]? = some (.cells #[.int .i64 u.kind,.int .i64 u.who,.int .i64 u.ck,.int .i64 u.id,.string u.text,.slice u.qe u.ne u.ce,.slice u.qn u.nn u.cn] 42 (0,0)):=by rw [<- HX];exact box_new _ _
 obtain ⟨x0,x1,x2,x3,x4,x5,x6⟩:=of7s hX
 have BX:=hide hwX
 have HXB:=hide hX
 have ew:=hu.who
 have hnn:=hu.nn
 have a0:(u.nn:Int)<=1000000000:=by omega
 have ek:¬ o.kind=1/\¬ o.kind=2/\¬ o.kind=3/\¬ o.kind=4/\¬ o.kind=5/\¬ o.kind=6/\¬ o.kind=7:=by rw [<- hu.kind];exact ⟨k1,k2,k3,k4,k5,k6,k7⟩
 have c1:(u.kind == 1)=false:=by simpa using k1
 have c2:(u.kind == 2)=false:=by simpa using k2
 have c3:(u.kind == 3)=false:=by simpa using k3
 have c4:(u.kind == 4)=false:=by simpa using k4
 have c5:(u.kind == 5)=false:=by simpa using k5
 have c6:(u.kind == 6)=false:=by simpa using k6
 have c7:(u.kind == 7)=false:=by simpa using k7
 have hN:=refNone_any (hu.below hwX)
 unfold Ou.call at hN
 obtain ⟨P,hP⟩:∃ P,callNo o=P:=⟨_,rfl⟩
 rw [hP] at hN
 have HN:=hide hN
 clear hN hX hwX k1 k2 k3 k4 k5 k6 k7
 unfold Ou.val
 by_cases hw0:u.who=0
 rotate_left
 ·have w0d:(u.who != 0)=true:=by simpa using hw0
  have hok:opOk o=false:=by
   unfold opOk opNm
   rw [if_neg ek.1,if_neg (by omega)]
   rw [<- ew,decide_eq_false hw0] <;> simp
  have HL:=hide (opL_no hok)
  have HE:=hide (opE_no hok)
  clear hok
  clear hP ew hnn hw0
  go_enter Tryz.func14,Tryz.ntmps14
  go_wp2
  go_ret2
  exact ⟨by rw [uh HL,uh HE];rfl,uh BX⟩
 have w0d:(u.who != 0)=false:=by rw [hw0];rfl
 cases P with
 | false =>
  have hok:opOk o=false:=by
   unfold opOk opNm
   rw [if_neg ek.1,if_neg (by omega)]
   rw [hP] <;> simp
  have HL:=hide (opL_no hok)
  have HE:=hide (opE_no hok)
  clear hok
  clear hP ew hnn hw0
  go_enter Tryz.func14,Tryz.ntmps14
  go_wp2_with (go_at_call 36;refine (uh HN).mono ?_;rintro e w2 ⟨rfl,b2⟩;have B2:=hide b2;clear x0 x1 x2 x3 x4 x5 x6;obtain ⟨x0,x1,x2,x3,x4,x5,x6⟩:=of7s (blk_onS (uh HXB) b2); clear b2)
  go_ret2
  exact ⟨by rw [uh HL,uh HE];rfl,below_sub (uh BX) (uh B2)⟩
 | true =>
  have hok:opOk o=false:=by
   unfold opOk
   rw [if_neg ek.1,if_neg ek.2.1,if_neg ek.2.2.2.2.1,decide_eq_false (by omega),Bool.and_false]
  have HL:=hide (opL_no hok)
  have HE:=hide (opE_no hok)
  clear hok
  clear hP ew hnn hw0
  go_enter Tryz.func14,Tryz.ntmps14
  go_wp2_with (go_at_call 36;refine (uh HN).mono ?_;rintro e w2 ⟨rfl,b2⟩;have B2:=hide b2;clear x0 x1 x2 x3 x4 x5 x6;obtain ⟨x0,x1,x2,x3,x4,x5,x6⟩:=of7s (blk_onS (uh HXB) b2); clear b2)
  go_ret2
  exact ⟨by rw [uh HL,uh HE];rfl,below_sub (uh BX) (uh B2)⟩
set_option maxHeartbeats 8000000 in
set_option maxRecDepth 100000 in
theorem refOp_1 {w:World} {u:Ou} {o:Sop} (hu:OpIn w u o) (hI:SopI o) (hz:o.text.size<=1000000000) (hz2:o.ev.length<=1000000000) (hz3:o.nums.length<=1000000000) (hk:u.kind=1) :
  Calls Tryz.prog 14 #[u.val] w fun e w'=>e=.returned (.tuple #[.string (opL o),.int .i64 (opE o)])/\Below w.heap.size w w':=by
 have mixed:Tryz.prog.follows .mixedOrders=true:=by kernel_rfl
 obtain ⟨X,HX⟩:∃ X,w.alloc (.cells #[.int .i64 u.kind,.int .i64 u.who,.int .i64 u.ck,.int .i64 u.id,.string u.text,.slice u.qe u.ne u.ce,.slice u.qn u.nn u.cn] 42)=X:=⟨_,rfl⟩
 have hwX:Below w.heap.size w X:=by rw [<- HX];exact (Below.refl _ _).alloc (Nat.le_refl _) _
 have hX:X.heap[w.heap.size]? = some (.cells #[.int .i64 u.kind,.int .i64 u.who,.int .i64 u.ck,.int .i64 u.id,.string u.text,.slice u.qe u.ne u.ce,.slice u.qn u.nn u.cn] 42 (0,0)):=by rw [<- HX];exact box_new _ _
 obtain ⟨x0,x1,x2,x3,x4,x5,x6⟩:=of7s hX
 have BX:=hide hwX
 have HXB:=hide hX
 have ew:=hu.who
 have hnn:=hu.nn
 have a0:(u.nn:Int)<=1000000000:=by omega
 have ek:o.kind=1:=by rw [<- hu.kind,hk]
 have c1:(u.kind == 1)=true:=by rw [hk];rfl
 have hC:=refCall_any (hu.below hwX) hI hz hz2
 unfold Ou.call at hC
 obtain ⟨P,hP⟩:∃ P,callOk o=P:=⟨_,rfl⟩
 rw [hP] at hC
 have HC:=hide hC
 have hcl:callOk o=true->(callB o).length<=16420 + o.ev.length * 294:=fun h=>callB_len h hI
 have hwI:I64 u.who:=by rw [ew];exact hI.who
 obtain ⟨D,hD⟩:∃ D,itoaB u.who=D:=⟨_,rfl⟩
 have hdl:Lb D=Go.Lib.itoa o.who:=by rw [<- hD,<- ew];exact itoaB_list u.who
 have hds:D.size<=21:=by rw [<- hD];exact itoaB_size u.who hwI
 have f35:=fun V=>decimal_any u.who V hwI.1 hwI.2
 rw [hD] at f35
 clear hC hX hwX hk hD hwI
 unfold Ou.val
 cases P with
 | false =>
  have hok:opOk o=false:=by
   unfold opOk
   rw [if_pos ek,hP] <;> simp
  have HL:=hide (opL_no hok)
  have HE:=hide (opE_no hok)
  clear hok
  clear f35 hdl hds hcl hP ew hnn
  go_enter Tryz.func14,Tryz.ntmps14
  go_wp2_with (go_at_call 34;refine (uh HC).mono ?_;rintro e w2 ⟨⟨A,rfl,hA⟩,b2⟩;have B2:=hide b2;have HA:=hide hA;clear x0 x1 x2 x3 x4 x5 x6;obtain ⟨x0,x1,x2,x3,x4,x5,x6⟩:=of7s (blk_onS (uh HXB) b2);clear hA b2)
  go_ret2
  exact ⟨by rw [uh HL,uh HE];rfl,below_sub (uh BX) (uh B2)⟩
 | true =>
  by_cases hw0:u.who < 0
  ·skip
   have w0d:decide (u.who < 0)=true:=decide_eq_true hw0
   have hok:opOk o=false:=by
    unfold opOk opNm
    rw [if_pos ek,if_pos ek,<- ew,decide_eq_false (show ¬ 0<=u.who by omega)] <;> simp
   have HL:=hide (opL_no hok)
   have HE:=hide (opE_no hok)
   clear hok
   clear f35 hdl hds hcl hP ew hnn
   go_enter Tryz.func14,Tryz.ntmps14
   go_wp2_with (go_at_call 34;refine (uh HC).mono ?_;rintro e w2 ⟨⟨A,rfl,hA⟩,b2⟩;have B2:=hide b2;have HA:=hide hA;clear x0 x1 x2 x3 x4 x5 x6;obtain ⟨x0,x1,x2,x3,x4,x5,x6⟩:=of7s (blk_onS (uh HXB) b2);clear hA b2)
   go_ret2
   exact ⟨by rw [uh HL,uh HE];rfl,below_sub (uh BX) (uh B2)⟩
  by_cases hw8:u.who ≥ 8
  ·skip
   have w0d:decide (u.who < 0)=false:=decide_eq_false hw0
   have w8d:decide (u.who ≥ 8)=true:=decide_eq_true hw8
   have w8e:decide (8<=u.who)=true:=w8d
   have hok:opOk o=false:=by
    unfold opOk opNm
    rw [if_pos ek,if_pos ek,<- ew,decide_eq_false (show ¬ u.who < 8 by omega)] <;> simp
   have HL:=hide (opL_no hok)
   have HE:=hide (opE_no hok)
   clear hok
   clear f35 hdl hds hcl hP ew hnn
   go_enter Tryz.func14,Tryz.ntmps14
   go_wp2_with (go_at_call 34;refine (uh HC).mono ?_;rintro e w2 ⟨⟨A,rfl,hA⟩,b2⟩;have B2:=hide b2;have HA:=hide hA;clear x0 x1 x2 x3 x4 x5 x6;obtain ⟨x0,x1,x2,x3,x4,x5,x6⟩:=of7s (blk_onS (uh HXB) b2);clear hA b2)
   go_ret2
   exact ⟨by rw [uh HL,uh HE];rfl,below_sub (uh BX) (uh B2)⟩
  by_cases hn:0 < u.nn
  ·skip
   have w0d:decide (u.who < 0)=false:=decide_eq_false hw0
   have w8d:decide (u.who ≥ 8)=false:=decide_eq_false hw8
   have w8e:decide (8<=u.who)=false:=w8d
   have w8n:¬ 8<=u.who:=hw8
   have nd:((u.nn:Int) > 0):=by omega
   have nd2:(0:Int) < (u.nn:Int):=by omega
   have hok:opOk o=false:=by
    unfold opOk opNm
    rw [if_pos ek,show o.nums.isEmpty=false by rw [List.isEmpty_eq_false_iff];intro h;rw [h] at hnn;simp at hnn;omega];rfl
   have HL:=hide (opL_no hok)
   have HE:=hide (opE_no hok)
   clear hok
   clear f35 hdl hds hcl hP ew hnn
   go_enter Tryz.func14,Tryz.ntmps14
   go_wp2_with (go_at_call 34;refine (uh HC).mono ?_;rintro e w2 ⟨⟨A,rfl,hA⟩,b2⟩;have B2:=hide b2;have HA:=hide hA;clear x0 x1 x2 x3 x4 x5 x6;obtain ⟨x0,x1,x2,x3,x4,x5,x6⟩:=of7s (blk_onS (uh HXB) b2);clear hA b2)
   go_ret2
   exact ⟨by rw [uh HL,uh HE];rfl,below_sub (uh BX) (uh B2)⟩
  have w0d:decide (u.who < 0)=false:=decide_eq_false hw0
  have w8d:decide (u.who ≥ 8)=false:=decide_eq_false hw8
  have w8e:decide (8<=u.who)=false:=w8d
  have w8n:¬ 8<=u.who:=hw8
  have nd:¬ ((u.nn:Int) > 0):=by omega
  have nd2:¬ (0:Int) < (u.nn:Int):=by omega
  have hok:opOk o=true:=by
   unfold opOk opNm
   rw [if_pos ek,if_pos ek,hP,<- ew,decide_eq_true (show 0<=u.who by omega),decide_eq_true (show u.who < 8 by omega),show o.nums.isEmpty=true by rw [List.isEmpty_iff,<- List.length_eq_zero_iff];omega];rfl
  have HLB:=hide (opL_ok hok)
  have HE:=hide (opE_ok hok)
  have hlb:lineB o=opW 1 ++ numsB [o.who] ++ 32 :: callB o:=by unfold lineB;rw [if_pos ek,ek]
  have HLN:=hide hlb
  have HDL:=hide hdl
  have HCL:=hide (show (callB o).length<=1000000000000 by have:=hcl hP;omega)
  clear hok hdl hcl hP ew hnn hlb
  go_enter Tryz.func14,Tryz.ntmps14
  go_wp2_with (first
   | (go_at_call 34;refine (uh HC).mono ?_;rintro e w2 ⟨⟨A,rfl,hA⟩,b2⟩;have B2:=hide b2;have hAs:A.size<=1000000000000:=(by have:=size_lb (hA (by first | rfl | trivial));rw [this];exact uh HCL);have n1:¬ 9223372036854775807 < 5 + D.size:=(by omega);have n2:¬ 9223372036854775807 < 5 + D.size + 1:=(by omega);have n3:¬ 9223372036854775807 < 5 + D.size + 1 + A.size:=(by omega);have HA:=hide hA;clear x0 x1 x2 x3 x4 x5 x6;obtain ⟨x0,x1,x2,x3,x4,x5,x6⟩:=of7s (blk_onS (uh HXB) b2);clear hA b2)
   | (go_at_call 35;refine (f35 _).mono ?_;rintro e w3 ⟨rfl,b3⟩;have B3:=hide (below_sub (uh B2) b3);clear b3))
  go_ret2
  refine ⟨?_,below_sub (uh BX) (uh B3)⟩
  rw [uh HLB,uh HE]
  refine ret_tup2 ?_
  simp only [lb_app,uh HDL,uh HLN]
  rw [uh HA (by first | rfl | trivial)]
  simp [Lb,numsB,tailW,opW,wCall]
set_option maxHeartbeats 8000000 in
set_option maxRecDepth 100000 in
theorem refOp_2 {w:World} {u:Ou} {o:Sop} (hu:OpIn w u o) (hI:SopI o) (hz3:o.nums.length<=1000000000) (hk:u.kind=2) :
  Calls Tryz.prog 14 #[u.val] w fun e w'=>e=.returned (.tuple #[.string (opL o),.int .i64 (opE o)])/\Below w.heap.size w w':=by
 have mixed:Tryz.prog.follows .mixedOrders=true:=by kernel_rfl
 obtain ⟨X,HX⟩:∃ X,w.alloc (.cells #[.int .i64 u.kind,.int .i64 u.who,.int .i64 u.ck,.int .i64 u.id,.string u.text,.slice u.qe u.ne u.ce,.slice u.qn u.nn u.cn] 42)=X:=⟨_,rfl⟩
 have hwX:Below w.heap.size w X:=by rw [<- HX];exact (Below.refl _ _).alloc (Nat.le_refl _) _
 have hX:X.heap[w.heap.size]? = some (.cells #[.int .i64 u.kind,.int .i64 u.who,.int .i64 u.ck,.int .i64 u.id,.string u.text,.slice u.qe u.ne u.ce,.slice u.qn u.nn u.cn] 42 (0,0)):=by rw [<- HX];exact box_new _ _
 obtain ⟨x0,x1,x2,x3,x4,x5,x6⟩:=of7s hX
 have BX:=hide hwX
 have HXB:=hide hX
 have ew:=hu.who
 have hnn:=hu.nn
 have a0:(u.nn:Int)<=1000000000:=by omega
 have ek:o.kind=2:=by rw [<- hu.kind,hk]
 have c1:(u.kind == 1)=false:=by rw [hk];rfl
 have c2:(u.kind == 2)=true:=by rw [hk];rfl
 have hN:=refNone_any (hu.below hwX)
 unfold Ou.call at hN
 obtain ⟨P,hP⟩:∃ P,callNo o=P:=⟨_,rfl⟩
 rw [hP] at hN
 have HN:=hide hN
 have hM:=fun V (hb:Below X.heap.size X V)=>refNums_any u.qn u.cn o.nums V hI.nums hz3 ((hu.below hwX).below hb).nums
 rw [<- hu.nn] at hM
 obtain ⟨M,hMM⟩:∃ M:ByteArray,(⟨(numsB o.nums).toArray⟩:ByteArray)=M:=⟨_,rfl⟩
 rw [hMM] at hM
 have HM:=hide hM
 have hml:Lb M=numsB o.nums:=by rw [<- hMM,lb_mk]
 have hms:M.size<=22000000000:=by rw [size_lb hml];have:=numsB_len hI.nums;omega
 clear hN hX hwX hk hM hMM
 unfold Ou.val
 by_cases hw0:u.who=0
 rotate_left
 ·have w0d:(u.who != 0)=true:=by simpa using hw0
  have hok:opOk o=false:=by
   unfold opOk opNm
   rw [if_neg (by omega),if_pos (by omega)]
   rw [<- ew,decide_eq_false hw0] <;> simp
  have HL:=hide (opL_no hok)
  have HE:=hide (opE_no hok)
  clear hok
  clear hP ew hnn hml hms hw0
  go_enter Tryz.func14,Tryz.ntmps14
  go_wp2
  go_ret2
  exact ⟨by rw [uh HL,uh HE];rfl,uh BX⟩
 have w0d:(u.who != 0)=false:=by rw [hw0];rfl
 cases P with
 | false =>
  have hok:opOk o=false:=by
   unfold opOk opNm
   rw [if_neg (by omega),if_pos (by omega)]
   rw [hP] <;> simp
  have HL:=hide (opL_no hok)
  have HE:=hide (opE_no hok)
  clear hok
  clear hP ew hnn hml hms hw0
  go_enter Tryz.func14,Tryz.ntmps14
  go_wp2_with (go_at_call 36;refine (uh HN).mono ?_;rintro e w2 ⟨rfl,b2⟩;have B2:=hide b2;clear x0 x1 x2 x3 x4 x5 x6;obtain ⟨x0,x1,x2,x3,x4,x5,x6⟩:=of7s (blk_onS (uh HXB) b2); clear b2)
  go_ret2
  exact ⟨by rw [uh HL,uh HE];rfl,below_sub (uh BX) (uh B2)⟩
 | true =>
  by_cases hn:u.nn < 1
  ·skip
   have nd:((u.nn:Int) < 1):=by omega
   have nd2:¬ (u.nn:Int) > (u.nn:Int):=by omega
   have hok:opOk o=false:=by
    unfold opOk
    rw [if_neg (by omega),if_pos ek,decide_eq_false (by omega),Bool.and_false]
   have HL:=hide (opL_no hok)
   have HE:=hide (opE_no hok)
   clear hok
   clear hP ew hnn hml hms hw0
   go_enter Tryz.func14,Tryz.ntmps14
   go_wp2_with (go_at_call 36;refine (uh HN).mono ?_;rintro e w2 ⟨rfl,b2⟩;have B2:=hide b2;clear x0 x1 x2 x3 x4 x5 x6;obtain ⟨x0,x1,x2,x3,x4,x5,x6⟩:=of7s (blk_onS (uh HXB) b2);have g0:=cell_regrown x0;have g1:=cell_regrown x1;have g2:=cell_regrown x2;have g3:=cell_regrown x3;have g4:=cell_regrown x4;have g5:=cell_regrown x5;have g6:=cell_regrown x6;clear b2)
   refine wp_region_quiet_below (by assumption) (by kernel_rfl) ?_
   repeat (go_big_quiet_step (fail))
   refine wpQuiet_nil ?_
   intro _ hw'
   obtain ⟨⟨dq,osq⟩,hw''⟩:=hw'
   subst hw''
   have B2R:=hide (below_tr (uh B2) ((below_regrown w2 dq osq).mono (uh B2).size))
   go_wp2
   go_ret2
   exact ⟨by rw [uh HL,uh HE];rfl,below_sub (uh BX) (uh B2R)⟩
  have nd:¬ ((u.nn:Int) < 1):=by omega
  have nd2:¬ (u.nn:Int) > (u.nn:Int):=by omega
  have nd3:¬ (u.nn:Int) < (u.nn:Int):=nd2
  have hok:opOk o=true:=by
   unfold opOk opNm
   rw [if_neg (by omega),if_pos (by omega)]
   rw [<- ew,decide_eq_true hw0,hP,if_neg (by omega),if_pos ek,decide_eq_true (by omega)];rfl
  have HLB:=hide (opL_ok hok)
  have HE:=hide (opE_ok hok)
  have hlb:lineB o=opW 2 ++ numsB o.nums:=by unfold lineB;rw [if_neg (by omega),ek]
  have HLN:=hide hlb
  have HML:=hide hml
  have n1:¬ 9223372036854775807 < 4 + M.size:=by omega
  clear hok hml hms hP ew hnn hlb hw0
  go_enter Tryz.func14,Tryz.ntmps14
  go_wp2_with (go_at_call 36;refine (uh HN).mono ?_;rintro e w2 ⟨rfl,b2⟩;have B2:=hide b2;clear x0 x1 x2 x3 x4 x5 x6;obtain ⟨x0,x1,x2,x3,x4,x5,x6⟩:=of7s (blk_onS (uh HXB) b2);have g0:=cell_regrown x0;have g1:=cell_regrown x1;have g2:=cell_regrown x2;have g3:=cell_regrown x3;have g4:=cell_regrown x4;have g5:=cell_regrown x5;have g6:=cell_regrown x6;clear b2)
  refine wp_region_quiet_below (by assumption) (by kernel_rfl) ?_
  repeat (go_big_quiet_step (fail))
  refine wpQuiet_nil ?_
  intro _ hw'
  obtain ⟨⟨dq,osq⟩,hw''⟩:=hw'
  subst hw''
  have B2R:=hide (below_tr (uh B2) ((below_regrown w2 dq osq).mono (uh B2).size))
  go_wp2_with (go_at_call 37;refine (uh HM _ (uh B2R)).mono ?_;rintro e w3 ⟨rfl,b3⟩;have B3:=hide (below_sub (uh B2R) b3);clear b3)
  go_ret2
  refine ⟨?_,below_sub (uh BX) (uh B3)⟩
  rw [uh HLB,uh HE]
  refine ret_tup2 ?_
  simp only [lb_app,uh HML,uh HLN]
  rfl
set_option maxHeartbeats 8000000 in
set_option maxRecDepth 100000 in
theorem refOp_3 {w:World} {u:Ou} {o:Sop} (hu:OpIn w u o) (hI:SopI o) (hz3:o.nums.length<=1000000000) (hk:u.kind=3) :
  Calls Tryz.prog 14 #[u.val] w fun e w'=>e=.returned (.tuple #[.string (opL o),.int .i64 (opE o)])/\Below w.heap.size w w':=by
 have mixed:Tryz.prog.follows .mixedOrders=true:=by kernel_rfl
 obtain ⟨X,HX⟩:∃ X,w.alloc (.cells #[.int .i64 u.kind,.int .i64 u.who,.int .i64 u.ck,.int .i64 u.id,.string u.text,.slice u.qe u.ne u.ce,.slice u.qn u.nn u.cn] 42)=X:=⟨_,rfl⟩
 have hwX:Below w.heap.size w X:=by rw [<- HX];exact (Below.refl _ _).alloc (Nat.le_refl _) _
 have hX:X.heap[w.heap.size]? = some (.cells #[.int .i64 u.kind,.int .i64 u.who,.int .i64 u.ck,.int .i64 u.id,.string u.text,.slice u.qe u.ne u.ce,.slice u.qn u.nn u.cn] 42 (0,0)):=by rw [<- HX];exact box_new _ _
 obtain ⟨x0,x1,x2,x3,x4,x5,x6⟩:=of7s hX
 have BX:=hide hwX
 have HXB:=hide hX
 have ew:=hu.who
 have hnn:=hu.nn
 have a0:(u.nn:Int)<=1000000000:=by omega
 have ek:o.kind=3:=by rw [<- hu.kind,hk]
 have c1:(u.kind == 1)=false:=by rw [hk];rfl
 have c2:(u.kind == 2)=false:=by rw [hk];rfl
 have c3:(u.kind == 3)=true:=by rw [hk];rfl
 have hN:=refNone_any (hu.below hwX)
 unfold Ou.call at hN
 obtain ⟨P,hP⟩:∃ P,callNo o=P:=⟨_,rfl⟩
 rw [hP] at hN
 have HN:=hide hN
 have hM:=fun V (hb:Below X.heap.size X V)=>refNums_any u.qn u.cn o.nums V hI.nums hz3 ((hu.below hwX).below hb).nums
 rw [<- hu.nn] at hM
 obtain ⟨M,hMM⟩:∃ M:ByteArray,(⟨(numsB o.nums).toArray⟩:ByteArray)=M:=⟨_,rfl⟩
 rw [hMM] at hM
 have HM:=hide hM
 have hml:Lb M=numsB o.nums:=by rw [<- hMM,lb_mk]
 have hms:M.size<=22000000000:=by rw [size_lb hml];have:=numsB_len hI.nums;omega
 clear hN hX hwX hk hM hMM
 unfold Ou.val
 by_cases hw0:u.who=0
 rotate_left
 ·have w0d:(u.who != 0)=true:=by simpa using hw0
  have hok:opOk o=false:=by
   unfold opOk opNm
   rw [if_neg (by omega),if_neg (by omega)]
   rw [<- ew,decide_eq_false hw0] <;> simp
  have HL:=hide (opL_no hok)
  have HE:=hide (opE_no hok)
  clear hok
  clear hP ew hnn hml hms hw0
  go_enter Tryz.func14,Tryz.ntmps14
  go_wp2
  go_ret2
  exact ⟨by rw [uh HL,uh HE];rfl,uh BX⟩
 have w0d:(u.who != 0)=false:=by rw [hw0];rfl
 cases P with
 | false =>
  have hok:opOk o=false:=by
   unfold opOk opNm
   rw [if_neg (by omega),if_neg (by omega)]
   rw [hP] <;> simp
  have HL:=hide (opL_no hok)
  have HE:=hide (opE_no hok)
  clear hok
  clear hP ew hnn hml hms hw0
  go_enter Tryz.func14,Tryz.ntmps14
  go_wp2_with (go_at_call 36;refine (uh HN).mono ?_;rintro e w2 ⟨rfl,b2⟩;have B2:=hide b2;clear x0 x1 x2 x3 x4 x5 x6;obtain ⟨x0,x1,x2,x3,x4,x5,x6⟩:=of7s (blk_onS (uh HXB) b2); clear b2)
  go_ret2
  exact ⟨by rw [uh HL,uh HE];rfl,below_sub (uh BX) (uh B2)⟩
 | true =>
  by_cases hn:0 < u.nn
  ·skip
   have nd:((u.nn:Int) > 0):=by omega
   have nd2:(0:Int) < (u.nn:Int):=by omega
   have nd3:¬ (u.nn:Int) < 0:=by omega
   have hok:opOk o=false:=by
    unfold opOk opNm
    rw [if_neg (by omega),if_neg (by omega)]
    rw [show o.nums.isEmpty=false by rw [List.isEmpty_eq_false_iff];intro h;rw [h] at hnn;simp at hnn;omega] <;> simp
   have HL:=hide (opL_no hok)
   have HE:=hide (opE_no hok)
   clear hok
   clear hP ew hnn hml hms hw0
   go_enter Tryz.func14,Tryz.ntmps14
   go_wp2_with (go_at_call 36;refine (uh HN).mono ?_;rintro e w2 ⟨rfl,b2⟩;have B2:=hide b2;clear x0 x1 x2 x3 x4 x5 x6;obtain ⟨x0,x1,x2,x3,x4,x5,x6⟩:=of7s (blk_onS (uh HXB) b2); clear b2)
   go_ret2
   exact ⟨by rw [uh HL,uh HE];rfl,below_sub (uh BX) (uh B2)⟩
  have nd:¬ ((u.nn:Int) > 0):=by omega
  have nd2:¬ (0:Int) < (u.nn:Int):=by omega
  have nd3:¬ (u.nn:Int) < 0:=by omega
  have hok:opOk o=true:=by
   unfold opOk opNm
   rw [if_neg (by omega),if_neg (by omega)]
   rw [<- ew,decide_eq_true hw0,hP,show o.nums.isEmpty=true by rw [List.isEmpty_iff,<- List.length_eq_zero_iff];omega,if_neg (by omega),if_neg (by omega),if_neg (by omega),decide_eq_true (by omega)];rfl
  have HLB:=hide (opL_ok hok)
  have HE:=hide (opE_ok hok)
  have hlb:lineB o=opW 3 ++ numsB o.nums:=by unfold lineB;rw [if_neg (by omega),ek]
  have HLN:=hide hlb
  have HML:=hide hml
  have n1:¬ 9223372036854775807 < 5 + M.size:=by omega
  clear hok hml hms hP ew hnn hlb hw0
  go_enter Tryz.func14,Tryz.ntmps14
  go_wp2_with (first
   | (go_at_call 36;refine (uh HN).mono ?_;rintro e w2 ⟨rfl,b2⟩;have B2:=hide b2;clear x0 x1 x2 x3 x4 x5 x6;obtain ⟨x0,x1,x2,x3,x4,x5,x6⟩:=of7s (blk_onS (uh HXB) b2); clear b2)
   | (go_at_call 37;refine (uh HM _ (uh B2)).mono ?_;rintro e w3 ⟨rfl,b3⟩;have B3:=hide (below_sub (uh B2) b3);clear b3))
  go_ret2
  refine ⟨?_,below_sub (uh BX) (uh B3)⟩
  rw [uh HLB,uh HE]
  refine ret_tup2 ?_
  simp only [lb_app,uh HML,uh HLN]
  rfl
set_option maxHeartbeats 8000000 in
set_option maxRecDepth 100000 in
theorem refOp_4 {w:World} {u:Ou} {o:Sop} (hu:OpIn w u o) (hI:SopI o) (hz3:o.nums.length<=1000000000) (hk:u.kind=4) :
  Calls Tryz.prog 14 #[u.val] w fun e w'=>e=.returned (.tuple #[.string (opL o),.int .i64 (opE o)])/\Below w.heap.size w w':=by
 have mixed:Tryz.prog.follows .mixedOrders=true:=by kernel_rfl
 obtain ⟨X,HX⟩:∃ X,w.alloc (.cells #[.int .i64 u.kind,.int .i64 u.who,.int .i64 u.ck,.int .i64 u.id,.string u.text,.slice u.qe u.ne u.ce,.slice u.qn u.nn u.cn] 42)=X:=⟨_,rfl⟩
 have hwX:Below w.heap.size w X:=by rw [<- HX];exact (Below.refl _ _).alloc (Nat.le_refl _) _
 have hX:X.heap[w.heap.size]? = some (.cells #[.int .i64 u.kind,.int .i64 u.who,.int .i64 u.ck,.int .i64 u.id,.string u.text,.slice u.qe u.ne u.ce,.slice u.qn u.nn u.cn] 42 (0,0)):=by rw [<- HX];exact box_new _ _
 obtain ⟨x0,x1,x2,x3,x4,x5,x6⟩:=of7s hX
 have BX:=hide hwX
 have HXB:=hide hX
 have ew:=hu.who
 have hnn:=hu.nn
 have a0:(u.nn:Int)<=1000000000:=by omega
 have ek:o.kind=4:=by rw [<- hu.kind,hk]
 have c1:(u.kind == 1)=false:=by rw [hk];rfl
 have c2:(u.kind == 2)=false:=by rw [hk];rfl
 have c3:(u.kind == 3)=false:=by rw [hk];rfl
 have c4:(u.kind == 4)=true:=by rw [hk];rfl
 have hN:=refNone_any (hu.below hwX)
 unfold Ou.call at hN
 obtain ⟨P,hP⟩:∃ P,callNo o=P:=⟨_,rfl⟩
 rw [hP] at hN
 have HN:=hide hN
 have hM:=fun V (hb:Below X.heap.size X V)=>refNums_any u.qn u.cn o.nums V hI.nums hz3 ((hu.below hwX).below hb).nums
 rw [<- hu.nn] at hM
 obtain ⟨M,hMM⟩:∃ M:ByteArray,(⟨(numsB o.nums).toArray⟩:ByteArray)=M:=⟨_,rfl⟩
 rw [hMM] at hM
 have HM:=hide hM
 have hml:Lb M=numsB o.nums:=by rw [<- hMM,lb_mk]
 have hms:M.size<=22000000000:=by rw [size_lb hml];have:=numsB_len hI.nums;omega
 clear hN hX hwX hk hM hMM
 unfold Ou.val
 by_cases hw0:u.who=0
 rotate_left
 ·have w0d:(u.who != 0)=true:=by simpa using hw0
  have hok:opOk o=false:=by
   unfold opOk opNm
   rw [if_neg (by omega),if_neg (by omega)]
   rw [<- ew,decide_eq_false hw0] <;> simp
  have HL:=hide (opL_no hok)
  have HE:=hide (opE_no hok)
  clear hok
  clear hP ew hnn hml hms hw0
  go_enter Tryz.func14,Tryz.ntmps14
  go_wp2
  go_ret2
  exact ⟨by rw [uh HL,uh HE];rfl,uh BX⟩
 have w0d:(u.who != 0)=false:=by rw [hw0];rfl
 cases P with
 | false =>
  have hok:opOk o=false:=by
   unfold opOk opNm
   rw [if_neg (by omega),if_neg (by omega)]
   rw [hP] <;> simp
  have HL:=hide (opL_no hok)
  have HE:=hide (opE_no hok)
  clear hok
  clear hP ew hnn hml hms hw0
  go_enter Tryz.func14,Tryz.ntmps14
  go_wp2_with (go_at_call 36;refine (uh HN).mono ?_;rintro e w2 ⟨rfl,b2⟩;have B2:=hide b2;clear x0 x1 x2 x3 x4 x5 x6;obtain ⟨x0,x1,x2,x3,x4,x5,x6⟩:=of7s (blk_onS (uh HXB) b2); clear b2)
  go_ret2
  exact ⟨by rw [uh HL,uh HE];rfl,below_sub (uh BX) (uh B2)⟩
 | true =>
  by_cases hn:0 < u.nn
  ·skip
   have nd:((u.nn:Int) > 0):=by omega
   have nd2:(0:Int) < (u.nn:Int):=by omega
   have nd3:¬ (u.nn:Int) < 0:=by omega
   have hok:opOk o=false:=by
    unfold opOk opNm
    rw [if_neg (by omega),if_neg (by omega)]
    rw [show o.nums.isEmpty=false by rw [List.isEmpty_eq_false_iff];intro h;rw [h] at hnn;simp at hnn;omega] <;> simp
   have HL:=hide (opL_no hok)
   have HE:=hide (opE_no hok)
   clear hok
   clear hP ew hnn hml hms hw0
   go_enter Tryz.func14,Tryz.ntmps14
   go_wp2_with (go_at_call 36;refine (uh HN).mono ?_;rintro e w2 ⟨rfl,b2⟩;have B2:=hide b2;clear x0 x1 x2 x3 x4 x5 x6;obtain ⟨x0,x1,x2,x3,x4,x5,x6⟩:=of7s (blk_onS (uh HXB) b2); clear b2)
   go_ret2
   exact ⟨by rw [uh HL,uh HE];rfl,below_sub (uh BX) (uh B2)⟩
  have nd:¬ ((u.nn:Int) > 0):=by omega
  have nd2:¬ (0:Int) < (u.nn:Int):=by omega
  have nd3:¬ (u.nn:Int) < 0:=by omega
  have hok:opOk o=true:=by
   unfold opOk opNm
   rw [if_neg (by omega),if_neg (by omega)]
   rw [<- ew,decide_eq_true hw0,hP,show o.nums.isEmpty=true by rw [List.isEmpty_iff,<- List.length_eq_zero_iff];omega,if_neg (by omega),if_neg (by omega),if_neg (by omega),decide_eq_true (by omega)];rfl
  have HLB:=hide (opL_ok hok)
  have HE:=hide (opE_ok hok)
  have hlb:lineB o=opW 4 ++ numsB o.nums:=by unfold lineB;rw [if_neg (by omega),ek]
  have HLN:=hide hlb
  have HML:=hide hml
  have n1:¬ 9223372036854775807 < 4 + M.size:=by omega
  clear hok hml hms hP ew hnn hlb hw0
  go_enter Tryz.func14,Tryz.ntmps14
  go_wp2_with (first
   | (go_at_call 36;refine (uh HN).mono ?_;rintro e w2 ⟨rfl,b2⟩;have B2:=hide b2;clear x0 x1 x2 x3 x4 x5 x6;obtain ⟨x0,x1,x2,x3,x4,x5,x6⟩:=of7s (blk_onS (uh HXB) b2); clear b2)
   | (go_at_call 37;refine (uh HM _ (uh B2)).mono ?_;rintro e w3 ⟨rfl,b3⟩;have B3:=hide (below_sub (uh B2) b3);clear b3))
  go_ret2
  refine ⟨?_,below_sub (uh BX) (uh B3)⟩
  rw [uh HLB,uh HE]
  refine ret_tup2 ?_
  simp only [lb_app,uh HML,uh HLN]
  rfl
set_option maxHeartbeats 8000000 in
set_option maxRecDepth 100000 in
theorem refOp_5 {w:World} {u:Ou} {o:Sop} (hu:OpIn w u o) (hI:SopI o) (hz3:o.nums.length<=1000000000) (hk:u.kind=5) :
  Calls Tryz.prog 14 #[u.val] w fun e w'=>e=.returned (.tuple #[.string (opL o),.int .i64 (opE o)])/\Below w.heap.size w w':=by
 have mixed:Tryz.prog.follows .mixedOrders=true:=by kernel_rfl
 obtain ⟨X,HX⟩:∃ X,w.alloc (.cells #[.int .i64 u.kind,.int .i64 u.who,.int .i64 u.ck,.int .i64 u.id,.string u.text,.slice u.qe u.ne u.ce,.slice u.qn u.nn u.cn] 42)=X:=⟨_,rfl⟩
 have hwX:Below w.heap.size w X:=by rw [<- HX];exact (Below.refl _ _).alloc (Nat.le_refl _) _
 have hX:X.heap[w.heap.size]? = some (.cells #[.int .i64 u.kind,.int .i64 u.who,.int .i64 u.ck,.int .i64 u.id,.string u.text,.slice u.qe u.ne u.ce,.slice u.qn u.nn u.cn] 42 (0,0)):=by rw [<- HX];exact box_new _ _
 obtain ⟨x0,x1,x2,x3,x4,x5,x6⟩:=of7s hX
 have BX:=hide hwX
 have HXB:=hide hX
 have ew:=hu.who
 have hnn:=hu.nn
 have a0:(u.nn:Int)<=1000000000:=by omega
 have ek:o.kind=5:=by rw [<- hu.kind,hk]
 have c1:(u.kind == 1)=false:=by rw [hk];rfl
 have c2:(u.kind == 2)=false:=by rw [hk];rfl
 have c3:(u.kind == 3)=false:=by rw [hk];rfl
 have c4:(u.kind == 4)=false:=by rw [hk];rfl
 have c5:(u.kind == 5)=true:=by rw [hk];rfl
 have hN:=refNone_any (hu.below hwX)
 unfold Ou.call at hN
 obtain ⟨P,hP⟩:∃ P,callNo o=P:=⟨_,rfl⟩
 rw [hP] at hN
 have HN:=hide hN
 have hM:=fun V (hb:Below X.heap.size X V)=>refNums_any u.qn u.cn o.nums V hI.nums hz3 ((hu.below hwX).below hb).nums
 rw [<- hu.nn] at hM
 obtain ⟨M,hMM⟩:∃ M:ByteArray,(⟨(numsB o.nums).toArray⟩:ByteArray)=M:=⟨_,rfl⟩
 rw [hMM] at hM
 have HM:=hide hM
 have hml:Lb M=numsB o.nums:=by rw [<- hMM,lb_mk]
 have hms:M.size<=22000000000:=by rw [size_lb hml];have:=numsB_len hI.nums;omega
 clear hN hX hwX hk hM hMM
 unfold Ou.val
 by_cases hw0:u.who=0
 rotate_left
 ·have w0d:(u.who != 0)=true:=by simpa using hw0
  have hok:opOk o=false:=by
   unfold opOk opNm
   rw [if_neg (by omega),if_pos (by omega)]
   rw [<- ew,decide_eq_false hw0] <;> simp
  have HL:=hide (opL_no hok)
  have HE:=hide (opE_no hok)
  clear hok
  clear hP ew hnn hml hms hw0
  go_enter Tryz.func14,Tryz.ntmps14
  go_wp2
  go_ret2
  exact ⟨by rw [uh HL,uh HE];rfl,uh BX⟩
 have w0d:(u.who != 0)=false:=by rw [hw0];rfl
 cases P with
 | false =>
  have hok:opOk o=false:=by
   unfold opOk opNm
   rw [if_neg (by omega),if_pos (by omega)]
   rw [hP] <;> simp
  have HL:=hide (opL_no hok)
  have HE:=hide (opE_no hok)
  clear hok
  clear hP ew hnn hml hms hw0
  go_enter Tryz.func14,Tryz.ntmps14
  go_wp2_with (go_at_call 36;refine (uh HN).mono ?_;rintro e w2 ⟨rfl,b2⟩;have B2:=hide b2;clear x0 x1 x2 x3 x4 x5 x6;obtain ⟨x0,x1,x2,x3,x4,x5,x6⟩:=of7s (blk_onS (uh HXB) b2); clear b2)
  go_ret2
  exact ⟨by rw [uh HL,uh HE];rfl,below_sub (uh BX) (uh B2)⟩
 | true =>
  by_cases hn:u.nn < 2
  ·skip
   have nd:((u.nn:Int) < 2):=by omega
   have hok:opOk o=false:=by
    unfold opOk
    rw [if_neg (by omega),if_neg (by omega),if_pos ek,decide_eq_false (by omega),Bool.and_false]
   have HL:=hide (opL_no hok)
   have HE:=hide (opE_no hok)
   clear hok
   clear hP ew hnn hml hms hw0
   go_enter Tryz.func14,Tryz.ntmps14
   go_wp2_with (go_at_call 36;refine (uh HN).mono ?_;rintro e w2 ⟨rfl,b2⟩;have B2:=hide b2;clear x0 x1 x2 x3 x4 x5 x6;obtain ⟨x0,x1,x2,x3,x4,x5,x6⟩:=of7s (blk_onS (uh HXB) b2); clear b2)
   go_ret2
   exact ⟨by rw [uh HL,uh HE];rfl,below_sub (uh BX) (uh B2)⟩
  by_cases hn2:u.nn > 2
  ·skip
   have nd:¬ ((u.nn:Int) < 2):=by omega
   have nd2:((u.nn:Int) > 2):=by omega
   have nd3:(2:Int) < (u.nn:Int):=by omega
   have hok:opOk o=false:=by
    unfold opOk
    rw [if_neg (by omega),if_neg (by omega),if_pos ek,decide_eq_false (by omega),Bool.and_false]
   have HL:=hide (opL_no hok)
   have HE:=hide (opE_no hok)
   clear hok
   clear hP ew hnn hml hms hw0
   go_enter Tryz.func14,Tryz.ntmps14
   go_wp2_with (go_at_call 36;refine (uh HN).mono ?_;rintro e w2 ⟨rfl,b2⟩;have B2:=hide b2;clear x0 x1 x2 x3 x4 x5 x6;obtain ⟨x0,x1,x2,x3,x4,x5,x6⟩:=of7s (blk_onS (uh HXB) b2); clear b2)
   go_ret2
   exact ⟨by rw [uh HL,uh HE];rfl,below_sub (uh BX) (uh B2)⟩
  have nd:¬ ((u.nn:Int) < 2):=by omega
  have nd2:¬ ((u.nn:Int) > 2):=by omega
  have nd3:¬ (2:Int) < (u.nn:Int):=by omega
  have hok:opOk o=true:=by
   unfold opOk opNm
   rw [if_neg (by omega),if_pos (by omega)]
   rw [<- ew,decide_eq_true hw0,hP,if_neg (by omega),if_neg (by omega),if_pos ek,decide_eq_true (by omega)];rfl
  have HLB:=hide (opL_ok hok)
  have HE:=hide (opE_ok hok)
  have hlb:lineB o=opW 5 ++ numsB o.nums:=by unfold lineB;rw [if_neg (by omega),ek]
  have HLN:=hide hlb
  have HML:=hide hml
  have n1:¬ 9223372036854775807 < 3 + M.size:=by omega
  clear hok hml hms hP ew hnn hlb hw0
  go_enter Tryz.func14,Tryz.ntmps14
  go_wp2_with (first
   | (go_at_call 36;refine (uh HN).mono ?_;rintro e w2 ⟨rfl,b2⟩;have B2:=hide b2;clear x0 x1 x2 x3 x4 x5 x6;obtain ⟨x0,x1,x2,x3,x4,x5,x6⟩:=of7s (blk_onS (uh HXB) b2); clear b2)
   | (go_at_call 37;refine (uh HM _ (uh B2)).mono ?_;rintro e w3 ⟨rfl,b3⟩;have B3:=hide (below_sub (uh B2) b3);clear b3))
  go_ret2
  refine ⟨?_,below_sub (uh BX) (uh B3)⟩
  rw [uh HLB,uh HE]
  refine ret_tup2 ?_
  simp only [lb_app,uh HML,uh HLN]
  rfl
set_option maxHeartbeats 8000000 in
set_option maxRecDepth 100000 in
theorem refOp_6 {w:World} {u:Ou} {o:Sop} (hu:OpIn w u o) (hI:SopI o) (hz3:o.nums.length<=1000000000) (hk:u.kind=6) :
  Calls Tryz.prog 14 #[u.val] w fun e w'=>e=.returned (.tuple #[.string (opL o),.int .i64 (opE o)])/\Below w.heap.size w w':=by
 have mixed:Tryz.prog.follows .mixedOrders=true:=by kernel_rfl
 obtain ⟨X,HX⟩:∃ X,w.alloc (.cells #[.int .i64 u.kind,.int .i64 u.who,.int .i64 u.ck,.int .i64 u.id,.string u.text,.slice u.qe u.ne u.ce,.slice u.qn u.nn u.cn] 42)=X:=⟨_,rfl⟩
 have hwX:Below w.heap.size w X:=by rw [<- HX];exact (Below.refl _ _).alloc (Nat.le_refl _) _
 have hX:X.heap[w.heap.size]? = some (.cells #[.int .i64 u.kind,.int .i64 u.who,.int .i64 u.ck,.int .i64 u.id,.string u.text,.slice u.qe u.ne u.ce,.slice u.qn u.nn u.cn] 42 (0,0)):=by rw [<- HX];exact box_new _ _
 obtain ⟨x0,x1,x2,x3,x4,x5,x6⟩:=of7s hX
 have BX:=hide hwX
 have HXB:=hide hX
 have ew:=hu.who
 have hnn:=hu.nn
 have a0:(u.nn:Int)<=1000000000:=by omega
 have ek:o.kind=6:=by rw [<- hu.kind,hk]
 have c1:(u.kind == 1)=false:=by rw [hk];rfl
 have c2:(u.kind == 2)=false:=by rw [hk];rfl
 have c3:(u.kind == 3)=false:=by rw [hk];rfl
 have c4:(u.kind == 4)=false:=by rw [hk];rfl
 have c5:(u.kind == 5)=false:=by rw [hk];rfl
 have c6:(u.kind == 6)=true:=by rw [hk];rfl
 have hN:=refNone_any (hu.below hwX)
 unfold Ou.call at hN
 obtain ⟨P,hP⟩:∃ P,callNo o=P:=⟨_,rfl⟩
 rw [hP] at hN
 have HN:=hide hN
 have hM:=fun V (hb:Below X.heap.size X V)=>refNums_any u.qn u.cn o.nums V hI.nums hz3 ((hu.below hwX).below hb).nums
 rw [<- hu.nn] at hM
 obtain ⟨M,hMM⟩:∃ M:ByteArray,(⟨(numsB o.nums).toArray⟩:ByteArray)=M:=⟨_,rfl⟩
 rw [hMM] at hM
 have HM:=hide hM
 have hml:Lb M=numsB o.nums:=by rw [<- hMM,lb_mk]
 have hms:M.size<=22000000000:=by rw [size_lb hml];have:=numsB_len hI.nums;omega
 clear hN hX hwX hk hM hMM
 unfold Ou.val
 by_cases hw0:u.who=0
 rotate_left
 ·have w0d:(u.who != 0)=true:=by simpa using hw0
  have hok:opOk o=false:=by
   unfold opOk opNm
   rw [if_neg (by omega),if_pos (by omega)]
   rw [<- ew,decide_eq_false hw0] <;> simp
  have HL:=hide (opL_no hok)
  have HE:=hide (opE_no hok)
  clear hok
  clear hP ew hnn hml hms hw0
  go_enter Tryz.func14,Tryz.ntmps14
  go_wp2
  go_ret2
  exact ⟨by rw [uh HL,uh HE];rfl,uh BX⟩
 have w0d:(u.who != 0)=false:=by rw [hw0];rfl
 cases P with
 | false =>
  have hok:opOk o=false:=by
   unfold opOk opNm
   rw [if_neg (by omega),if_pos (by omega)]
   rw [hP] <;> simp
  have HL:=hide (opL_no hok)
  have HE:=hide (opE_no hok)
  clear hok
  clear hP ew hnn hml hms hw0
  go_enter Tryz.func14,Tryz.ntmps14
  go_wp2_with (go_at_call 36;refine (uh HN).mono ?_;rintro e w2 ⟨rfl,b2⟩;have B2:=hide b2;clear x0 x1 x2 x3 x4 x5 x6;obtain ⟨x0,x1,x2,x3,x4,x5,x6⟩:=of7s (blk_onS (uh HXB) b2); clear b2)
  go_ret2
  exact ⟨by rw [uh HL,uh HE];rfl,below_sub (uh BX) (uh B2)⟩
 | true =>
  have nd:¬ ((u.nn:Int) < 0):=by omega
  have nd2:¬ (u.nn:Int) > (u.nn:Int):=by omega
  have nd3:¬ (u.nn:Int) < (u.nn:Int):=nd2
  have hok:opOk o=true:=by
   unfold opOk opNm
   rw [if_neg (by omega),if_pos (by omega)]
   rw [<- ew,decide_eq_true hw0,hP,if_neg (by omega),if_neg (by omega),if_neg (by omega),decide_eq_true (by omega)];rfl
  have HLB:=hide (opL_ok hok)
  have HE:=hide (opE_ok hok)
  have hlb:lineB o=opW 6 ++ numsB o.nums:=by unfold lineB;rw [if_neg (by omega),ek]
  have HLN:=hide hlb
  have HML:=hide hml
  have n1:¬ 9223372036854775807 < 5 + M.size:=by omega
  clear hok hml hms hP ew hnn hlb hw0
  go_enter Tryz.func14,Tryz.ntmps14
  go_wp2_with (go_at_call 36;refine (uh HN).mono ?_;rintro e w2 ⟨rfl,b2⟩;have B2:=hide b2;clear x0 x1 x2 x3 x4 x5 x6;obtain ⟨x0,x1,x2,x3,x4,x5,x6⟩:=of7s (blk_onS (uh HXB) b2);have g0:=cell_regrown x0;have g1:=cell_regrown x1;have g2:=cell_regrown x2;have g3:=cell_regrown x3;have g4:=cell_regrown x4;have g5:=cell_regrown x5;have g6:=cell_regrown x6;clear b2)
  refine wp_region_quiet_below (by assumption) (by kernel_rfl) ?_
  repeat (go_big_quiet_step (fail))
  refine wpQuiet_nil ?_
  intro _ hw'
  obtain ⟨⟨dq,osq⟩,hw''⟩:=hw'
  subst hw''
  have B2R:=hide (below_tr (uh B2) ((below_regrown w2 dq osq).mono (uh B2).size))
  go_wp2_with (go_at_call 37;refine (uh HM _ (uh B2R)).mono ?_;rintro e w3 ⟨rfl,b3⟩;have B3:=hide (below_sub (uh B2R) b3);clear b3)
  go_ret2
  refine ⟨?_,below_sub (uh BX) (uh B3)⟩
  rw [uh HLB,uh HE]
  refine ret_tup2 ?_
  simp only [lb_app,uh HML,uh HLN]
  rfl
set_option maxHeartbeats 8000000 in
set_option maxRecDepth 100000 in
theorem refOp_7 {w:World} {u:Ou} {o:Sop} (hu:OpIn w u o) (hI:SopI o) (hz3:o.nums.length<=1000000000) (hk:u.kind=7) :
  Calls Tryz.prog 14 #[u.val] w fun e w'=>e=.returned (.tuple #[.string (opL o),.int .i64 (opE o)])/\Below w.heap.size w w':=by
 have mixed:Tryz.prog.follows .mixedOrders=true:=by kernel_rfl
 obtain ⟨X,HX⟩:∃ X,w.alloc (.cells #[.int .i64 u.kind,.int .i64 u.who,.int .i64 u.ck,.int .i64 u.id,.string u.text,.slice u.qe u.ne u.ce,.slice u.qn u.nn u.cn] 42)=X:=⟨_,rfl⟩
 have hwX:Below w.heap.size w X:=by rw [<- HX];exact (Below.refl _ _).alloc (Nat.le_refl _) _
 have hX:X.heap[w.heap.size]? = some (.cells #[.int .i64 u.kind,.int .i64 u.who,.int .i64 u.ck,.int .i64 u.id,.string u.text,.slice u.qe u.ne u.ce,.slice u.qn u.nn u.cn] 42 (0,0)):=by rw [<- HX];exact box_new _ _
 obtain ⟨x0,x1,x2,x3,x4,x5,x6⟩:=of7s hX
 have BX:=hide hwX
 have HXB:=hide hX
 have ew:=hu.who
 have hnn:=hu.nn
 have a0:(u.nn:Int)<=1000000000:=by omega
 have ek:o.kind=7:=by rw [<- hu.kind,hk]
 have c1:(u.kind == 1)=false:=by rw [hk];rfl
 have c2:(u.kind == 2)=false:=by rw [hk];rfl
 have c3:(u.kind == 3)=false:=by rw [hk];rfl
 have c4:(u.kind == 4)=false:=by rw [hk];rfl
 have c5:(u.kind == 5)=false:=by rw [hk];rfl
 have c6:(u.kind == 6)=false:=by rw [hk];rfl
 have c7:(u.kind == 7)=true:=by rw [hk];rfl
 have hN:=refNone_any (hu.below hwX)
 unfold Ou.call at hN
 obtain ⟨P,hP⟩:∃ P,callNo o=P:=⟨_,rfl⟩
 rw [hP] at hN
 have HN:=hide hN
 have hM:=fun V (hb:Below X.heap.size X V)=>refNums_any u.qn u.cn o.nums V hI.nums hz3 ((hu.below hwX).below hb).nums
 rw [<- hu.nn] at hM
 obtain ⟨M,hMM⟩:∃ M:ByteArray,(⟨(numsB o.nums).toArray⟩:ByteArray)=M:=⟨_,rfl⟩
 rw [hMM] at hM
 have HM:=hide hM
 have hml:Lb M=numsB o.nums:=by rw [<- hMM,lb_mk]
 have hms:M.size<=22000000000:=by rw [size_lb hml];have:=numsB_len hI.nums;omega
 clear hN hX hwX hk hM hMM
 unfold Ou.val
 by_cases hw0:u.who=0
 rotate_left
 ·have w0d:(u.who != 0)=true:=by simpa using hw0
  have hok:opOk o=false:=by
   unfold opOk opNm
   rw [if_neg (by omega),if_neg (by omega)]
   rw [<- ew,decide_eq_false hw0] <;> simp
  have HL:=hide (opL_no hok)
  have HE:=hide (opE_no hok)
  clear hok
  clear hP ew hnn hml hms hw0
  go_enter Tryz.func14,Tryz.ntmps14
  go_wp2
  go_ret2
  exact ⟨by rw [uh HL,uh HE];rfl,uh BX⟩
 have w0d:(u.who != 0)=false:=by rw [hw0];rfl
 cases P with
 | false =>
  have hok:opOk o=false:=by
   unfold opOk opNm
   rw [if_neg (by omega),if_neg (by omega)]
   rw [hP] <;> simp
  have HL:=hide (opL_no hok)
  have HE:=hide (opE_no hok)
  clear hok
  clear hP ew hnn hml hms hw0
  go_enter Tryz.func14,Tryz.ntmps14
  go_wp2_with (go_at_call 36;refine (uh HN).mono ?_;rintro e w2 ⟨rfl,b2⟩;have B2:=hide b2;clear x0 x1 x2 x3 x4 x5 x6;obtain ⟨x0,x1,x2,x3,x4,x5,x6⟩:=of7s (blk_onS (uh HXB) b2); clear b2)
  go_ret2
  exact ⟨by rw [uh HL,uh HE];rfl,below_sub (uh BX) (uh B2)⟩
 | true =>
  by_cases hn:0 < u.nn
  ·skip
   have nd:((u.nn:Int) > 0):=by omega
   have nd2:(0:Int) < (u.nn:Int):=by omega
   have nd3:¬ (u.nn:Int) < 0:=by omega
   have hok:opOk o=false:=by
    unfold opOk opNm
    rw [if_neg (by omega),if_neg (by omega)]
    rw [show o.nums.isEmpty=false by rw [List.isEmpty_eq_false_iff];intro h;rw [h] at hnn;simp at hnn;omega] <;> simp
   have HL:=hide (opL_no hok)
   have HE:=hide (opE_no hok)
   clear hok
   clear hP ew hnn hml hms hw0
   go_enter Tryz.func14,Tryz.ntmps14
   go_wp2_with (go_at_call 36;refine (uh HN).mono ?_;rintro e w2 ⟨rfl,b2⟩;have B2:=hide b2;clear x0 x1 x2 x3 x4 x5 x6;obtain ⟨x0,x1,x2,x3,x4,x5,x6⟩:=of7s (blk_onS (uh HXB) b2); clear b2)
   go_ret2
   exact ⟨by rw [uh HL,uh HE];rfl,below_sub (uh BX) (uh B2)⟩
  have nd:¬ ((u.nn:Int) > 0):=by omega
  have nd2:¬ (0:Int) < (u.nn:Int):=by omega
  have nd3:¬ (u.nn:Int) < 0:=by omega
  have hok:opOk o=true:=by
   unfold opOk opNm
   rw [if_neg (by omega),if_neg (by omega)]
   rw [<- ew,decide_eq_true hw0,hP,show o.nums.isEmpty=true by rw [List.isEmpty_iff,<- List.length_eq_zero_iff];omega,if_neg (by omega),if_neg (by omega),if_neg (by omega),decide_eq_true (by omega)];rfl
  have HLB:=hide (opL_ok hok)
  have HE:=hide (opE_ok hok)
  have hlb:lineB o=opW 7 ++ numsB o.nums:=by unfold lineB;rw [if_neg (by omega),ek]
  have HLN:=hide hlb
  have HML:=hide hml
  have n1:¬ 9223372036854775807 < 4 + M.size:=by omega
  clear hok hml hms hP ew hnn hlb hw0
  go_enter Tryz.func14,Tryz.ntmps14
  go_wp2_with (first
   | (go_at_call 36;refine (uh HN).mono ?_;rintro e w2 ⟨rfl,b2⟩;have B2:=hide b2;clear x0 x1 x2 x3 x4 x5 x6;obtain ⟨x0,x1,x2,x3,x4,x5,x6⟩:=of7s (blk_onS (uh HXB) b2); clear b2)
   | (go_at_call 37;refine (uh HM _ (uh B2)).mono ?_;rintro e w3 ⟨rfl,b3⟩;have B3:=hide (below_sub (uh B2) b3);clear b3))
  go_ret2
  refine ⟨?_,below_sub (uh BX) (uh B3)⟩
  rw [uh HLB,uh HE]
  refine ret_tup2 ?_
  simp only [lb_app,uh HML,uh HLN]
  rfl
theorem refOp_any {w:World} {u:Ou} {o:Sop} (hu:OpIn w u o) (hI:SopI o) (hz:o.text.size<=1000000000) (hz2:o.ev.length<=1000000000) (hz3:o.nums.length<=1000000000) :
  Calls Tryz.prog 14 #[u.val] w fun e w'=>e=.returned (.tuple #[.string (opL o),.int .i64 (opE o)])/\Below w.heap.size w w':=by
 by_cases h1:u.kind=1
 ·exact refOp_1 hu hI hz hz2 hz3 h1
 by_cases h2:u.kind=2
 ·exact refOp_2 hu hI hz3 h2
 by_cases h3:u.kind=3
 ·exact refOp_3 hu hI hz3 h3
 by_cases h4:u.kind=4
 ·exact refOp_4 hu hI hz3 h4
 by_cases h5:u.kind=5
 ·exact refOp_5 hu hI hz3 h5
 by_cases h6:u.kind=6
 ·exact refOp_6 hu hI hz3 h6
 by_cases h7:u.kind=7
 ·exact refOp_7 hu hI hz3 h7
 exact refOp_0 hu hz3 h1 h2 h3 h4 h5 h6 h7
end Go.Proofs.YtdgoibnndfibnaaGreatDoor

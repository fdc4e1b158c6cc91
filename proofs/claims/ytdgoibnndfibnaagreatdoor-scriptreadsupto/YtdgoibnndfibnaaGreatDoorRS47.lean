/- The document's call. -/
import Derived.Test.YtdgoibnndfibnaaGreatDoorRZaz
namespace Go.Proofs.YtdgoibnndfibnaaGreatDoor
open Go.RowKit Go.Sort
theorem Tryz.enters35:∀ args w,(callFunc 35 args).run Tryz.prog w=.ok (.enter 35 args) w:=enters_of Tryz.func35 (by kernel_rfl) rfl
theorem Tryz.enters67:∀ args w,(callFunc 67 args).run Tryz.prog w=.ok (.enter 67 args) w:=enters_of Tryz.func67 (by kernel_rfl) rfl
theorem ne_emp {w:World} {u:Ou} {o:Sop} (hu:OpIn w u o):(((u.ne:Int)) == 0)=o.ev.isEmpty:=by
 rw [hu.ne]
 cases o.ev with
 | nil=>rfl
 | cons a l=>simp;omega
theorem quoteB_sz (s:ByteArray):(quoteB s).size<=4 * s.size + 2:=by
 have e:(quoteB s).size=(quoteL s.data.toList).length:=by simp [quoteB,ByteArray.size]
 have:=escs_le s.data.toList
 simp only [Array.length_toList] at this
 have h4:s.data.size=s.size:=rfl
 simp only [quoteL,List.cons_append,List.length_cons,List.length_append,List.length_nil] at e
 omega
set_option maxHeartbeats 8000000 in
set_option maxRecDepth 100000 in
theorem refCall_0 {w:World} {u:Ou} {o:Sop} (hu:OpIn w u o) (hI:SopI o) (hz:o.text.size<=1000000000)  (k1:¬ u.ck=1) (k2:¬ u.ck=2) (k3:¬ u.ck=3) (k4:¬ u.ck=4) :
  Calls Tryz.prog 34 #[u.call] w fun e w'=>(∃ A:ByteArray,e=.returned (.tuple #[.string A,.bool (callOk o)])/\(callOk o=true->Lb A=callB o))/\Below w.heap.size w w':=by
 have mixed:Tryz.prog.follows .mixedOrders=true:=by kernel_rfl
 obtain ⟨X,HX⟩:∃ X,w.alloc (.cells #[.int .i64 u.ck,.int .i64 u.id,.string u.text,.slice u.qe u.ne u.ce] 39)=X:=⟨_,rfl⟩
 have hwX:Below w.heap.size w X:=by rw [<- HX];exact (Below.refl _ _).alloc (Nat.le_refl _) _
 have hX:X.heap[w.heap.size]? = some (.cells #[.int .i64 u.ck,.int .i64 u.id,.string u.text,.slice u.qe u.ne u.ce] 39 (0,0)):=by rw [<- HX];exact box_new _ _
 obtain ⟨x0,x1,x2,x3⟩:=of4s hX
 have g0:=cell_regrown x0
 have g1:=cell_regrown x1
 have g2:=cell_regrown x2
 have g3:=cell_regrown x3
 have BX:=hide hwX
 have HXB:=hide hX
 have en67:=Tryz.enters67
 have en35:=Tryz.enters35
 obtain ⟨Q,hQ⟩:∃ Q,quoteB u.text=Q:=⟨_,rfl⟩
 have hql:Lb Q=quoteL (Lb o.text):=by rw [<- hQ,<- hu.text];exact quoteB_list u.text
 have hqs:Q.size<=4 * u.text.size + 2:=by rw [<- hQ];exact quoteB_sz u.text
 have f67:=fun V=>refQuote_any u.text V (by rw [hu.text];omega)
 rw [hQ] at f67
 obtain ⟨D,hD⟩:∃ D,itoaB u.id=D:=⟨_,rfl⟩
 have hdl:Lb D=Go.Lib.itoa o.id:=by rw [<- hD,<- hu.id];exact itoaB_list u.id
 have hid:I64 u.id:=by rw [hu.id];exact hI.id
 have hds:D.size<=21:=by rw [<- hD];exact itoaB_size u.id hid
 have f35:=fun V=>decimal_any u.id V hid.1 hid.2
 rw [hD] at f35
 have hzt:u.text.size<=1000000000:=by rw [hu.text];exact hz
 have hE:((u.ne:Int) == 0)=o.ev.isEmpty:=ne_emp hu
 have hT:(u.text.toList == [])=decide (o.text.size=0):=by rw [size_emp,hu.text]
 have ei:=hu.id
 have et:=hu.text
 obtain ⟨E,hEE⟩:∃ E,o.ev.isEmpty=E:=⟨_,rfl⟩
 rw [hEE] at hE
 have ek:¬ o.ck=1/\¬ o.ck=2/\¬ o.ck=3/\¬ o.ck=4:=by rw [<- hu.ck];exact ⟨k1,k2,k3,k4⟩
 have c1:(u.ck == 1)=false:=by simpa using k1
 have c2:(u.ck == 2)=false:=by simpa using k2
 have c3:(u.ck == 3)=false:=by simpa using k3
 have c4:(u.ck == 4)=false:=by simpa using k4
 clear hQ hD hid hX hwX hu hI k1 k2 k3 k4
 unfold Ou.call
 by_cases i1:1<=u.id
 ·have hc:callOk o=false:=by
   unfold callOk
   rw [if_neg ek.1,if_neg ek.2.1,if_neg ek.2.2.1,if_neg ek.2.2.2,Bool.and_false]
  have i1d:decide (u.id ≥ 1)=true:=by simpa using i1
  have i1e:decide (1<=u.id)=true:=by simpa using i1
  obtain ⟨B4,hB4⟩:∃ B,decide (u.id<=1099511627776)=B:=⟨_,rfl⟩
  obtain ⟨B5,hB5⟩:∃ B,decide ((u.text.size:Int)<=4096)=B:=⟨_,rfl⟩
  clear f67 f35 en67 en35 hE hT hEE hql hdl ei et
  have HC:=hide hc
  clear hc
  go_enter Tryz.func34,Tryz.ntmps34
  go_wp2
  go_ret2
  exact ⟨⟨_,by rw [uh HC];rfl,fun h=>by rw [uh HC] at h;cases h⟩,uh BX⟩
 ·have hc:callOk o=false:=by
   unfold callOk
   rw [if_neg ek.1,if_neg ek.2.1,if_neg ek.2.2.1,if_neg ek.2.2.2,Bool.and_false]
  have i1d:decide (u.id ≥ 1)=false:=by simpa using i1
  have i1e:decide (1<=u.id)=false:=by simpa using i1
  obtain ⟨B5,hB5⟩:∃ B,decide ((u.text.size:Int)<=4096)=B:=⟨_,rfl⟩
  clear f67 f35 en67 en35 hE hT hEE hql hdl ei et
  have HC:=hide hc
  clear hc
  go_enter Tryz.func34,Tryz.ntmps34
  go_wp2
  go_ret2
  exact ⟨⟨_,by rw [uh HC];rfl,fun h=>by rw [uh HC] at h;cases h⟩,uh BX⟩
set_option maxHeartbeats 8000000 in
set_option maxRecDepth 100000 in
theorem refCall_1 {w:World} {u:Ou} {o:Sop} (hu:OpIn w u o) (hI:SopI o) (hz:o.text.size<=1000000000)  (hk:u.ck=1) :
  Calls Tryz.prog 34 #[u.call] w fun e w'=>(∃ A:ByteArray,e=.returned (.tuple #[.string A,.bool (callOk o)])/\(callOk o=true->Lb A=callB o))/\Below w.heap.size w w':=by
 have mixed:Tryz.prog.follows .mixedOrders=true:=by kernel_rfl
 obtain ⟨X,HX⟩:∃ X,w.alloc (.cells #[.int .i64 u.ck,.int .i64 u.id,.string u.text,.slice u.qe u.ne u.ce] 39)=X:=⟨_,rfl⟩
 have hwX:Below w.heap.size w X:=by rw [<- HX];exact (Below.refl _ _).alloc (Nat.le_refl _) _
 have hX:X.heap[w.heap.size]? = some (.cells #[.int .i64 u.ck,.int .i64 u.id,.string u.text,.slice u.qe u.ne u.ce] 39 (0,0)):=by rw [<- HX];exact box_new _ _
 obtain ⟨x0,x1,x2,x3⟩:=of4s hX
 have g0:=cell_regrown x0
 have g1:=cell_regrown x1
 have g2:=cell_regrown x2
 have g3:=cell_regrown x3
 have BX:=hide hwX
 have HXB:=hide hX
 have en67:=Tryz.enters67
 have en35:=Tryz.enters35
 obtain ⟨Q,hQ⟩:∃ Q,quoteB u.text=Q:=⟨_,rfl⟩
 have hql:Lb Q=quoteL (Lb o.text):=by rw [<- hQ,<- hu.text];exact quoteB_list u.text
 have hqs:Q.size<=4 * u.text.size + 2:=by rw [<- hQ];exact quoteB_sz u.text
 have f67:=fun V=>refQuote_any u.text V (by rw [hu.text];omega)
 rw [hQ] at f67
 obtain ⟨D,hD⟩:∃ D,itoaB u.id=D:=⟨_,rfl⟩
 have hdl:Lb D=Go.Lib.itoa o.id:=by rw [<- hD,<- hu.id];exact itoaB_list u.id
 have hid:I64 u.id:=by rw [hu.id];exact hI.id
 have hds:D.size<=21:=by rw [<- hD];exact itoaB_size u.id hid
 have f35:=fun V=>decimal_any u.id V hid.1 hid.2
 rw [hD] at f35
 have hzt:u.text.size<=1000000000:=by rw [hu.text];exact hz
 have hE:((u.ne:Int) == 0)=o.ev.isEmpty:=ne_emp hu
 have hT:(u.text.toList == [])=decide (o.text.size=0):=by rw [size_emp,hu.text]
 have ei:=hu.id
 have et:=hu.text
 obtain ⟨E,hEE⟩:∃ E,o.ev.isEmpty=E:=⟨_,rfl⟩
 rw [hEE] at hE
 have ek:o.ck=1:=by rw [<- hu.ck,hk]
 have c1:(u.ck == 1)=true:=by rw [hk];rfl
 clear hQ hD hid hX hwX hu hI hk
 unfold Ou.call
 by_cases h0:u.id=0
 ·skip
  by_cases i1:1<=u.id
  ·skip
   exact absurd i1 (by omega)
  ·skip
   by_cases ht:u.text.size<=4096
   ·skip
    have i1d:decide (u.id ≥ 1)=false:=by simpa using i1
    have i1e:decide (1<=u.id)=false:=by simpa using i1
    have t1:(u.text.size:Int)<=4096:=by omega
    have t1d:decide ((u.text.size:Int)<=4096)=true:=decide_eq_true t1
    have z0:(u.id == 0)=true:=by simpa using h0
    have hc:callOk o=E:=by
     unfold callOk callNm txOk
     rw [if_pos ek,if_pos ek,hEE,<- ei,<- et]
     rw [decide_eq_true h0,decide_eq_true ht] <;> simp
    have n1:¬ 9223372036854775807 < 4 + Q.size:=by omega
    have hcb:callB o=callW 1 ++ 32 :: quoteL (Lb o.text):=by unfold callB;rw [if_pos ek,ek]
    have HQL:=hide hql
    have HDL:=hide hdl
    have HCB:=hide hcb
    have HC:=hide hc
    clear hc
    clear hql hdl hcb ei et hEE hT
    clear h0
    go_enter Tryz.func34,Tryz.ntmps34
    go_wp2
    refine wp_region_quiet_below (by assumption) (by kernel_rfl) ?_
    repeat (go_big_quiet_step (first | (go_at_fn 67;refine Calls.regrown_of (f67 _)) | (go_at_fn 35;refine Calls.regrown_of (f35 _))))
    refine wpQuiet_nil ?_
    intro _ hw'
    obtain ⟨⟨dq,osq⟩,hw''⟩:=hw'
    subst hw''
    go_wp2
    go_ret2
    exact ⟨⟨_,by rw [uh HC];rfl,fun _=>by simp only [lb_app,uh HQL,uh HCB];rfl⟩,below_tr (uh BX) ((below_regrown _ _ _).mono (uh BX).size)⟩
   ·skip
    have i1d:decide (u.id ≥ 1)=false:=by simpa using i1
    have i1e:decide (1<=u.id)=false:=by simpa using i1
    have t1:¬ (u.text.size:Int)<=4096:=by omega
    have t1d:decide ((u.text.size:Int)<=4096)=false:=decide_eq_false t1
    have z0:(u.id == 0)=true:=by simpa using h0
    have hc:callOk o=false:=by
     unfold callOk callNm txOk
     rw [if_pos ek,if_pos ek,hEE,<- ei,<- et]
     rw [decide_eq_false ht] <;> simp
    have n1:¬ 9223372036854775807 < 4 + Q.size:=by omega
    have hcb:callB o=callW 1 ++ 32 :: quoteL (Lb o.text):=by unfold callB;rw [if_pos ek,ek]
    have HQL:=hide hql
    have HDL:=hide hdl
    have HCB:=hide hcb
    have HC:=hide hc
    clear hc
    clear hql hdl hcb ei et hEE hT
    clear h0
    go_enter Tryz.func34,Tryz.ntmps34
    go_wp2
    refine wp_region_quiet_below (by assumption) (by kernel_rfl) ?_
    repeat (go_big_quiet_step (first | (go_at_fn 67;refine Calls.regrown_of (f67 _)) | (go_at_fn 35;refine Calls.regrown_of (f35 _))))
    refine wpQuiet_nil ?_
    intro _ hw'
    obtain ⟨⟨dq,osq⟩,hw''⟩:=hw'
    subst hw''
    go_wp2
    go_ret2
    exact ⟨⟨_,by rw [uh HC];rfl,fun h=>by rw [uh HC] at h;cases h⟩,below_tr (uh BX) ((below_regrown _ _ _).mono (uh BX).size)⟩
 ·skip
  by_cases i1:1<=u.id
  ·skip
   by_cases ht:u.text.size<=4096
   ·skip
    have i1d:decide (u.id ≥ 1)=true:=by simpa using i1
    have i1e:decide (1<=u.id)=true:=by simpa using i1
    have t1:(u.text.size:Int)<=4096:=by omega
    have t1d:decide ((u.text.size:Int)<=4096)=true:=decide_eq_true t1
    obtain ⟨B4,hB4⟩:∃ B,decide (u.id<=1099511627776)=B:=⟨_,rfl⟩
    have z0:(u.id == 0)=false:=by simpa using h0
    have hc:callOk o=false:=by
     unfold callOk callNm txOk
     rw [if_pos ek,if_pos ek,hEE,<- ei,<- et]
     rw [decide_eq_false h0] <;> simp
    have n1:¬ 9223372036854775807 < 4 + Q.size:=by omega
    have hcb:callB o=callW 1 ++ 32 :: quoteL (Lb o.text):=by unfold callB;rw [if_pos ek,ek]
    have HQL:=hide hql
    have HDL:=hide hdl
    have HCB:=hide hcb
    have HC:=hide hc
    clear hc
    clear hql hdl hcb ei et hEE hT
    clear h0
    go_enter Tryz.func34,Tryz.ntmps34
    go_wp2
    refine wp_region_quiet_below (by assumption) (by kernel_rfl) ?_
    repeat (go_big_quiet_step (first | (go_at_fn 67;refine Calls.regrown_of (f67 _)) | (go_at_fn 35;refine Calls.regrown_of (f35 _))))
    refine wpQuiet_nil ?_
    intro _ hw'
    obtain ⟨⟨dq,osq⟩,hw''⟩:=hw'
    subst hw''
    go_wp2
    go_ret2
    exact ⟨⟨_,by rw [uh HC];rfl,fun h=>by rw [uh HC] at h;cases h⟩,below_tr (uh BX) ((below_regrown _ _ _).mono (uh BX).size)⟩
   ·skip
    have i1d:decide (u.id ≥ 1)=true:=by simpa using i1
    have i1e:decide (1<=u.id)=true:=by simpa using i1
    have t1:¬ (u.text.size:Int)<=4096:=by omega
    have t1d:decide ((u.text.size:Int)<=4096)=false:=decide_eq_false t1
    obtain ⟨B4,hB4⟩:∃ B,decide (u.id<=1099511627776)=B:=⟨_,rfl⟩
    have z0:(u.id == 0)=false:=by simpa using h0
    have hc:callOk o=false:=by
     unfold callOk callNm txOk
     rw [if_pos ek,if_pos ek,hEE,<- ei,<- et]
     rw [decide_eq_false h0] <;> simp
    have n1:¬ 9223372036854775807 < 4 + Q.size:=by omega
    have hcb:callB o=callW 1 ++ 32 :: quoteL (Lb o.text):=by unfold callB;rw [if_pos ek,ek]
    have HQL:=hide hql
    have HDL:=hide hdl
    have HCB:=hide hcb
    have HC:=hide hc
    clear hc
    clear hql hdl hcb ei et hEE hT
    clear h0
    go_enter Tryz.func34,Tryz.ntmps34
    go_wp2
    refine wp_region_quiet_below (by assumption) (by kernel_rfl) ?_
    repeat (go_big_quiet_step (first | (go_at_fn 67;refine Calls.regrown_of (f67 _)) | (go_at_fn 35;refine Calls.regrown_of (f35 _))))
    refine wpQuiet_nil ?_
    intro _ hw'
    obtain ⟨⟨dq,osq⟩,hw''⟩:=hw'
    subst hw''
    go_wp2
    go_ret2
    exact ⟨⟨_,by rw [uh HC];rfl,fun h=>by rw [uh HC] at h;cases h⟩,below_tr (uh BX) ((below_regrown _ _ _).mono (uh BX).size)⟩
  ·skip
   by_cases ht:u.text.size<=4096
   ·skip
    have i1d:decide (u.id ≥ 1)=false:=by simpa using i1
    have i1e:decide (1<=u.id)=false:=by simpa using i1
    have t1:(u.text.size:Int)<=4096:=by omega
    have t1d:decide ((u.text.size:Int)<=4096)=true:=decide_eq_true t1
    have z0:(u.id == 0)=false:=by simpa using h0
    have hc:callOk o=false:=by
     unfold callOk callNm txOk
     rw [if_pos ek,if_pos ek,hEE,<- ei,<- et]
     rw [decide_eq_false h0] <;> simp
    have n1:¬ 9223372036854775807 < 4 + Q.size:=by omega
    have hcb:callB o=callW 1 ++ 32 :: quoteL (Lb o.text):=by unfold callB;rw [if_pos ek,ek]
    have HQL:=hide hql
    have HDL:=hide hdl
    have HCB:=hide hcb
    have HC:=hide hc
    clear hc
    clear hql hdl hcb ei et hEE hT
    clear h0
    go_enter Tryz.func34,Tryz.ntmps34
    go_wp2
    refine wp_region_quiet_below (by assumption) (by kernel_rfl) ?_
    repeat (go_big_quiet_step (first | (go_at_fn 67;refine Calls.regrown_of (f67 _)) | (go_at_fn 35;refine Calls.regrown_of (f35 _))))
    refine wpQuiet_nil ?_
    intro _ hw'
    obtain ⟨⟨dq,osq⟩,hw''⟩:=hw'
    subst hw''
    go_wp2
    go_ret2
    exact ⟨⟨_,by rw [uh HC];rfl,fun h=>by rw [uh HC] at h;cases h⟩,below_tr (uh BX) ((below_regrown _ _ _).mono (uh BX).size)⟩
   ·skip
    have i1d:decide (u.id ≥ 1)=false:=by simpa using i1
    have i1e:decide (1<=u.id)=false:=by simpa using i1
    have t1:¬ (u.text.size:Int)<=4096:=by omega
    have t1d:decide ((u.text.size:Int)<=4096)=false:=decide_eq_false t1
    have z0:(u.id == 0)=false:=by simpa using h0
    have hc:callOk o=false:=by
     unfold callOk callNm txOk
     rw [if_pos ek,if_pos ek,hEE,<- ei,<- et]
     rw [decide_eq_false h0] <;> simp
    have n1:¬ 9223372036854775807 < 4 + Q.size:=by omega
    have hcb:callB o=callW 1 ++ 32 :: quoteL (Lb o.text):=by unfold callB;rw [if_pos ek,ek]
    have HQL:=hide hql
    have HDL:=hide hdl
    have HCB:=hide hcb
    have HC:=hide hc
    clear hc
    clear hql hdl hcb ei et hEE hT
    clear h0
    go_enter Tryz.func34,Tryz.ntmps34
    go_wp2
    refine wp_region_quiet_below (by assumption) (by kernel_rfl) ?_
    repeat (go_big_quiet_step (first | (go_at_fn 67;refine Calls.regrown_of (f67 _)) | (go_at_fn 35;refine Calls.regrown_of (f35 _))))
    refine wpQuiet_nil ?_
    intro _ hw'
    obtain ⟨⟨dq,osq⟩,hw''⟩:=hw'
    subst hw''
    go_wp2
    go_ret2
    exact ⟨⟨_,by rw [uh HC];rfl,fun h=>by rw [uh HC] at h;cases h⟩,below_tr (uh BX) ((below_regrown _ _ _).mono (uh BX).size)⟩
set_option maxHeartbeats 8000000 in
set_option maxRecDepth 100000 in
theorem refCall_2 {w:World} {u:Ou} {o:Sop} (hu:OpIn w u o) (hI:SopI o) (hz:o.text.size<=1000000000)  (hk:u.ck=2) :
  Calls Tryz.prog 34 #[u.call] w fun e w'=>(∃ A:ByteArray,e=.returned (.tuple #[.string A,.bool (callOk o)])/\(callOk o=true->Lb A=callB o))/\Below w.heap.size w w':=by
 have mixed:Tryz.prog.follows .mixedOrders=true:=by kernel_rfl
 obtain ⟨X,HX⟩:∃ X,w.alloc (.cells #[.int .i64 u.ck,.int .i64 u.id,.string u.text,.slice u.qe u.ne u.ce] 39)=X:=⟨_,rfl⟩
 have hwX:Below w.heap.size w X:=by rw [<- HX];exact (Below.refl _ _).alloc (Nat.le_refl _) _
 have hX:X.heap[w.heap.size]? = some (.cells #[.int .i64 u.ck,.int .i64 u.id,.string u.text,.slice u.qe u.ne u.ce] 39 (0,0)):=by rw [<- HX];exact box_new _ _
 obtain ⟨x0,x1,x2,x3⟩:=of4s hX
 have g0:=cell_regrown x0
 have g1:=cell_regrown x1
 have g2:=cell_regrown x2
 have g3:=cell_regrown x3
 have BX:=hide hwX
 have HXB:=hide hX
 have en67:=Tryz.enters67
 have en35:=Tryz.enters35
 obtain ⟨Q,hQ⟩:∃ Q,quoteB u.text=Q:=⟨_,rfl⟩
 have hql:Lb Q=quoteL (Lb o.text):=by rw [<- hQ,<- hu.text];exact quoteB_list u.text
 have hqs:Q.size<=4 * u.text.size + 2:=by rw [<- hQ];exact quoteB_sz u.text
 have f67:=fun V=>refQuote_any u.text V (by rw [hu.text];omega)
 rw [hQ] at f67
 obtain ⟨D,hD⟩:∃ D,itoaB u.id=D:=⟨_,rfl⟩
 have hdl:Lb D=Go.Lib.itoa o.id:=by rw [<- hD,<- hu.id];exact itoaB_list u.id
 have hid:I64 u.id:=by rw [hu.id];exact hI.id
 have hds:D.size<=21:=by rw [<- hD];exact itoaB_size u.id hid
 have f35:=fun V=>decimal_any u.id V hid.1 hid.2
 rw [hD] at f35
 have hzt:u.text.size<=1000000000:=by rw [hu.text];exact hz
 have hE:((u.ne:Int) == 0)=o.ev.isEmpty:=ne_emp hu
 have hT:(u.text.toList == [])=decide (o.text.size=0):=by rw [size_emp,hu.text]
 have ei:=hu.id
 have et:=hu.text
 obtain ⟨E,hEE⟩:∃ E,o.ev.isEmpty=E:=⟨_,rfl⟩
 rw [hEE] at hE
 have ek:o.ck=2:=by rw [<- hu.ck,hk]
 have c1:(u.ck == 1)=false:=by rw [hk];rfl
 have c2:(u.ck == 2)=true:=by rw [hk];rfl
 clear hQ hD hid hX hwX hu hI hk
 unfold Ou.call
 by_cases i1:1<=u.id
 ·skip
  by_cases i2:u.id<=1099511627776
  ·skip
   by_cases ht:u.text.size<=4096
   ·skip
    have i1d:decide (u.id ≥ 1)=true:=by simpa using i1
    have i1e:decide (1<=u.id)=true:=by simpa using i1
    have i2d:decide (u.id<=1099511627776)=true:=by simpa using i2
    have t1:(u.text.size:Int)<=4096:=by omega
    have t1d:decide ((u.text.size:Int)<=4096)=true:=decide_eq_true t1
    have hc:callOk o=E:=by
     unfold callOk callNm txOk idOk
     rw [if_neg (by omega),if_pos ek,if_neg (by omega),if_pos ek,hEE,<- ei,<- et]
     rw [decide_eq_true i1,decide_eq_true i2,decide_eq_true ht] <;> simp
    have n1:¬ 9223372036854775807 < 8 + D.size:=by omega
    have n2:¬ 9223372036854775807 < 8 + D.size + 1:=by omega
    have n3:¬ 9223372036854775807 < 8 + D.size + 1 + Q.size:=by omega
    have hcb:callB o=callW 2 ++ numsB [o.id] ++ 32 :: quoteL (Lb o.text):=by unfold callB;rw [if_neg (by omega),if_pos ek,ek]
    have HQL:=hide hql
    have HDL:=hide hdl
    have HCB:=hide hcb
    have HC:=hide hc
    clear hc
    clear hql hdl hcb ei et hEE hT
    go_enter Tryz.func34,Tryz.ntmps34
    go_wp2
    refine wp_region_quiet_below (by assumption) (by kernel_rfl) ?_
    repeat (go_big_quiet_step (first | (go_at_fn 67;refine Calls.regrown_of (f67 _)) | (go_at_fn 35;refine Calls.regrown_of (f35 _))))
    refine wpQuiet_nil ?_
    intro _ hw'
    obtain ⟨⟨dq,osq⟩,hw''⟩:=hw'
    subst hw''
    go_wp2
    go_ret2
    exact ⟨⟨_,by rw [uh HC];rfl,fun _=>by simp only [lb_app,uh HQL,uh HDL,uh HCB];simp [Lb,numsB,tailW,callW,wReplace]⟩,below_tr (uh BX) ((below_regrown _ _ _).mono (uh BX).size)⟩
   ·skip
    have i1d:decide (u.id ≥ 1)=true:=by simpa using i1
    have i1e:decide (1<=u.id)=true:=by simpa using i1
    have i2d:decide (u.id<=1099511627776)=true:=by simpa using i2
    have t1:¬ (u.text.size:Int)<=4096:=by omega
    have t1d:decide ((u.text.size:Int)<=4096)=false:=decide_eq_false t1
    have hc:callOk o=false:=by
     unfold callOk callNm txOk idOk
     rw [if_neg (by omega),if_pos ek,if_neg (by omega),if_pos ek,hEE,<- ei,<- et]
     rw [decide_eq_false ht] <;> simp
    have n1:¬ 9223372036854775807 < 8 + D.size:=by omega
    have n2:¬ 9223372036854775807 < 8 + D.size + 1:=by omega
    have n3:¬ 9223372036854775807 < 8 + D.size + 1 + Q.size:=by omega
    have hcb:callB o=callW 2 ++ numsB [o.id] ++ 32 :: quoteL (Lb o.text):=by unfold callB;rw [if_neg (by omega),if_pos ek,ek]
    have HQL:=hide hql
    have HDL:=hide hdl
    have HCB:=hide hcb
    have HC:=hide hc
    clear hc
    clear hql hdl hcb ei et hEE hT
    go_enter Tryz.func34,Tryz.ntmps34
    go_wp2
    refine wp_region_quiet_below (by assumption) (by kernel_rfl) ?_
    repeat (go_big_quiet_step (first | (go_at_fn 67;refine Calls.regrown_of (f67 _)) | (go_at_fn 35;refine Calls.regrown_of (f35 _))))
    refine wpQuiet_nil ?_
    intro _ hw'
    obtain ⟨⟨dq,osq⟩,hw''⟩:=hw'
    subst hw''
    go_wp2
    go_ret2
    exact ⟨⟨_,by rw [uh HC];rfl,fun h=>by rw [uh HC] at h;cases h⟩,below_tr (uh BX) ((below_regrown _ _ _).mono (uh BX).size)⟩
  ·skip
   by_cases ht:u.text.size<=4096
   ·skip
    have i1d:decide (u.id ≥ 1)=true:=by simpa using i1
    have i1e:decide (1<=u.id)=true:=by simpa using i1
    have i2d:decide (u.id<=1099511627776)=false:=by simpa using i2
    have t1:(u.text.size:Int)<=4096:=by omega
    have t1d:decide ((u.text.size:Int)<=4096)=true:=decide_eq_true t1
    have hc:callOk o=false:=by
     unfold callOk callNm txOk idOk
     rw [if_neg (by omega),if_pos ek,if_neg (by omega),if_pos ek,hEE,<- ei,<- et]
     rw [decide_eq_false i2] <;> simp
    have n1:¬ 9223372036854775807 < 8 + D.size:=by omega
    have n2:¬ 9223372036854775807 < 8 + D.size + 1:=by omega
    have n3:¬ 9223372036854775807 < 8 + D.size + 1 + Q.size:=by omega
    have hcb:callB o=callW 2 ++ numsB [o.id] ++ 32 :: quoteL (Lb o.text):=by unfold callB;rw [if_neg (by omega),if_pos ek,ek]
    have HQL:=hide hql
    have HDL:=hide hdl
    have HCB:=hide hcb
    have HC:=hide hc
    clear hc
    clear hql hdl hcb ei et hEE hT
    go_enter Tryz.func34,Tryz.ntmps34
    go_wp2
    refine wp_region_quiet_below (by assumption) (by kernel_rfl) ?_
    repeat (go_big_quiet_step (first | (go_at_fn 67;refine Calls.regrown_of (f67 _)) | (go_at_fn 35;refine Calls.regrown_of (f35 _))))
    refine wpQuiet_nil ?_
    intro _ hw'
    obtain ⟨⟨dq,osq⟩,hw''⟩:=hw'
    subst hw''
    go_wp2
    go_ret2
    exact ⟨⟨_,by rw [uh HC];rfl,fun h=>by rw [uh HC] at h;cases h⟩,below_tr (uh BX) ((below_regrown _ _ _).mono (uh BX).size)⟩
   ·skip
    have i1d:decide (u.id ≥ 1)=true:=by simpa using i1
    have i1e:decide (1<=u.id)=true:=by simpa using i1
    have i2d:decide (u.id<=1099511627776)=false:=by simpa using i2
    have t1:¬ (u.text.size:Int)<=4096:=by omega
    have t1d:decide ((u.text.size:Int)<=4096)=false:=decide_eq_false t1
    have hc:callOk o=false:=by
     unfold callOk callNm txOk idOk
     rw [if_neg (by omega),if_pos ek,if_neg (by omega),if_pos ek,hEE,<- ei,<- et]
     rw [decide_eq_false i2] <;> simp
    have n1:¬ 9223372036854775807 < 8 + D.size:=by omega
    have n2:¬ 9223372036854775807 < 8 + D.size + 1:=by omega
    have n3:¬ 9223372036854775807 < 8 + D.size + 1 + Q.size:=by omega
    have hcb:callB o=callW 2 ++ numsB [o.id] ++ 32 :: quoteL (Lb o.text):=by unfold callB;rw [if_neg (by omega),if_pos ek,ek]
    have HQL:=hide hql
    have HDL:=hide hdl
    have HCB:=hide hcb
    have HC:=hide hc
    clear hc
    clear hql hdl hcb ei et hEE hT
    go_enter Tryz.func34,Tryz.ntmps34
    go_wp2
    refine wp_region_quiet_below (by assumption) (by kernel_rfl) ?_
    repeat (go_big_quiet_step (first | (go_at_fn 67;refine Calls.regrown_of (f67 _)) | (go_at_fn 35;refine Calls.regrown_of (f35 _))))
    refine wpQuiet_nil ?_
    intro _ hw'
    obtain ⟨⟨dq,osq⟩,hw''⟩:=hw'
    subst hw''
    go_wp2
    go_ret2
    exact ⟨⟨_,by rw [uh HC];rfl,fun h=>by rw [uh HC] at h;cases h⟩,below_tr (uh BX) ((below_regrown _ _ _).mono (uh BX).size)⟩
 ·skip
  by_cases ht:u.text.size<=4096
  ·skip
   have i1d:decide (u.id ≥ 1)=false:=by simpa using i1
   have i1e:decide (1<=u.id)=false:=by simpa using i1
   have t1:(u.text.size:Int)<=4096:=by omega
   have t1d:decide ((u.text.size:Int)<=4096)=true:=decide_eq_true t1
   have hc:callOk o=false:=by
    unfold callOk callNm txOk idOk
    rw [if_neg (by omega),if_pos ek,if_neg (by omega),if_pos ek,hEE,<- ei,<- et]
    rw [decide_eq_false i1] <;> simp
   have n1:¬ 9223372036854775807 < 8 + D.size:=by omega
   have n2:¬ 9223372036854775807 < 8 + D.size + 1:=by omega
   have n3:¬ 9223372036854775807 < 8 + D.size + 1 + Q.size:=by omega
   have hcb:callB o=callW 2 ++ numsB [o.id] ++ 32 :: quoteL (Lb o.text):=by unfold callB;rw [if_neg (by omega),if_pos ek,ek]
   have HQL:=hide hql
   have HDL:=hide hdl
   have HCB:=hide hcb
   have HC:=hide hc
   clear hc
   clear hql hdl hcb ei et hEE hT
   go_enter Tryz.func34,Tryz.ntmps34
   go_wp2
   refine wp_region_quiet_below (by assumption) (by kernel_rfl) ?_
   repeat (go_big_quiet_step (first | (go_at_fn 67;refine Calls.regrown_of (f67 _)) | (go_at_fn 35;refine Calls.regrown_of (f35 _))))
   refine wpQuiet_nil ?_
   intro _ hw'
   obtain ⟨⟨dq,osq⟩,hw''⟩:=hw'
   subst hw''
   go_wp2
   go_ret2
   exact ⟨⟨_,by rw [uh HC];rfl,fun h=>by rw [uh HC] at h;cases h⟩,below_tr (uh BX) ((below_regrown _ _ _).mono (uh BX).size)⟩
  ·skip
   have i1d:decide (u.id ≥ 1)=false:=by simpa using i1
   have i1e:decide (1<=u.id)=false:=by simpa using i1
   have t1:¬ (u.text.size:Int)<=4096:=by omega
   have t1d:decide ((u.text.size:Int)<=4096)=false:=decide_eq_false t1
   have hc:callOk o=false:=by
    unfold callOk callNm txOk idOk
    rw [if_neg (by omega),if_pos ek,if_neg (by omega),if_pos ek,hEE,<- ei,<- et]
    rw [decide_eq_false i1] <;> simp
   have n1:¬ 9223372036854775807 < 8 + D.size:=by omega
   have n2:¬ 9223372036854775807 < 8 + D.size + 1:=by omega
   have n3:¬ 9223372036854775807 < 8 + D.size + 1 + Q.size:=by omega
   have hcb:callB o=callW 2 ++ numsB [o.id] ++ 32 :: quoteL (Lb o.text):=by unfold callB;rw [if_neg (by omega),if_pos ek,ek]
   have HQL:=hide hql
   have HDL:=hide hdl
   have HCB:=hide hcb
   have HC:=hide hc
   clear hc
   clear hql hdl hcb ei et hEE hT
   go_enter Tryz.func34,Tryz.ntmps34
   go_wp2
   refine wp_region_quiet_below (by assumption) (by kernel_rfl) ?_
   repeat (go_big_quiet_step (first | (go_at_fn 67;refine Calls.regrown_of (f67 _)) | (go_at_fn 35;refine Calls.regrown_of (f35 _))))
   refine wpQuiet_nil ?_
   intro _ hw'
   obtain ⟨⟨dq,osq⟩,hw''⟩:=hw'
   subst hw''
   go_wp2
   go_ret2
   exact ⟨⟨_,by rw [uh HC];rfl,fun h=>by rw [uh HC] at h;cases h⟩,below_tr (uh BX) ((below_regrown _ _ _).mono (uh BX).size)⟩
set_option maxHeartbeats 8000000 in
set_option maxRecDepth 100000 in
theorem refCall_3 {w:World} {u:Ou} {o:Sop} (hu:OpIn w u o) (hI:SopI o) (hz:o.text.size<=1000000000)  (hk:u.ck=3) :
  Calls Tryz.prog 34 #[u.call] w fun e w'=>(∃ A:ByteArray,e=.returned (.tuple #[.string A,.bool (callOk o)])/\(callOk o=true->Lb A=callB o))/\Below w.heap.size w w':=by
 have mixed:Tryz.prog.follows .mixedOrders=true:=by kernel_rfl
 obtain ⟨X,HX⟩:∃ X,w.alloc (.cells #[.int .i64 u.ck,.int .i64 u.id,.string u.text,.slice u.qe u.ne u.ce] 39)=X:=⟨_,rfl⟩
 have hwX:Below w.heap.size w X:=by rw [<- HX];exact (Below.refl _ _).alloc (Nat.le_refl _) _
 have hX:X.heap[w.heap.size]? = some (.cells #[.int .i64 u.ck,.int .i64 u.id,.string u.text,.slice u.qe u.ne u.ce] 39 (0,0)):=by rw [<- HX];exact box_new _ _
 obtain ⟨x0,x1,x2,x3⟩:=of4s hX
 have g0:=cell_regrown x0
 have g1:=cell_regrown x1
 have g2:=cell_regrown x2
 have g3:=cell_regrown x3
 have BX:=hide hwX
 have HXB:=hide hX
 have en67:=Tryz.enters67
 have en35:=Tryz.enters35
 obtain ⟨Q,hQ⟩:∃ Q,quoteB u.text=Q:=⟨_,rfl⟩
 have hql:Lb Q=quoteL (Lb o.text):=by rw [<- hQ,<- hu.text];exact quoteB_list u.text
 have hqs:Q.size<=4 * u.text.size + 2:=by rw [<- hQ];exact quoteB_sz u.text
 have f67:=fun V=>refQuote_any u.text V (by rw [hu.text];omega)
 rw [hQ] at f67
 obtain ⟨D,hD⟩:∃ D,itoaB u.id=D:=⟨_,rfl⟩
 have hdl:Lb D=Go.Lib.itoa o.id:=by rw [<- hD,<- hu.id];exact itoaB_list u.id
 have hid:I64 u.id:=by rw [hu.id];exact hI.id
 have hds:D.size<=21:=by rw [<- hD];exact itoaB_size u.id hid
 have f35:=fun V=>decimal_any u.id V hid.1 hid.2
 rw [hD] at f35
 have hzt:u.text.size<=1000000000:=by rw [hu.text];exact hz
 have hE:((u.ne:Int) == 0)=o.ev.isEmpty:=ne_emp hu
 have hT:(u.text.toList == [])=decide (o.text.size=0):=by rw [size_emp,hu.text]
 have ei:=hu.id
 have et:=hu.text
 obtain ⟨E,hEE⟩:∃ E,o.ev.isEmpty=E:=⟨_,rfl⟩
 rw [hEE] at hE
 have ek:o.ck=3:=by rw [<- hu.ck,hk]
 have c1:(u.ck == 1)=false:=by rw [hk];rfl
 have c2:(u.ck == 2)=false:=by rw [hk];rfl
 have c3:(u.ck == 3)=true:=by rw [hk];rfl
 clear hQ hD hid hX hwX hu hI hk
 unfold Ou.call
 by_cases i1:1<=u.id
 ·skip
  by_cases i2:u.id<=1099511627776
  ·skip
   by_cases hs:o.text.size=0
   ·skip
    have i1d:decide (u.id ≥ 1)=true:=by simpa using i1
    have i1e:decide (1<=u.id)=true:=by simpa using i1
    have i2d:decide (u.id<=1099511627776)=true:=by simpa using i2
    obtain ⟨B5,hB5⟩:∃ B,decide ((u.text.size:Int)<=4096)=B:=⟨_,rfl⟩
    have hT1:(u.text.toList == [])=true:=by rw [hT];simpa using hs
    have hc:callOk o=E:=by
     unfold callOk callNm idOk
     rw [if_neg (by omega),if_neg (by omega),if_pos ek,if_neg (by omega),if_neg (by omega),if_pos ek,hEE,<- ei]
     rw [decide_eq_true i1,decide_eq_true i2,decide_eq_true hs] <;> simp
    have n1:¬ 9223372036854775807 < 6 + D.size:=by omega
    have hcb:callB o=callW 3 ++ numsB [o.id]:=by unfold callB;rw [if_neg (by omega),if_neg (by omega),if_pos ek,ek]
    have HQL:=hide hql
    have HDL:=hide hdl
    have HCB:=hide hcb
    have HC:=hide hc
    clear hc
    clear hql hdl hcb ei et hEE
    go_enter Tryz.func34,Tryz.ntmps34
    go_wp2
    refine wp_region_quiet_below (by assumption) (by kernel_rfl) ?_
    repeat (go_big_quiet_step (first | (go_at_fn 67;refine Calls.regrown_of (f67 _)) | (go_at_fn 35;refine Calls.regrown_of (f35 _))))
    refine wpQuiet_nil ?_
    intro _ hw'
    obtain ⟨⟨dq,osq⟩,hw''⟩:=hw'
    subst hw''
    go_wp2
    go_ret2
    exact ⟨⟨_,by rw [uh HC];rfl,fun _=>by simp only [lb_app,uh HDL,uh HCB];simp [Lb,numsB,tailW,callW,wUnsub]⟩,below_tr (uh BX) ((below_regrown _ _ _).mono (uh BX).size)⟩
   ·skip
    have i1d:decide (u.id ≥ 1)=true:=by simpa using i1
    have i1e:decide (1<=u.id)=true:=by simpa using i1
    have i2d:decide (u.id<=1099511627776)=true:=by simpa using i2
    obtain ⟨B5,hB5⟩:∃ B,decide ((u.text.size:Int)<=4096)=B:=⟨_,rfl⟩
    have hT1:(u.text.toList == [])=false:=by rw [hT];simpa using hs
    have hc:callOk o=false:=by
     unfold callOk callNm idOk
     rw [if_neg (by omega),if_neg (by omega),if_pos ek,if_neg (by omega),if_neg (by omega),if_pos ek,hEE,<- ei]
     rw [decide_eq_false hs] <;> simp
    have n1:¬ 9223372036854775807 < 6 + D.size:=by omega
    have hcb:callB o=callW 3 ++ numsB [o.id]:=by unfold callB;rw [if_neg (by omega),if_neg (by omega),if_pos ek,ek]
    have HQL:=hide hql
    have HDL:=hide hdl
    have HCB:=hide hcb
    have HC:=hide hc
    clear hc
    clear hql hdl hcb ei et hEE
    go_enter Tryz.func34,Tryz.ntmps34
    go_wp2
    refine wp_region_quiet_below (by assumption) (by kernel_rfl) ?_
    repeat (go_big_quiet_step (first | (go_at_fn 67;refine Calls.regrown_of (f67 _)) | (go_at_fn 35;refine Calls.regrown_of (f35 _))))
    refine wpQuiet_nil ?_
    intro _ hw'
    obtain ⟨⟨dq,osq⟩,hw''⟩:=hw'
    subst hw''
    go_wp2
    go_ret2
    exact ⟨⟨_,by rw [uh HC];rfl,fun h=>by rw [uh HC] at h;cases h⟩,below_tr (uh BX) ((below_regrown _ _ _).mono (uh BX).size)⟩
  ·skip
   have i1d:decide (u.id ≥ 1)=true:=by simpa using i1
   have i1e:decide (1<=u.id)=true:=by simpa using i1
   have i2d:decide (u.id<=1099511627776)=false:=by simpa using i2
   obtain ⟨B5,hB5⟩:∃ B,decide ((u.text.size:Int)<=4096)=B:=⟨_,rfl⟩
   have hc:callOk o=false:=by
    unfold callOk callNm idOk
    rw [if_neg (by omega),if_neg (by omega),if_pos ek,if_neg (by omega),if_neg (by omega),if_pos ek,hEE,<- ei]
    rw [decide_eq_false i2] <;> simp
   have n1:¬ 9223372036854775807 < 6 + D.size:=by omega
   have hcb:callB o=callW 3 ++ numsB [o.id]:=by unfold callB;rw [if_neg (by omega),if_neg (by omega),if_pos ek,ek]
   have HQL:=hide hql
   have HDL:=hide hdl
   have HCB:=hide hcb
   have HC:=hide hc
   clear hc
   clear hql hdl hcb ei et hEE
   go_enter Tryz.func34,Tryz.ntmps34
   go_wp2
   refine wp_region_quiet_below (by assumption) (by kernel_rfl) ?_
   repeat (go_big_quiet_step (first | (go_at_fn 67;refine Calls.regrown_of (f67 _)) | (go_at_fn 35;refine Calls.regrown_of (f35 _))))
   refine wpQuiet_nil ?_
   intro _ hw'
   obtain ⟨⟨dq,osq⟩,hw''⟩:=hw'
   subst hw''
   go_wp2
   go_ret2
   exact ⟨⟨_,by rw [uh HC];rfl,fun h=>by rw [uh HC] at h;cases h⟩,below_tr (uh BX) ((below_regrown _ _ _).mono (uh BX).size)⟩
 ·skip
  have i1d:decide (u.id ≥ 1)=false:=by simpa using i1
  have i1e:decide (1<=u.id)=false:=by simpa using i1
  obtain ⟨B5,hB5⟩:∃ B,decide ((u.text.size:Int)<=4096)=B:=⟨_,rfl⟩
  have hc:callOk o=false:=by
   unfold callOk callNm idOk
   rw [if_neg (by omega),if_neg (by omega),if_pos ek,if_neg (by omega),if_neg (by omega),if_pos ek,hEE,<- ei]
   rw [decide_eq_false i1] <;> simp
  have n1:¬ 9223372036854775807 < 6 + D.size:=by omega
  have hcb:callB o=callW 3 ++ numsB [o.id]:=by unfold callB;rw [if_neg (by omega),if_neg (by omega),if_pos ek,ek]
  have HQL:=hide hql
  have HDL:=hide hdl
  have HCB:=hide hcb
  have HC:=hide hc
  clear hc
  clear hql hdl hcb ei et hEE
  go_enter Tryz.func34,Tryz.ntmps34
  go_wp2
  refine wp_region_quiet_below (by assumption) (by kernel_rfl) ?_
  repeat (go_big_quiet_step (first | (go_at_fn 67;refine Calls.regrown_of (f67 _)) | (go_at_fn 35;refine Calls.regrown_of (f35 _))))
  refine wpQuiet_nil ?_
  intro _ hw'
  obtain ⟨⟨dq,osq⟩,hw''⟩:=hw'
  subst hw''
  go_wp2
  go_ret2
  exact ⟨⟨_,by rw [uh HC];rfl,fun h=>by rw [uh HC] at h;cases h⟩,below_tr (uh BX) ((below_regrown _ _ _).mono (uh BX).size)⟩
set_option maxHeartbeats 8000000 in
set_option maxRecDepth 100000 in
theorem refCall_4 {w:World} {u:Ou} {o:Sop} (hu:OpIn w u o) (hI:SopI o) (hz:o.text.size<=1000000000) (hz2:o.ev.length<=1000000000) (hk:u.ck=4) :
  Calls Tryz.prog 34 #[u.call] w fun e w'=>(∃ A:ByteArray,e=.returned (.tuple #[.string A,.bool (callOk o)])/\(callOk o=true->Lb A=callB o))/\Below w.heap.size w w':=by
 have mixed:Tryz.prog.follows .mixedOrders=true:=by kernel_rfl
 obtain ⟨X,HX⟩:∃ X,w.alloc (.cells #[.int .i64 u.ck,.int .i64 u.id,.string u.text,.slice u.qe u.ne u.ce] 39)=X:=⟨_,rfl⟩
 have hwX:Below w.heap.size w X:=by rw [<- HX];exact (Below.refl _ _).alloc (Nat.le_refl _) _
 have hX:X.heap[w.heap.size]? = some (.cells #[.int .i64 u.ck,.int .i64 u.id,.string u.text,.slice u.qe u.ne u.ce] 39 (0,0)):=by rw [<- HX];exact box_new _ _
 obtain ⟨x0,x1,x2,x3⟩:=of4s hX
 have g0:=cell_regrown x0
 have g1:=cell_regrown x1
 have g2:=cell_regrown x2
 have g3:=cell_regrown x3
 have BX:=hide hwX
 have HXB:=hide hX
 have en67:=Tryz.enters67
 have en35:=Tryz.enters35
 obtain ⟨Q,hQ⟩:∃ Q,quoteB u.text=Q:=⟨_,rfl⟩
 have hql:Lb Q=quoteL (Lb o.text):=by rw [<- hQ,<- hu.text];exact quoteB_list u.text
 have hqs:Q.size<=4 * u.text.size + 2:=by rw [<- hQ];exact quoteB_sz u.text
 have f67:=fun V=>refQuote_any u.text V (by rw [hu.text];omega)
 rw [hQ] at f67
 obtain ⟨D,hD⟩:∃ D,itoaB u.id=D:=⟨_,rfl⟩
 have hdl:Lb D=Go.Lib.itoa o.id:=by rw [<- hD,<- hu.id];exact itoaB_list u.id
 have hid:I64 u.id:=by rw [hu.id];exact hI.id
 have hds:D.size<=21:=by rw [<- hD];exact itoaB_size u.id hid
 have f35:=fun V=>decimal_any u.id V hid.1 hid.2
 rw [hD] at f35
 have hzt:u.text.size<=1000000000:=by rw [hu.text];exact hz
 have hE:((u.ne:Int) == 0)=o.ev.isEmpty:=ne_emp hu
 have hT:(u.text.toList == [])=decide (o.text.size=0):=by rw [size_emp,hu.text]
 have ei:=hu.id
 have et:=hu.text
 obtain ⟨E,hEE⟩:∃ E,o.ev.isEmpty=E:=⟨_,rfl⟩
 rw [hEE] at hE
 have ek:o.ck=4:=by rw [<- hu.ck,hk]
 have c1:(u.ck == 1)=false:=by rw [hk];rfl
 have c2:(u.ck == 2)=false:=by rw [hk];rfl
 have c3:(u.ck == 3)=false:=by rw [hk];rfl
 have c4:(u.ck == 4)=true:=by rw [hk];rfl
 have hP:=refPairs_any u.qe u.ce o.ev X hz2 (hu.below hwX).ev
 have hne:=hu.ne
 rw [<- hu.ne] at hP
 obtain ⟨P,hPP⟩:∃ P,o.ev.all pairOk=P:=⟨_,rfl⟩
 rw [hPP] at hP
 have HP:=hide hP
 have hpl:P=true->(pairsB o.ev).length<=o.ev.length * 294:=fun h=>pairsB_len (fun p hp=>List.all_eq_true.1 (hPP.trans h) p hp)
 clear hQ hD hid hX hwX hu hI hk hP hne
 unfold Ou.call
 by_cases i1:1<=u.id
 ·skip
  by_cases hp:P=true
  ·skip
   by_cases h0:u.id=0
   ·skip
    exact absurd i1 (by omega)
   ·skip
    have i1d:decide (u.id ≥ 1)=true:=by simpa using i1
    have i1e:decide (1<=u.id)=true:=by simpa using i1
    obtain ⟨B4,hB4⟩:∃ B,decide (u.id<=1099511627776)=B:=⟨_,rfl⟩
    obtain ⟨B5,hB5⟩:∃ B,decide ((u.text.size:Int)<=4096)=B:=⟨_,rfl⟩
    have z0:(u.id == 0)=false:=by simpa using h0
    obtain ⟨S,hS⟩:∃ S,decide (o.text.size=0)=S:=⟨_,rfl⟩
    rw [hS] at hT
    have hc:callOk o=false:=by
     unfold callOk callNm
     rw [if_neg (by omega),if_neg (by omega),if_neg (by omega),if_neg (by omega),if_neg (by omega),if_neg (by omega),if_pos ek,hPP,<- ei]
     rw [decide_eq_false h0] <;> simp
    rw [hp] at HP
    have hcb:callB o=callW 4 ++ pairsB o.ev:=by unfold callB;rw [if_neg (by omega),if_neg (by omega),if_neg (by omega),ek]
    have HQL:=hide hql
    have HDL:=hide hdl
    have HCB:=hide hcb
    have HC:=hide hc
    clear hc
    clear hql hdl hcb ei et hEE hE hpl
    clear h0
    go_enter Tryz.func34,Tryz.ntmps34
    go_wp2_with (go_at_call 68;refine (uh HP).mono ?_;rintro e w2 ⟨⟨A,rfl,hA,hAs⟩,b2⟩;have n1:¬ 9223372036854775807 < 5 + A.size:=(by omega);have B2:=hide b2;have HA:=hide hA;clear x0 x1 x2 x3 g0 g1 g2 g3;obtain ⟨x0,x1,x2,x3⟩:=of4s (blk_onS (uh HXB) b2);have g0:=cell_regrown x0;have g1:=cell_regrown x1;have g2:=cell_regrown x2;have g3:=cell_regrown x3;clear hA b2)
    refine wp_region_quiet_below (by assumption) (by kernel_rfl) ?_
    repeat (go_big_quiet_step (first | (go_at_fn 67;refine Calls.regrown_of (f67 _)) | (go_at_fn 35;refine Calls.regrown_of (f35 _))))
    refine wpQuiet_nil ?_
    intro _ hw'
    obtain ⟨⟨dq,osq⟩,hw''⟩:=hw'
    subst hw''
    go_wp2
    go_ret2
    exact ⟨⟨_,by rw [uh HC];rfl,fun h=>by rw [uh HC] at h;cases h⟩,below_tr (below_sub (uh BX) (uh B2)) ((below_regrown _ _ _).mono (below_sub (uh BX) (uh B2)).size)⟩
  ·skip
   have i1d:decide (u.id ≥ 1)=true:=by simpa using i1
   have i1e:decide (1<=u.id)=true:=by simpa using i1
   obtain ⟨B4,hB4⟩:∃ B,decide (u.id<=1099511627776)=B:=⟨_,rfl⟩
   obtain ⟨B5,hB5⟩:∃ B,decide ((u.text.size:Int)<=4096)=B:=⟨_,rfl⟩
   obtain ⟨S,hS⟩:∃ S,decide (o.text.size=0)=S:=⟨_,rfl⟩
   rw [hS] at hT
   have hpf:P=false:=by simpa using hp
   have hc:callOk o=false:=by
    unfold callOk callNm
    rw [if_neg (by omega),if_neg (by omega),if_neg (by omega),if_neg (by omega),if_neg (by omega),if_neg (by omega),if_pos ek,hPP,<- ei]
    rw [hpf] <;> simp
   rw [hpf] at HP
   have hcb:callB o=callW 4 ++ pairsB o.ev:=by unfold callB;rw [if_neg (by omega),if_neg (by omega),if_neg (by omega),ek]
   have HQL:=hide hql
   have HDL:=hide hdl
   have HCB:=hide hcb
   have HC:=hide hc
   clear hc
   clear hql hdl hcb ei et hEE hE hpl
   go_enter Tryz.func34,Tryz.ntmps34
   go_wp2_with (go_at_call 68;refine (uh HP).mono ?_;rintro e w2 ⟨⟨A,rfl,hA,hAs⟩,b2⟩;have n1:¬ 9223372036854775807 < 5 + A.size:=(by omega);have B2:=hide b2;have HA:=hide hA;clear x0 x1 x2 x3 g0 g1 g2 g3;obtain ⟨x0,x1,x2,x3⟩:=of4s (blk_onS (uh HXB) b2);have g0:=cell_regrown x0;have g1:=cell_regrown x1;have g2:=cell_regrown x2;have g3:=cell_regrown x3;clear hA b2)
   refine wp_region_quiet_below (by assumption) (by kernel_rfl) ?_
   repeat (go_big_quiet_step (first | (go_at_fn 67;refine Calls.regrown_of (f67 _)) | (go_at_fn 35;refine Calls.regrown_of (f35 _))))
   refine wpQuiet_nil ?_
   intro _ hw'
   obtain ⟨⟨dq,osq⟩,hw''⟩:=hw'
   subst hw''
   go_wp2
   go_ret2
   exact ⟨⟨_,by rw [uh HC];rfl,fun h=>by rw [uh HC] at h;cases h⟩,below_tr (below_sub (uh BX) (uh B2)) ((below_regrown _ _ _).mono (below_sub (uh BX) (uh B2)).size)⟩
 ·skip
  by_cases hp:P=true
  ·skip
   by_cases h0:u.id=0
   ·skip
    have i1d:decide (u.id ≥ 1)=false:=by simpa using i1
    have i1e:decide (1<=u.id)=false:=by simpa using i1
    obtain ⟨B5,hB5⟩:∃ B,decide ((u.text.size:Int)<=4096)=B:=⟨_,rfl⟩
    have z0:(u.id == 0)=true:=by simpa using h0
    obtain ⟨S,hS⟩:∃ S,decide (o.text.size=0)=S:=⟨_,rfl⟩
    rw [hS] at hT
    have hc:callOk o=S:=by
     unfold callOk callNm
     rw [if_neg (by omega),if_neg (by omega),if_neg (by omega),if_neg (by omega),if_neg (by omega),if_neg (by omega),if_pos ek,hPP,<- ei]
     rw [hp,decide_eq_true h0,hS] <;> simp
    rw [hp] at HP
    have hcb:callB o=callW 4 ++ pairsB o.ev:=by unfold callB;rw [if_neg (by omega),if_neg (by omega),if_neg (by omega),ek]
    have HQL:=hide hql
    have HDL:=hide hdl
    have HCB:=hide hcb
    have HC:=hide hc
    clear hc
    clear hql hdl hcb ei et hEE hE hpl
    clear h0
    go_enter Tryz.func34,Tryz.ntmps34
    go_wp2_with (go_at_call 68;refine (uh HP).mono ?_;rintro e w2 ⟨⟨A,rfl,hA,hAs⟩,b2⟩;have n1:¬ 9223372036854775807 < 5 + A.size:=(by omega);have B2:=hide b2;have HA:=hide hA;clear x0 x1 x2 x3 g0 g1 g2 g3;obtain ⟨x0,x1,x2,x3⟩:=of4s (blk_onS (uh HXB) b2);have g0:=cell_regrown x0;have g1:=cell_regrown x1;have g2:=cell_regrown x2;have g3:=cell_regrown x3;clear hA b2)
    refine wp_region_quiet_below (by assumption) (by kernel_rfl) ?_
    repeat (go_big_quiet_step (first | (go_at_fn 67;refine Calls.regrown_of (f67 _)) | (go_at_fn 35;refine Calls.regrown_of (f35 _))))
    refine wpQuiet_nil ?_
    intro _ hw'
    obtain ⟨⟨dq,osq⟩,hw''⟩:=hw'
    subst hw''
    go_wp2
    go_ret2
    exact ⟨⟨_,by rw [uh HC];rfl,fun _=>by simp only [lb_app,uh HCB];rw [uh HA (by first | rfl | trivial)];rfl⟩,below_tr (below_sub (uh BX) (uh B2)) ((below_regrown _ _ _).mono (below_sub (uh BX) (uh B2)).size)⟩
   ·skip
    have i1d:decide (u.id ≥ 1)=false:=by simpa using i1
    have i1e:decide (1<=u.id)=false:=by simpa using i1
    obtain ⟨B5,hB5⟩:∃ B,decide ((u.text.size:Int)<=4096)=B:=⟨_,rfl⟩
    have z0:(u.id == 0)=false:=by simpa using h0
    obtain ⟨S,hS⟩:∃ S,decide (o.text.size=0)=S:=⟨_,rfl⟩
    rw [hS] at hT
    have hc:callOk o=false:=by
     unfold callOk callNm
     rw [if_neg (by omega),if_neg (by omega),if_neg (by omega),if_neg (by omega),if_neg (by omega),if_neg (by omega),if_pos ek,hPP,<- ei]
     rw [decide_eq_false h0] <;> simp
    rw [hp] at HP
    have hcb:callB o=callW 4 ++ pairsB o.ev:=by unfold callB;rw [if_neg (by omega),if_neg (by omega),if_neg (by omega),ek]
    have HQL:=hide hql
    have HDL:=hide hdl
    have HCB:=hide hcb
    have HC:=hide hc
    clear hc
    clear hql hdl hcb ei et hEE hE hpl
    clear h0
    go_enter Tryz.func34,Tryz.ntmps34
    go_wp2_with (go_at_call 68;refine (uh HP).mono ?_;rintro e w2 ⟨⟨A,rfl,hA,hAs⟩,b2⟩;have n1:¬ 9223372036854775807 < 5 + A.size:=(by omega);have B2:=hide b2;have HA:=hide hA;clear x0 x1 x2 x3 g0 g1 g2 g3;obtain ⟨x0,x1,x2,x3⟩:=of4s (blk_onS (uh HXB) b2);have g0:=cell_regrown x0;have g1:=cell_regrown x1;have g2:=cell_regrown x2;have g3:=cell_regrown x3;clear hA b2)
    refine wp_region_quiet_below (by assumption) (by kernel_rfl) ?_
    repeat (go_big_quiet_step (first | (go_at_fn 67;refine Calls.regrown_of (f67 _)) | (go_at_fn 35;refine Calls.regrown_of (f35 _))))
    refine wpQuiet_nil ?_
    intro _ hw'
    obtain ⟨⟨dq,osq⟩,hw''⟩:=hw'
    subst hw''
    go_wp2
    go_ret2
    exact ⟨⟨_,by rw [uh HC];rfl,fun h=>by rw [uh HC] at h;cases h⟩,below_tr (below_sub (uh BX) (uh B2)) ((below_regrown _ _ _).mono (below_sub (uh BX) (uh B2)).size)⟩
  ·skip
   have i1d:decide (u.id ≥ 1)=false:=by simpa using i1
   have i1e:decide (1<=u.id)=false:=by simpa using i1
   obtain ⟨B5,hB5⟩:∃ B,decide ((u.text.size:Int)<=4096)=B:=⟨_,rfl⟩
   obtain ⟨S,hS⟩:∃ S,decide (o.text.size=0)=S:=⟨_,rfl⟩
   rw [hS] at hT
   have hpf:P=false:=by simpa using hp
   have hc:callOk o=false:=by
    unfold callOk callNm
    rw [if_neg (by omega),if_neg (by omega),if_neg (by omega),if_neg (by omega),if_neg (by omega),if_neg (by omega),if_pos ek,hPP,<- ei]
    rw [hpf] <;> simp
   rw [hpf] at HP
   have hcb:callB o=callW 4 ++ pairsB o.ev:=by unfold callB;rw [if_neg (by omega),if_neg (by omega),if_neg (by omega),ek]
   have HQL:=hide hql
   have HDL:=hide hdl
   have HCB:=hide hcb
   have HC:=hide hc
   clear hc
   clear hql hdl hcb ei et hEE hE hpl
   go_enter Tryz.func34,Tryz.ntmps34
   go_wp2_with (go_at_call 68;refine (uh HP).mono ?_;rintro e w2 ⟨⟨A,rfl,hA,hAs⟩,b2⟩;have n1:¬ 9223372036854775807 < 5 + A.size:=(by omega);have B2:=hide b2;have HA:=hide hA;clear x0 x1 x2 x3 g0 g1 g2 g3;obtain ⟨x0,x1,x2,x3⟩:=of4s (blk_onS (uh HXB) b2);have g0:=cell_regrown x0;have g1:=cell_regrown x1;have g2:=cell_regrown x2;have g3:=cell_regrown x3;clear hA b2)
   refine wp_region_quiet_below (by assumption) (by kernel_rfl) ?_
   repeat (go_big_quiet_step (first | (go_at_fn 67;refine Calls.regrown_of (f67 _)) | (go_at_fn 35;refine Calls.regrown_of (f35 _))))
   refine wpQuiet_nil ?_
   intro _ hw'
   obtain ⟨⟨dq,osq⟩,hw''⟩:=hw'
   subst hw''
   go_wp2
   go_ret2
   exact ⟨⟨_,by rw [uh HC];rfl,fun h=>by rw [uh HC] at h;cases h⟩,below_tr (below_sub (uh BX) (uh B2)) ((below_regrown _ _ _).mono (below_sub (uh BX) (uh B2)).size)⟩
theorem refCall_any {w:World} {u:Ou} {o:Sop} (hu:OpIn w u o) (hI:SopI o) (hz:o.text.size<=1000000000) (hz2:o.ev.length<=1000000000) :
  Calls Tryz.prog 34 #[u.call] w fun e w'=>(∃ A:ByteArray,e=.returned (.tuple #[.string A,.bool (callOk o)])/\(callOk o=true->Lb A=callB o))/\Below w.heap.size w w':=by
 by_cases h1:u.ck=1
 ·exact refCall_1 hu hI hz h1
 by_cases h2:u.ck=2
 ·exact refCall_2 hu hI hz h2
 by_cases h3:u.ck=3
 ·exact refCall_3 hu hI hz h3
 by_cases h4:u.ck=4
 ·exact refCall_4 hu hI hz hz2 h4
 exact refCall_0 hu hI hz h1 h2 h3 h4
end Go.Proofs.YtdgoibnndfibnaaGreatDoor

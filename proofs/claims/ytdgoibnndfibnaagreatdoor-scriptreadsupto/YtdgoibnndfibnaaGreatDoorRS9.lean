/- What is named for an op's kind. -/
import Derived.Test.YtdgoibnndfibnaaGreatDoorRZaj
namespace Go.Proofs.YtdgoibnndfibnaaGreatDoor
open Go.RowKit Go.Sort
/-- An op with nothing set but what its kind has; a call likewise. -/
def nmOp (o:Sop):Sop:=if o.kind=1 then ⟨o.kind,o.who,o.ck,o.id,o.text,o.ev,[]⟩ else if o.kind=2 ∨ o.kind=5 ∨ o.kind=6 then ⟨o.kind,0,0,0,⟨#[]⟩,[],o.nums⟩ else ⟨o.kind,0,0,0,⟨#[]⟩,[],[]⟩
def nmU (u:Ou):Ou:=if u.kind=1 then ⟨u.kind,u.who,u.ck,u.id,u.text,u.qe,u.ne,u.ce,none,0,0⟩ else if u.kind=2 ∨ u.kind=5 ∨ u.kind=6 then ⟨u.kind,0,0,0,⟨#[]⟩,none,0,0,u.qn,u.nn,u.cn⟩ else ⟨u.kind,0,0,0,⟨#[]⟩,none,0,0,none,0,0⟩
def nmCl (o:Sop):Sop:=if o.ck=1 then ⟨0,0,o.ck,0,o.text,[],[]⟩ else if o.ck=2 then ⟨0,0,o.ck,o.id,o.text,[],[]⟩ else if o.ck=3 then ⟨0,0,o.ck,o.id,⟨#[]⟩,[],[]⟩ else ⟨0,0,o.ck,0,⟨#[]⟩,o.ev,[]⟩
def nmClU (u:Ou):Ou:=if u.ck=1 then ⟨0,0,u.ck,0,u.text,none,0,0,none,0,0⟩ else if u.ck=2 then ⟨0,0,u.ck,u.id,u.text,none,0,0,none,0,0⟩ else if u.ck=3 then ⟨0,0,u.ck,u.id,⟨#[]⟩,none,0,0,none,0,0⟩ else ⟨0,0,u.ck,0,⟨#[]⟩,u.qe,u.ne,u.ce,none,0,0⟩
theorem OpIn.nm {w:World} {u:Ou} {o:Sop} (h:OpIn w u o):OpIn w (nmU u) (nmOp o):=by
 obtain ⟨h1,h2,h3,h4,h5,h6,h7,h8,h9⟩:=h
 unfold nmU nmOp
 rw [h1]
 split
 ·exact ⟨rfl,h2,h3,h4,h5,h6,rfl,h8,SlOf.none w⟩
 ·split
  ·exact ⟨rfl,rfl,rfl,rfl,rfl,rfl,h7,SlOf.none w,h9⟩
  ·exact ⟨rfl,rfl,rfl,rfl,rfl,rfl,rfl,SlOf.none w,SlOf.none w⟩
theorem OpIn.nmCl {w:World} {u:Ou} {o:Sop} (h:OpIn w u o):OpIn w (nmClU u) (nmCl o):=by
 obtain ⟨h1,h2,h3,h4,h5,h6,h7,h8,h9⟩:=h
 unfold nmClU Go.Proofs.YtdgoibnndfibnaaGreatDoor.nmCl
 rw [h3]
 split
 ·exact ⟨rfl,rfl,rfl,rfl,h5,rfl,rfl,SlOf.none w,SlOf.none w⟩
 ·split
  ·exact ⟨rfl,rfl,rfl,h4,h5,rfl,rfl,SlOf.none w,SlOf.none w⟩
  ·split
   ·exact ⟨rfl,rfl,rfl,h4,rfl,rfl,rfl,SlOf.none w,SlOf.none w⟩
   ·exact ⟨rfl,rfl,rfl,rfl,rfl,h6,rfl,h8,SlOf.none w⟩
theorem empty_size {s:ByteArray}:s.size=0 ↔ s=⟨#[]⟩:=⟨size_zero,fun h=>by rw [h];rfl⟩
theorem nmOp_eq (o:Sop):decide (o=nmOp o)=opNm o:=by
 obtain ⟨kind,who,ck,id,text,ev,nums⟩:=o
 rw [Bool.eq_iff_iff,decide_eq_true_eq]
 unfold nmOp opNm callNo
 simp only
 split
 ·simp [List.isEmpty_iff]
 ·split
  ·simp only [Sop.mk.injEq,true_and,and_true,Bool.and_eq_true,decide_eq_true_eq,List.isEmpty_iff,empty_size,and_assoc]
  ·simp only [Sop.mk.injEq,true_and,Bool.and_eq_true,decide_eq_true_eq,List.isEmpty_iff,empty_size,and_assoc]
theorem nmCl_eq (o:Sop):sameCl o (nmCl o)=callNm o:=by
 obtain ⟨kind,who,ck,id,text,ev,nums⟩:=o
 rw [Bool.eq_iff_iff]
 unfold nmCl callNm sameCl
 simp only
 split
 ·simp [List.isEmpty_iff]
 ·split
  ·simp [List.isEmpty_iff]
  ·split
   ·simp only [Bool.and_eq_true,decide_eq_true_eq,List.isEmpty_iff,empty_size,true_and]
   ·simp only [Bool.and_eq_true,decide_eq_true_eq,empty_size,true_and,and_true]
set_option maxHeartbeats 4000000 in
set_option maxRecDepth 100000 in
theorem opNamed_0 (who ck id:Int) (text:ByteArray) (qe:Option Addr) (ne ce:Nat) (qn:Option Addr) (nn cn:Nat) (w:World)  :
  Calls Tryz.prog 63 #[.agg #[.int .i64 1,.int .i64 who,.int .i64 ck,.int .i64 id,.string text,.slice qe ne ce,.slice qn nn cn]] w fun e w'=>e=.returned (.agg #[.int .i64 1,.int .i64 who,.int .i64 ck,.int .i64 id,.string text,.slice qe ne ce,.slice none 0 0])/\Below w.heap.size w w':=by
 obtain ⟨X,HX⟩:∃ X,w.alloc (.cells #[.int .i64 1,.int .i64 who,.int .i64 ck,.int .i64 id,.string text,.slice qe ne ce,.slice qn nn cn] 42)=X:=⟨_,rfl⟩
 have hwX:Below w.heap.size w X:=by rw [<- HX];exact (Below.refl _ _).alloc (Nat.le_refl _) _
 have hX:X.heap[w.heap.size]? = some (.cells #[.int .i64 1,.int .i64 who,.int .i64 ck,.int .i64 id,.string text,.slice qe ne ce,.slice qn nn cn] 42 (0,0)):=by rw [<- HX];exact box_new _ _
 obtain ⟨x0,x1,x2,x3,x4,x5,x6⟩:=of7s hX
 have hlt:w.heap.size < X.heap.size:=heap_lt hX
 have hne:¬ w.heap.size=X.heap.size:=Nat.ne_of_lt hlt
 have HWX:=hide hwX
 clear hX hwX
 go_enter Tryz.func63,Tryz.ntmps63
 go_wp2
 refine bodyPost_ret (v:=.agg #[.int .i64 1,.int .i64 who,.int .i64 ck,.int .i64 id,.string text,.slice qe ne ce,.slice none 0 0]) (by simp [results,Tryz.results63,go_sem]) rfl ⟨rfl,below_sub (uh HWX) (bal (Below.refl _ _) _)⟩
set_option maxHeartbeats 4000000 in
set_option maxRecDepth 100000 in
theorem opNamed_1 (who ck id:Int) (text:ByteArray) (qe:Option Addr) (ne ce:Nat) (qn:Option Addr) (nn cn:Nat) (w:World)  :
  Calls Tryz.prog 63 #[.agg #[.int .i64 2,.int .i64 who,.int .i64 ck,.int .i64 id,.string text,.slice qe ne ce,.slice qn nn cn]] w fun e w'=>e=.returned (.agg #[.int .i64 2,.int .i64 0,.int .i64 0,.int .i64 0,.string ⟨#[]⟩,.slice none 0 0,.slice qn nn cn])/\Below w.heap.size w w':=by
 obtain ⟨X,HX⟩:∃ X,w.alloc (.cells #[.int .i64 2,.int .i64 who,.int .i64 ck,.int .i64 id,.string text,.slice qe ne ce,.slice qn nn cn] 42)=X:=⟨_,rfl⟩
 have hwX:Below w.heap.size w X:=by rw [<- HX];exact (Below.refl _ _).alloc (Nat.le_refl _) _
 have hX:X.heap[w.heap.size]? = some (.cells #[.int .i64 2,.int .i64 who,.int .i64 ck,.int .i64 id,.string text,.slice qe ne ce,.slice qn nn cn] 42 (0,0)):=by rw [<- HX];exact box_new _ _
 obtain ⟨x0,x1,x2,x3,x4,x5,x6⟩:=of7s hX
 have hlt:w.heap.size < X.heap.size:=heap_lt hX
 have hne:¬ w.heap.size=X.heap.size:=Nat.ne_of_lt hlt
 have HWX:=hide hwX
 clear hX hwX
 go_enter Tryz.func63,Tryz.ntmps63
 go_wp2
 refine bodyPost_ret (v:=.agg #[.int .i64 2,.int .i64 0,.int .i64 0,.int .i64 0,.string ⟨#[]⟩,.slice none 0 0,.slice qn nn cn]) (by simp [results,Tryz.results63,go_sem]) rfl ⟨rfl,below_sub (uh HWX) (bal (Below.refl _ _) _)⟩
set_option maxHeartbeats 4000000 in
set_option maxRecDepth 100000 in
theorem opNamed_2 (who ck id:Int) (text:ByteArray) (qe:Option Addr) (ne ce:Nat) (qn:Option Addr) (nn cn:Nat) (w:World)  :
  Calls Tryz.prog 63 #[.agg #[.int .i64 5,.int .i64 who,.int .i64 ck,.int .i64 id,.string text,.slice qe ne ce,.slice qn nn cn]] w fun e w'=>e=.returned (.agg #[.int .i64 5,.int .i64 0,.int .i64 0,.int .i64 0,.string ⟨#[]⟩,.slice none 0 0,.slice qn nn cn])/\Below w.heap.size w w':=by
 obtain ⟨X,HX⟩:∃ X,w.alloc (.cells #[.int .i64 5,.int .i64 who,.int .i64 ck,.int .i64 id,.string text,.slice qe ne ce,.slice qn nn cn] 42)=X:=⟨_,rfl⟩
 have hwX:Below w.heap.size w X:=by rw [<- HX];exact (Below.refl _ _).alloc (Nat.le_refl _) _
 have hX:X.heap[w.heap.size]? = some (.cells #[.int .i64 5,.int .i64 who,.int .i64 ck,.int .i64 id,.string text,.slice qe ne ce,.slice qn nn cn] 42 (0,0)):=by rw [<- HX];exact box_new _ _
 obtain ⟨x0,x1,x2,x3,x4,x5,x6⟩:=of7s hX
 have hlt:w.heap.size < X.heap.size:=heap_lt hX
 have hne:¬ w.heap.size=X.heap.size:=Nat.ne_of_lt hlt
 have HWX:=hide hwX
 clear hX hwX
 go_enter Tryz.func63,Tryz.ntmps63
 go_wp2
 refine bodyPost_ret (v:=.agg #[.int .i64 5,.int .i64 0,.int .i64 0,.int .i64 0,.string ⟨#[]⟩,.slice none 0 0,.slice qn nn cn]) (by simp [results,Tryz.results63,go_sem]) rfl ⟨rfl,below_sub (uh HWX) (bal (Below.refl _ _) _)⟩
set_option maxHeartbeats 4000000 in
set_option maxRecDepth 100000 in
theorem opNamed_3 (who ck id:Int) (text:ByteArray) (qe:Option Addr) (ne ce:Nat) (qn:Option Addr) (nn cn:Nat) (w:World)  :
  Calls Tryz.prog 63 #[.agg #[.int .i64 6,.int .i64 who,.int .i64 ck,.int .i64 id,.string text,.slice qe ne ce,.slice qn nn cn]] w fun e w'=>e=.returned (.agg #[.int .i64 6,.int .i64 0,.int .i64 0,.int .i64 0,.string ⟨#[]⟩,.slice none 0 0,.slice qn nn cn])/\Below w.heap.size w w':=by
 obtain ⟨X,HX⟩:∃ X,w.alloc (.cells #[.int .i64 6,.int .i64 who,.int .i64 ck,.int .i64 id,.string text,.slice qe ne ce,.slice qn nn cn] 42)=X:=⟨_,rfl⟩
 have hwX:Below w.heap.size w X:=by rw [<- HX];exact (Below.refl _ _).alloc (Nat.le_refl _) _
 have hX:X.heap[w.heap.size]? = some (.cells #[.int .i64 6,.int .i64 who,.int .i64 ck,.int .i64 id,.string text,.slice qe ne ce,.slice qn nn cn] 42 (0,0)):=by rw [<- HX];exact box_new _ _
 obtain ⟨x0,x1,x2,x3,x4,x5,x6⟩:=of7s hX
 have hlt:w.heap.size < X.heap.size:=heap_lt hX
 have hne:¬ w.heap.size=X.heap.size:=Nat.ne_of_lt hlt
 have HWX:=hide hwX
 clear hX hwX
 go_enter Tryz.func63,Tryz.ntmps63
 go_wp2
 refine bodyPost_ret (v:=.agg #[.int .i64 6,.int .i64 0,.int .i64 0,.int .i64 0,.string ⟨#[]⟩,.slice none 0 0,.slice qn nn cn]) (by simp [results,Tryz.results63,go_sem]) rfl ⟨rfl,below_sub (uh HWX) (bal (Below.refl _ _) _)⟩
set_option maxHeartbeats 4000000 in
set_option maxRecDepth 100000 in
theorem opNamed_4 (kind who ck id:Int) (text:ByteArray) (qe:Option Addr) (ne ce:Nat) (qn:Option Addr) (nn cn:Nat) (w:World) (h1:kind ≠ 1) (h2:¬ (kind=2 ∨ kind=5 ∨ kind=6)) :
  Calls Tryz.prog 63 #[.agg #[.int .i64 kind,.int .i64 who,.int .i64 ck,.int .i64 id,.string text,.slice qe ne ce,.slice qn nn cn]] w fun e w'=>e=.returned (.agg #[.int .i64 kind,.int .i64 0,.int .i64 0,.int .i64 0,.string ⟨#[]⟩,.slice none 0 0,.slice none 0 0])/\Below w.heap.size w w':=by
 obtain ⟨X,HX⟩:∃ X,w.alloc (.cells #[.int .i64 kind,.int .i64 who,.int .i64 ck,.int .i64 id,.string text,.slice qe ne ce,.slice qn nn cn] 42)=X:=⟨_,rfl⟩
 have hwX:Below w.heap.size w X:=by rw [<- HX];exact (Below.refl _ _).alloc (Nat.le_refl _) _
 have hX:X.heap[w.heap.size]? = some (.cells #[.int .i64 kind,.int .i64 who,.int .i64 ck,.int .i64 id,.string text,.slice qe ne ce,.slice qn nn cn] 42 (0,0)):=by rw [<- HX];exact box_new _ _
 obtain ⟨x0,x1,x2,x3,x4,x5,x6⟩:=of7s hX
 have hlt:w.heap.size < X.heap.size:=heap_lt hX
 have hne:¬ w.heap.size=X.heap.size:=Nat.ne_of_lt hlt
 have HWX:=hide hwX
 clear hX hwX
 have n1:(kind == 1)=false:=by simpa using h1
 have n2:(kind == 2)=false:=by simp;omega
 have n5:(kind == 5)=false:=by simp;omega
 have n6:(kind == 6)=false:=by simp;omega
 go_enter Tryz.func63,Tryz.ntmps63
 go_wp2
 refine bodyPost_ret (v:=.agg #[.int .i64 kind,.int .i64 0,.int .i64 0,.int .i64 0,.string ⟨#[]⟩,.slice none 0 0,.slice none 0 0]) (by simp [results,Tryz.results63,go_sem]) rfl ⟨rfl,below_sub (uh HWX) (bal (Below.refl _ _) _)⟩
set_option maxHeartbeats 4000000 in
set_option maxRecDepth 100000 in
theorem callNamed_0 (id:Int) (text:ByteArray) (qe:Option Addr) (ne ce:Nat) (w:World)  :
  Calls Tryz.prog 88 #[.agg #[.int .i64 1,.int .i64 id,.string text,.slice qe ne ce]] w fun e w'=>e=.returned (.agg #[.int .i64 1,.int .i64 0,.string text,.slice none 0 0])/\Below w.heap.size w w':=by
 obtain ⟨X,HX⟩:∃ X,w.alloc (.cells #[.int .i64 1,.int .i64 id,.string text,.slice qe ne ce] 39)=X:=⟨_,rfl⟩
 have hwX:Below w.heap.size w X:=by rw [<- HX];exact (Below.refl _ _).alloc (Nat.le_refl _) _
 have hX:X.heap[w.heap.size]? = some (.cells #[.int .i64 1,.int .i64 id,.string text,.slice qe ne ce] 39 (0,0)):=by rw [<- HX];exact box_new _ _
 obtain ⟨x0,x1,x2,x3⟩:=of4s hX
 have hlt:w.heap.size < X.heap.size:=heap_lt hX
 have hne:¬ w.heap.size=X.heap.size:=Nat.ne_of_lt hlt
 have HWX:=hide hwX
 clear hX hwX
 go_enter Tryz.func88,Tryz.ntmps88
 go_wp2
 refine bodyPost_ret (v:=.agg #[.int .i64 1,.int .i64 0,.string text,.slice none 0 0]) (by simp [results,Tryz.results88,go_sem]) rfl ⟨rfl,below_sub (uh HWX) (bal (Below.refl _ _) _)⟩
set_option maxHeartbeats 4000000 in
set_option maxRecDepth 100000 in
theorem callNamed_1 (id:Int) (text:ByteArray) (qe:Option Addr) (ne ce:Nat) (w:World)  :
  Calls Tryz.prog 88 #[.agg #[.int .i64 2,.int .i64 id,.string text,.slice qe ne ce]] w fun e w'=>e=.returned (.agg #[.int .i64 2,.int .i64 id,.string text,.slice none 0 0])/\Below w.heap.size w w':=by
 obtain ⟨X,HX⟩:∃ X,w.alloc (.cells #[.int .i64 2,.int .i64 id,.string text,.slice qe ne ce] 39)=X:=⟨_,rfl⟩
 have hwX:Below w.heap.size w X:=by rw [<- HX];exact (Below.refl _ _).alloc (Nat.le_refl _) _
 have hX:X.heap[w.heap.size]? = some (.cells #[.int .i64 2,.int .i64 id,.string text,.slice qe ne ce] 39 (0,0)):=by rw [<- HX];exact box_new _ _
 obtain ⟨x0,x1,x2,x3⟩:=of4s hX
 have hlt:w.heap.size < X.heap.size:=heap_lt hX
 have hne:¬ w.heap.size=X.heap.size:=Nat.ne_of_lt hlt
 have HWX:=hide hwX
 clear hX hwX
 go_enter Tryz.func88,Tryz.ntmps88
 go_wp2
 refine bodyPost_ret (v:=.agg #[.int .i64 2,.int .i64 id,.string text,.slice none 0 0]) (by simp [results,Tryz.results88,go_sem]) rfl ⟨rfl,below_sub (uh HWX) (bal (Below.refl _ _) _)⟩
set_option maxHeartbeats 4000000 in
set_option maxRecDepth 100000 in
theorem callNamed_2 (id:Int) (text:ByteArray) (qe:Option Addr) (ne ce:Nat) (w:World)  :
  Calls Tryz.prog 88 #[.agg #[.int .i64 3,.int .i64 id,.string text,.slice qe ne ce]] w fun e w'=>e=.returned (.agg #[.int .i64 3,.int .i64 id,.string ⟨#[]⟩,.slice none 0 0])/\Below w.heap.size w w':=by
 obtain ⟨X,HX⟩:∃ X,w.alloc (.cells #[.int .i64 3,.int .i64 id,.string text,.slice qe ne ce] 39)=X:=⟨_,rfl⟩
 have hwX:Below w.heap.size w X:=by rw [<- HX];exact (Below.refl _ _).alloc (Nat.le_refl _) _
 have hX:X.heap[w.heap.size]? = some (.cells #[.int .i64 3,.int .i64 id,.string text,.slice qe ne ce] 39 (0,0)):=by rw [<- HX];exact box_new _ _
 obtain ⟨x0,x1,x2,x3⟩:=of4s hX
 have hlt:w.heap.size < X.heap.size:=heap_lt hX
 have hne:¬ w.heap.size=X.heap.size:=Nat.ne_of_lt hlt
 have HWX:=hide hwX
 clear hX hwX
 go_enter Tryz.func88,Tryz.ntmps88
 go_wp2
 refine bodyPost_ret (v:=.agg #[.int .i64 3,.int .i64 id,.string ⟨#[]⟩,.slice none 0 0]) (by simp [results,Tryz.results88,go_sem]) rfl ⟨rfl,below_sub (uh HWX) (bal (Below.refl _ _) _)⟩
set_option maxHeartbeats 4000000 in
set_option maxRecDepth 100000 in
theorem callNamed_3 (ck id:Int) (text:ByteArray) (qe:Option Addr) (ne ce:Nat) (w:World) (h1:ck ≠ 1) (h2:ck ≠ 2) (h3:ck ≠ 3) :
  Calls Tryz.prog 88 #[.agg #[.int .i64 ck,.int .i64 id,.string text,.slice qe ne ce]] w fun e w'=>e=.returned (.agg #[.int .i64 ck,.int .i64 0,.string ⟨#[]⟩,.slice qe ne ce])/\Below w.heap.size w w':=by
 obtain ⟨X,HX⟩:∃ X,w.alloc (.cells #[.int .i64 ck,.int .i64 id,.string text,.slice qe ne ce] 39)=X:=⟨_,rfl⟩
 have hwX:Below w.heap.size w X:=by rw [<- HX];exact (Below.refl _ _).alloc (Nat.le_refl _) _
 have hX:X.heap[w.heap.size]? = some (.cells #[.int .i64 ck,.int .i64 id,.string text,.slice qe ne ce] 39 (0,0)):=by rw [<- HX];exact box_new _ _
 obtain ⟨x0,x1,x2,x3⟩:=of4s hX
 have hlt:w.heap.size < X.heap.size:=heap_lt hX
 have hne:¬ w.heap.size=X.heap.size:=Nat.ne_of_lt hlt
 have HWX:=hide hwX
 clear hX hwX
 have n1:(ck == 1)=false:=by simpa using h1
 have n2:(ck == 2)=false:=by simpa using h2
 have n3:(ck == 3)=false:=by simpa using h3
 go_enter Tryz.func88,Tryz.ntmps88
 go_wp2
 refine bodyPost_ret (v:=.agg #[.int .i64 ck,.int .i64 0,.string ⟨#[]⟩,.slice qe ne ce]) (by simp [results,Tryz.results88,go_sem]) rfl ⟨rfl,below_sub (uh HWX) (bal (Below.refl _ _) _)⟩
theorem opNamed_any (u:Ou) (w:World):Calls Tryz.prog 63 #[u.val] w fun e w'=>e=.returned (nmU u).val/\Below w.heap.size w w':=by
 obtain ⟨kind,who,ck,id,text,qe,ne,ce,qn,nn,cn⟩:=u
 unfold nmU
 simp only
 by_cases h1:kind=1
 ·rw [if_pos h1];subst h1;exact opNamed_0 who ck id text qe ne ce qn nn cn w
 ·rw [if_neg h1]
  by_cases h2:kind=2 ∨ kind=5 ∨ kind=6
  ·rw [if_pos h2]
   rcases h2 with h | h | h
   ·subst h;exact opNamed_1 who ck id text qe ne ce qn nn cn w
   ·subst h;exact opNamed_2 who ck id text qe ne ce qn nn cn w
   ·subst h;exact opNamed_3 who ck id text qe ne ce qn nn cn w
  ·rw [if_neg h2];exact opNamed_4 kind who ck id text qe ne ce qn nn cn w h1 h2
def Ou.call (u:Ou):Value:=.agg #[.int .i64 u.ck,.int .i64 u.id,.string u.text,.slice u.qe u.ne u.ce]
theorem callNamed_any (u:Ou) (w:World):Calls Tryz.prog 88 #[u.call] w fun e w'=>e=.returned (nmClU u).call/\Below w.heap.size w w':=by
 obtain ⟨kind,who,ck,id,text,qe,ne,ce,qn,nn,cn⟩:=u
 unfold nmClU
 simp only
 by_cases h1:ck=1
 ·rw [if_pos h1];subst h1;exact callNamed_0 id text qe ne ce w
 ·rw [if_neg h1]
  by_cases h2:ck=2
  ·rw [if_pos h2];subst h2;exact callNamed_1 id text qe ne ce w
  ·rw [if_neg h2]
   by_cases h3:ck=3
   ·rw [if_pos h3];subst h3;exact callNamed_2 id text qe ne ce w
   ·rw [if_neg h3];exact callNamed_3 ck id text qe ne ce w h1 h2 h3
end Go.Proofs.YtdgoibnndfibnaaGreatDoor

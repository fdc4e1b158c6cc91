/- How a call is written, how an op is written. -/
import Derived.Test.YtdgoibnndfibnaaGreatDoorRZah
import Derived.Lib.QuietBelow
import Derived.Deep.RegionHeld3
namespace Go.Proofs.YtdgoibnndfibnaaGreatDoor
open Go.RowKit Go.Sort
theorem bal {a w:World} (h:Below a.heap.size a w) (o:Obj):Below a.heap.size a (w.alloc o):=h.alloc h.size o
theorem str_eq {a:ByteArray} {l:Bs} (h:a.data.toList=l):a=⟨l.toArray⟩:=by subst h;simp
theorem ret_str2 {a:ByteArray} {l:Bs} (h:a.data.toList=l):Ending.returned (.string a)=.returned (.string ⟨l.toArray⟩):=by rw [str_eq h]
theorem quoteB_list (s:ByteArray):(quoteB s).data.toList=quoteL (Lb s):=rfl
theorem quoteB_size {s:ByteArray} (h:s.size<=4096):(quoteB s).size<=16386:=by
 rw [<- bytes_len,quoteB_list]
 have h2:=escs_le (Lb s)
 have h3:(Lb s).length=s.size:=bytes_len s
 simp only [quoteL,List.length_append,List.length_cons,List.length_nil]
 omega
theorem of4s {W:World} {b:Nat} {a0 a1 a2 a3:Value} {T:TypeId} (h:W.heap[b]? = some (.cells #[a0,a1,a2,a3] T (0,0))):W.cell? ⟨b,0,none⟩=some a0/\W.cell? ⟨b,1,none⟩=some a1/\W.cell? ⟨b,2,none⟩=some a2/\W.cell? ⟨b,3,none⟩=some a3:=by
 refine ⟨?_, ?_, ?_, ?_⟩ <;> (unfold World.cell?;simp [h])
theorem of7s {W:World} {b:Nat} {a0 a1 a2 a3 a4 a5 a6:Value} {T:TypeId} (h:W.heap[b]? = some (.cells #[a0,a1,a2,a3,a4,a5,a6] T (0,0))):W.cell? ⟨b,0,none⟩=some a0/\W.cell? ⟨b,1,none⟩=some a1/\W.cell? ⟨b,2,none⟩=some a2/\W.cell? ⟨b,3,none⟩=some a3/\W.cell? ⟨b,4,none⟩=some a4/\W.cell? ⟨b,5,none⟩=some a5/\W.cell? ⟨b,6,none⟩=some a6:=by
 refine ⟨?_, ?_, ?_, ?_, ?_, ?_, ?_⟩ <;> (unfold World.cell?;simp [h])
theorem blk_onS {w W:World} {b:Nat} {o:Obj} (h:w.heap[b]? = some o) (hb:Below w.heap.size w W):W.heap[b]? = some o:=(hb.block _ (heap_lt h)).trans h
theorem cell_of {W:World} {b:Nat} {a0:Value} {T:TypeId} (h:W.heap[b]? = some (.cells #[a0] T (0,0))):W.cell? ⟨b,0,none⟩=some a0:=by unfold World.cell?;simp [h]
/-- One number in a row of its own. -/
theorem one_int (W:World) (n:Int):SlOf encI 1 (W.alloc (.cells #[.int .i64 n] 3)) (some ⟨W.heap.size,0,none⟩) 1 [n]:=by
  refine ⟨fun h=>(by cases h),Nat.le_refl _,(by unfold maxLen;omega),LsOf.one (by simp) fun c hc=>?_⟩
  obtain rfl:c=0:=by omega
  exact cell_of (box_new W (.cells #[.int .i64 n] 3))
theorem callW_len (k:Int):(callW k).length<=7:=by
 unfold callW
 split
 ·decide
 ·split
  ·decide
  ·split
   ·decide
   ·split <;> decide
theorem opW_len (k:Int):(opW k).length<=5:=by
 unfold opW
 split
 ·decide
 ·split
  ·decide
  ·split
   ·decide
   ·split
    ·decide
    ·split
     ·decide
     ·split
      ·decide
      ·split <;> decide
theorem ba_size (l:Bs):(⟨l.toArray⟩:ByteArray).size=l.length:=by simp [ByteArray.size]
theorem lb_mk (l:Bs):Lb ⟨l.toArray⟩=l:=by simp [Lb]
set_option maxHeartbeats 4000000 in
set_option maxRecDepth 100000 in
theorem callText_1 (id:Int) (text:ByteArray) (qe:Option Addr) (ce:Nat) (ev:List Pq) (w:World) (hG:G w) (ht:text.size<=4096) :
  Calls Tryz.prog 66 #[.agg #[.int .i64 1,.int .i64 id,.string text,.slice qe ev.length ce]] w fun e w'=>e=.returned (.string ⟨(wSub ++ 32 :: quoteL (Lb text)).toArray⟩)/\Below w.heap.size w w':=by
 obtain ⟨X,HX⟩:∃ X,w.alloc (.cells #[.int .i64 1,.int .i64 id,.string text,.slice qe ev.length ce] 39)=X:=⟨_,rfl⟩
 have hwX:Below w.heap.size w X:=by rw [<- HX];exact (Below.refl _ _).alloc (Nat.le_refl _) _
 have hX:X.heap[w.heap.size]? = some (.cells #[.int .i64 1,.int .i64 id,.string text,.slice qe ev.length ce] 39 (0,0)):=by rw [<- HX];exact box_new _ _
 obtain ⟨x0,x1,x2,x3⟩:=of4s hX
 have HWX:=hide hwX
 have HXB:=hide hX
 have HG:=hide hG
 clear hG hwX hX
 have hq:=quoteB_size ht
 have hw:(⟨(callW 1).toArray⟩:ByteArray).size=3:=by rw [ba_size];rfl
 go_enter Tryz.func66,Tryz.ntmps66
 go_wp2_with (first
  | (go_at_call 92;refine (callWord_any 1 _).mono ?_;rintro e w1 ⟨rfl,rfl⟩)
  | (go_at_call 93;refine (quote_at text _ (by omega)).mono ?_;rintro e w2 ⟨rfl,b2⟩;have B2:=hide b2;clear b2))
 refine bodyPost_ret (v:=.string _) (by simp [results,Tryz.results66,go_sem];rfl) rfl ⟨ret_str2 ?_,below_sub (uh HWX) (uh B2)⟩
 have e:(callW 1)=wSub:=rfl
 simp [quoteB_list,e]
set_option maxHeartbeats 4000000 in
set_option maxRecDepth 100000 in
theorem callText_3 (id:Int) (text:ByteArray) (qe:Option Addr) (ce:Nat) (ev:List Pq) (w:World) (hG:G w) (hi:I64 id) :
  Calls Tryz.prog 66 #[.agg #[.int .i64 3,.int .i64 id,.string text,.slice qe ev.length ce]] w fun e w'=>e=.returned (.string ⟨(wUnsub ++ numsB [id]).toArray⟩)/\Below w.heap.size w w':=by
 obtain ⟨X,HX⟩:∃ X,w.alloc (.cells #[.int .i64 3,.int .i64 id,.string text,.slice qe ev.length ce] 39)=X:=⟨_,rfl⟩
 have hwX:Below w.heap.size w X:=by rw [<- HX];exact (Below.refl _ _).alloc (Nat.le_refl _) _
 have hX:X.heap[w.heap.size]? = some (.cells #[.int .i64 3,.int .i64 id,.string text,.slice qe ev.length ce] 39 (0,0)):=by rw [<- HX];exact box_new _ _
 obtain ⟨x0,x1,x2,x3⟩:=of4s hX
 have HWX:=hide hwX
 have HXB:=hide hX
 have HG:=hide hG
 clear hG hwX hX
 have hw:(⟨(callW 3).toArray⟩:ByteArray).size=5:=by rw [ba_size];rfl
 have hN:=fun (W:World) (hW:G W)=>numbered_any ⟨(callW 3).toArray⟩ (some ⟨W.heap.size,0,none⟩) 1 [id] (W.alloc (.cells #[.int .i64 id] 3)) (G_alloc hW _) (by intro n hn;simp at hn;subst hn;exact hi) (by rw [hw];simp) (one_int W id)
 simp only [List.length_singleton] at hN
 have HN:=hide hN
 clear hN
 go_enter Tryz.func66,Tryz.ntmps66
 go_wp2_with (first
  | (go_at_call 92;refine (callWord_any 3 _).mono ?_;rintro e w1 ⟨rfl,rfl⟩)
  | (go_at_call 55;refine (uh HN _ (by exact G_below (uh HG) (uh HWX))).mono ?_;rintro e w2 ⟨rfl,b2⟩;have B2:=hide b2;clear b2))
 refine bodyPost_ret (v:=.string _) (by simp [results,Tryz.results66,go_sem];rfl) rfl ⟨ret_str2 ?_,below_sub (uh HWX) (below_sub ((Below.refl _ _).alloc (Nat.le_refl _) _) (uh B2))⟩
 have e:(callW 3)=wUnsub:=rfl
 simp [lb_mk,e]
set_option maxHeartbeats 4000000 in
set_option maxRecDepth 100000 in
theorem callText_4 (id:Int) (text:ByteArray) (qe:Option Addr) (ce:Nat) (ev:List Pq) (w:World) (hG:G w) (hev:∀ p ∈ ev,pairOk p=true) (hz:ev.length * 294 + 8<=140737488355328) (hs:SlOf encQ 4 w qe ce ev) :
  Calls Tryz.prog 66 #[.agg #[.int .i64 4,.int .i64 id,.string text,.slice qe ev.length ce]] w fun e w'=>e=.returned (.string ⟨(wMatch ++ pairsB ev).toArray⟩)/\Below w.heap.size w w':=by
 obtain ⟨X,HX⟩:∃ X,w.alloc (.cells #[.int .i64 4,.int .i64 id,.string text,.slice qe ev.length ce] 39)=X:=⟨_,rfl⟩
 have hwX:Below w.heap.size w X:=by rw [<- HX];exact (Below.refl _ _).alloc (Nat.le_refl _) _
 have hX:X.heap[w.heap.size]? = some (.cells #[.int .i64 4,.int .i64 id,.string text,.slice qe ev.length ce] 39 (0,0)):=by rw [<- HX];exact box_new _ _
 obtain ⟨x0,x1,x2,x3⟩:=of4s hX
 have HWX:=hide hwX
 have HXB:=hide hX
 have HG:=hide hG
 have hP:=paired_any ⟨(callW 4).toArray⟩ qe ce ev X (G_below hG hwX) hev (by rw [ba_size];have:(callW 4).length=5:=rfl;omega) (hs.below hwX)
 clear hG hwX hX hs
 have HP:=hide hP
 clear hP
 go_enter Tryz.func66,Tryz.ntmps66
 go_wp2_with (first
  | (go_at_call 92;refine (callWord_any 4 _).mono ?_;rintro e w1 ⟨rfl,rfl⟩)
  | (go_at_call 94;refine (uh HP).mono ?_;rintro e w2 ⟨rfl,b2⟩;have B2:=hide b2;clear b2))
 refine bodyPost_ret (v:=.string _) (by simp [results,Tryz.results66,go_sem];rfl) rfl ⟨ret_str2 ?_,below_sub (uh HWX) (uh B2)⟩
 have e:(callW 4)=wMatch:=rfl
 simp [lb_mk,e]
end Go.Proofs.YtdgoibnndfibnaaGreatDoor
namespace Go.Proofs.YtdgoibnndfibnaaGreatDoor
open Go.RowKit Go.Sort
set_option maxHeartbeats 4000000 in
set_option maxRecDepth 100000 in
theorem callText_2 (id:Int) (text:ByteArray) (qe:Option Addr) (ce:Nat) (ev:List Pq) (w:World) (hG:G w) (hi:I64 id) (ht:text.size<=4096) :
  Calls Tryz.prog 66 #[.agg #[.int .i64 2,.int .i64 id,.string text,.slice qe ev.length ce]] w fun e w'=>e=.returned (.string ⟨(wReplace ++ numsB [id] ++ 32 :: quoteL (Lb text)).toArray⟩)/\Below w.heap.size w w':=by
 obtain ⟨X,HX⟩:∃ X,w.alloc (.cells #[.int .i64 2,.int .i64 id,.string text,.slice qe ev.length ce] 39)=X:=⟨_,rfl⟩
 have hwX:Below w.heap.size w X:=by rw [<- HX];exact (Below.refl _ _).alloc (Nat.le_refl _) _
 have hX:X.heap[w.heap.size]? = some (.cells #[.int .i64 2,.int .i64 id,.string text,.slice qe ev.length ce] 39 (0,0)):=by rw [<- HX];exact box_new _ _
 obtain ⟨x0,x1,x2,x3⟩:=of4s hX
 have HWX:=hide hwX
 have HXB:=hide hX
 have HG:=hide hG
 clear hG hwX hX
 have hw:(⟨(callW 2).toArray⟩:ByteArray).size=7:=by rw [ba_size];rfl
 have hq:=quoteB_size ht
 have hn1:(⟨(Lb ⟨(callW 2).toArray⟩ ++ numsB [id]).toArray⟩:ByteArray).size<=29:=by
  rw [ba_size,lb_mk,List.length_append]
  have h1:=numsB_len (l:=[id]) (by intro n hn;simp at hn;subst hn;exact hi)
  have h2:=callW_len 2
  simp only [List.length_singleton] at h1
  omega
 have hN:=fun (W:World) (hW:G W) (hs:SlOf encI 1 W (some ⟨X.heap.size,0,none⟩) 1 [id])=>numbered_any ⟨(callW 2).toArray⟩ (some ⟨X.heap.size,0,none⟩) 1 [id] W hW (by intro n hn;simp at hn;subst hn;exact hi) (by rw [hw];simp) hs
 simp only [List.length_singleton] at hN
 have HN:=hide hN
 have KS:∀ W,Below X.heap.size X W->(fun w':World=>w'.cell? ⟨w.heap.size,0,none⟩=some (.int .i64 2)/\w'.cell? ⟨w.heap.size,1,none⟩=some (.int .i64 id)/\w'.cell? ⟨w.heap.size,2,none⟩=some (.string text)) W:=fun W hW=>by
  obtain ⟨a0,a1,a2,a3⟩:=of4s (blk_onS (uh HXB) hW)
  exact ⟨a0,a1,a2⟩
 have KSH:=hide KS
 clear hN KS
 go_enter Tryz.func66,Tryz.ntmps66
 go_wp2_with (go_at_call 92;refine (callWord_any 2 _).mono ?_;rintro e w1 ⟨rfl,h1⟩;obtain rfl:=h1.symm)
 go_region_held3 (fun w':World=>w'.cell? ⟨w.heap.size,0,none⟩=some (.int .i64 2)/\w'.cell? ⟨w.heap.size,1,none⟩=some (.int .i64 id)/\w'.cell? ⟨w.heap.size,2,none⟩=some (.string text)) (first | exact uh KSH _ (by (repeat (first | exact Below.refl _ _ | exact uh R2 | exact uh R1 | refine Below.drew ?_ | refine bal ?_ _)))) (first
  | (go_at_call 55;refine (uh HN _ (by exact G_below (G_below (uh HG) (uh HWX)) (by (repeat (first | exact Below.refl _ _ | exact uh R2 | exact uh R1 | refine Below.drew ?_ | refine bal ?_ _)))) (by exact one_int X id)).mono ?_;rintro e w2 ⟨rfl,b2⟩;simp only;obtain ⟨A,hA⟩:∃ A,(⟨(Lb ⟨(callW 2).toArray⟩ ++ numsB [id]).toArray⟩:ByteArray)=A:=⟨_,rfl⟩;rw [hA];have na:A.size<=29:=(by rw [<- hA];exact hn1);have nb:¬ 9223372036854775807 < A.size + 1:=(by omega);have HA:=hide hA;clear hA;have R1:=hide (show Below X.heap.size X w2 from below_sub (by (repeat (first | exact Below.refl _ _ | exact uh R2 | exact uh R1 | refine Below.drew ?_ | refine bal ?_ _))) b2);clear b2)
  | (go_at_call 93;refine (quote_at text _ (by omega)).mono ?_;rintro e w3 ⟨rfl,b3⟩;simp only;obtain ⟨Qs,hQ⟩:∃ Qs,quoteB text=Qs:=⟨_,rfl⟩;rw [hQ];have nq:Qs.size<=16386:=(by rw [<- hQ];exact hq);have nc:¬ 9223372036854775807 < A.size + 1 + Qs.size:=(by omega);have HQs:=hide hQ;clear hQ;have R2:=hide (show Below X.heap.size X w3 from below_sub (by (repeat (first | exact Below.refl _ _ | exact uh R2 | exact uh R1 | refine Below.drew ?_ | refine bal ?_ _))) b3);clear b3))
 go_wp2
 go_ret
 refine ⟨ret_str2 ?_,below_sub (uh HWX) (uh R2)⟩
 have e:(callW 2)=wReplace:=rfl
 rw [<- uh HA,<- uh HQs]
 simp [quoteB_list,lb_mk,e]
end Go.Proofs.YtdgoibnndfibnaaGreatDoor
namespace Go.Proofs.YtdgoibnndfibnaaGreatDoor
open Go.RowKit Go.Sort
theorem callOk_kind {o:Sop} (h:callOk o=true):(o.ck=1/\o.text.size<=4096) ∨ (o.ck=2/\o.text.size<=4096) ∨ o.ck=3 ∨ (o.ck=4/\∀ p ∈ o.ev,pairOk p=true):=by
 unfold callOk at h
 rw [Bool.and_eq_true] at h
 obtain ⟨_,h⟩:=h
 by_cases c1:o.ck=1
 ·rw [if_pos c1] at h;unfold txOk at h;exact Or.inl ⟨c1,of_decide_eq_true h⟩
 ·rw [if_neg c1] at h
  by_cases c2:o.ck=2
  ·rw [if_pos c2,Bool.and_eq_true] at h;unfold txOk at h;exact Or.inr (Or.inl ⟨c2,of_decide_eq_true h.2⟩)
  ·rw [if_neg c2] at h
   by_cases c3:o.ck=3
   ·exact Or.inr (Or.inr (Or.inl c3))
   ·rw [if_neg c3] at h
    by_cases c4:o.ck=4
    ·rw [if_pos c4,List.all_eq_true] at h;exact Or.inr (Or.inr (Or.inr ⟨c4,h⟩))
    ·rw [if_neg c4] at h;cases h
theorem callText_any {w:World} {u:Ou} {o:Sop} (hc:callOk o=true) (hI:SopI o) (hin:OpIn w u o) (hG:G w) (hz:o.ev.length * 294 + 8<=140737488355328) :
  Calls Tryz.prog 66 #[.agg #[.int .i64 u.ck,.int .i64 u.id,.string u.text,.slice u.qe u.ne u.ce]] w fun e w'=>e=.returned (.string ⟨(callB o).toArray⟩)/\Below w.heap.size w w':=by
 rw [hin.ck,hin.id,hin.text,hin.ne]
 rcases callOk_kind hc with ⟨h1,h2⟩ | ⟨h1,h2⟩ | h1 | ⟨h1,h2⟩
 ·have e:callB o=wSub ++ 32 :: quoteL (Lb o.text):=by unfold callB;rw [h1];rfl
  rw [e,h1];exact callText_1 o.id o.text u.qe u.ce o.ev w hG h2
 ·have e:callB o=wReplace ++ numsB [o.id] ++ 32 :: quoteL (Lb o.text):=by unfold callB;rw [h1];rfl
  rw [e,h1];exact callText_2 o.id o.text u.qe u.ce o.ev w hG hI.id h2
 ·have e:callB o=wUnsub ++ numsB [o.id]:=by unfold callB;rw [h1];rfl
  rw [e,h1];exact callText_3 o.id o.text u.qe u.ce o.ev w hG hI.id
 ·have e:callB o=wMatch ++ pairsB o.ev:=by unfold callB;rw [h1];rfl
  rw [e,h1];exact callText_4 o.id o.text u.qe u.ce o.ev w hG h2 hz hin.ev
theorem numsB1_len {n:Int} (h:I64 n):(numsB [n]).length<=22:=by
 have h1:=numsB_len (l:=[n]) (by intro m hm;simp at hm;subst hm;exact h)
 simpa using h1
theorem callB_len {o:Sop} (hc:callOk o=true) (hI:SopI o):(callB o).length<=16420 + o.ev.length * 294:=by
 have hq:o.text.size<=4096->(quoteL (Lb o.text)).length<=16386:=fun h=>by
  have:=quoteB_size h
  rw [<- bytes_len,quoteB_list] at this;exact this
 have hn:=numsB1_len hI.id
 rcases callOk_kind hc with ⟨h1,h2⟩ | ⟨h1,h2⟩ | h1 | ⟨h1,h2⟩
 ·have e:callB o=wSub ++ 32 :: quoteL (Lb o.text):=by unfold callB;rw [h1];rfl
  have:=hq h2
  rw [e];simp only [List.length_append,List.length_cons,show wSub.length=3 from rfl];omega
 ·have e:callB o=wReplace ++ numsB [o.id] ++ 32 :: quoteL (Lb o.text):=by unfold callB;rw [h1];rfl
  have:=hq h2
  rw [e];simp only [List.length_append,List.length_cons,show wReplace.length=7 from rfl];omega
 ·have e:callB o=wUnsub ++ numsB [o.id]:=by unfold callB;rw [h1];rfl
  rw [e];simp only [List.length_append,show wUnsub.length=5 from rfl];omega
 ·have e:callB o=wMatch ++ pairsB o.ev:=by unfold callB;rw [h1];rfl
  have:=pairsB_len h2
  rw [e];simp only [List.length_append,show wMatch.length=5 from rfl];omega
/-- How great an op may be, so that it can be written. -/
def OpZ (o:Sop):Prop:=o.ev.length * 294 + o.nums.length * 22 + 20000<=140737488355328
set_option maxHeartbeats 4000000 in
set_option maxRecDepth 100000 in
theorem opLine_call {w:World} {u:Ou} {o:Sop} (hk:o.kind=1) (hc:callOk o=true) (hI:SopI o) (hin:OpIn w u o) (hG:G w) (hz:OpZ o) :
  Calls Tryz.prog 33 #[u.val] w fun e w'=>e=.returned (.string ⟨(lineB o).toArray⟩)/\Below w.heap.size w w':=by
 unfold OpZ at hz
 have hw:(⟨(opW 1).toArray⟩:ByteArray).size=4:=by rw [ba_size];rfl
 have hI1:I64 u.who:=by rw [hin.who];exact hI.who
 have hn1:(⟨(Lb ⟨(opW 1).toArray⟩ ++ numsB [u.who]).toArray⟩:ByteArray).size<=26:=by
  rw [ba_size,lb_mk,List.length_append]
  have h1:=numsB1_len hI1
  have h2:(opW 1).length=4:=rfl
  omega
 have hcl:(⟨(callB o).toArray⟩:ByteArray).size<=140737488355328:=by
  rw [ba_size];have:=callB_len hc hI;omega
 have hline:lineB o=wCall ++ numsB [u.who] ++ 32 :: callB o:=by unfold lineB;rw [if_pos hk,hk,hin.who];rfl
 rw [hline]
 obtain ⟨X,HX⟩:∃ X,w.alloc (.cells #[.int .i64 u.kind,.int .i64 u.who,.int .i64 u.ck,.int .i64 u.id,.string u.text,.slice u.qe u.ne u.ce,.slice u.qn u.nn u.cn] 42)=X:=⟨_,rfl⟩
 have hwX:Below w.heap.size w X:=by rw [<- HX];exact (Below.refl _ _).alloc (Nat.le_refl _) _
 have hX:X.heap[w.heap.size]? = some (.cells #[.int .i64 u.kind,.int .i64 u.who,.int .i64 u.ck,.int .i64 u.id,.string u.text,.slice u.qe u.ne u.ce,.slice u.qn u.nn u.cn] 42 (0,0)):=by rw [<- HX];exact box_new _ _
 have hk1:u.kind=1:=hin.kind.trans hk
 obtain ⟨x0,x1,x2,x3,x4,x5,x6⟩:=of7s hX
 rw [hk1] at x0
 have hCT:=fun (W:World) (hb:Below X.heap.size X W)=>callText_any hc hI ((hin.below hwX).below hb) (G_below (G_below hG hwX) hb) (by omega)
 have hN:=fun (W:World) (hW:G W) (hs:SlOf encI 1 W (some ⟨X.heap.size,0,none⟩) 1 [u.who])=>numbered_any ⟨(opW 1).toArray⟩ (some ⟨X.heap.size,0,none⟩) 1 [u.who] W hW (by intro n hn;simp at hn;subst hn;exact hI1) (by rw [hw];simp) hs
 simp only [List.length_singleton] at hN
 have HN:=hide hN
 have HCT:=hide hCT
 have HWX:=hide hwX
 have HXB:=hide hX
 have HG:=hide hG
 have KS:∀ W,Below X.heap.size X W->(fun w':World=>w'.cell? ⟨w.heap.size,1,none⟩=some (.int .i64 u.who)/\w'.cell? ⟨w.heap.size,2,none⟩=some (.int .i64 u.ck)/\w'.cell? ⟨w.heap.size,3,none⟩=some (.int .i64 u.id)/\w'.cell? ⟨w.heap.size,4,none⟩=some (.string u.text)/\w'.cell? ⟨w.heap.size,5,none⟩=some (.slice u.qe u.ne u.ce)) W:=fun W hW=>by
  obtain ⟨a0,a1,a2,a3,a4,a5,a6⟩:=of7s (blk_onS (uh HXB) hW)
  exact ⟨a1,a2,a3,a4,a5⟩
 have KSH:=hide KS
 clear hN hCT KS hG hwX hX hI1 hI hc hin hz hk hline
 unfold Ou.val
 go_enter Tryz.func33,Tryz.ntmps33
 rw [hk1]
 rw [hk1] at HX
 go_wp2_with (go_at_call 65;refine (opWord_any 1 _).mono ?_;rintro e w1 ⟨rfl,h1⟩;obtain rfl:=h1.symm)
 go_region_held3 (fun w':World=>w'.cell? ⟨w.heap.size,1,none⟩=some (.int .i64 u.who)/\w'.cell? ⟨w.heap.size,2,none⟩=some (.int .i64 u.ck)/\w'.cell? ⟨w.heap.size,3,none⟩=some (.int .i64 u.id)/\w'.cell? ⟨w.heap.size,4,none⟩=some (.string u.text)/\w'.cell? ⟨w.heap.size,5,none⟩=some (.slice u.qe u.ne u.ce)) (first | exact uh KSH _ (by (repeat (first | exact Below.refl _ _ | exact uh R2 | exact uh R1 | refine Below.drew ?_ | refine bal ?_ _)))) (first
  | (go_at_call 55;refine (uh HN _ (by exact G_below (G_below (uh HG) (uh HWX)) (by (repeat (first | exact Below.refl _ _ | exact uh R2 | exact uh R1 | refine Below.drew ?_ | refine bal ?_ _)))) (by exact one_int X u.who)).mono ?_;rintro e w2 ⟨rfl,b2⟩;simp only;obtain ⟨A,hA⟩:∃ A,(⟨(Lb ⟨(opW 1).toArray⟩ ++ numsB [u.who]).toArray⟩:ByteArray)=A:=⟨_,rfl⟩;rw [hA];have na:A.size<=26:=(by rw [<- hA];exact hn1);have nb:¬ 9223372036854775807 < A.size + 1:=(by omega);have HA:=hide hA;clear hA;have R1:=hide (show Below X.heap.size X w2 from below_sub (by (repeat (first | exact Below.refl _ _ | exact uh R2 | exact uh R1 | refine Below.drew ?_ | refine bal ?_ _))) b2);clear b2)
  | (go_at_call 66;refine (uh HCT _ (by (repeat (first | exact Below.refl _ _ | exact uh R2 | exact uh R1 | refine Below.drew ?_ | refine bal ?_ _)))).mono ?_;rintro e w3 ⟨rfl,b3⟩;simp only;obtain ⟨Qs,hQ⟩:∃ Qs,(⟨(callB o).toArray⟩:ByteArray)=Qs:=⟨_,rfl⟩;rw [hQ];have nq:Qs.size<=140737488355328:=(by rw [<- hQ];exact hcl);have nc:¬ 9223372036854775807 < A.size + 1 + Qs.size:=(by omega);have HQs:=hide hQ;clear hQ;have R2:=hide (show Below X.heap.size X w3 from below_sub (by (repeat (first | exact Below.refl _ _ | exact uh R2 | exact uh R1 | refine Below.drew ?_ | refine bal ?_ _))) b3);clear b3))
 go_wp2
 go_ret
 refine ⟨ret_str2 ?_,below_sub (uh HWX) (uh R2)⟩
 have e:opW 1=wCall:=rfl
 rw [<- uh HA,<- uh HQs]
 simp [lb_mk,e]
set_option maxHeartbeats 4000000 in
set_option maxRecDepth 100000 in
theorem opLine_else {w:World} {u:Ou} {o:Sop} (hk:o.kind ≠ 1) (hI:SopI o) (hin:OpIn w u o) (hG:G w) (hz:OpZ o) :
  Calls Tryz.prog 33 #[u.val] w fun e w'=>e=.returned (.string ⟨(lineB o).toArray⟩)/\Below w.heap.size w w':=by
 unfold OpZ at hz
 have hw:(⟨(opW u.kind).toArray⟩:ByteArray).size<=5:=by rw [ba_size];exact opW_len _
 have hline:lineB o=opW u.kind ++ numsB o.nums:=by unfold lineB;rw [if_neg hk,hin.kind]
 have n1:(u.kind == 1)=false:=by rw [hin.kind];simpa using hk
 rw [hline]
 obtain ⟨X,HX⟩:∃ X,w.alloc (.cells #[.int .i64 u.kind,.int .i64 u.who,.int .i64 u.ck,.int .i64 u.id,.string u.text,.slice u.qe u.ne u.ce,.slice u.qn u.nn u.cn] 42)=X:=⟨_,rfl⟩
 have hwX:Below w.heap.size w X:=by rw [<- HX];exact (Below.refl _ _).alloc (Nat.le_refl _) _
 have hX:X.heap[w.heap.size]? = some (.cells #[.int .i64 u.kind,.int .i64 u.who,.int .i64 u.ck,.int .i64 u.id,.string u.text,.slice u.qe u.ne u.ce,.slice u.qn u.nn u.cn] 42 (0,0)):=by rw [<- HX];exact box_new _ _
 obtain ⟨x0,x1,x2,x3,x4,x5,x6⟩:=of7s hX
 have hN:=numbered_any ⟨(opW u.kind).toArray⟩ u.qn u.cn o.nums X (G_below hG hwX) hI.nums (by omega) (hin.nums.below hwX)
 rw [<- hin.nn] at hN
 have HN:=hide hN
 have HWX:=hide hwX
 clear hN hG hwX hX hI hin hz hk hline
 unfold Ou.val
 go_enter Tryz.func33,Tryz.ntmps33
 go_wp2_with (first
  | (go_at_call 65;refine (opWord_any u.kind _).mono ?_;rintro e w1 ⟨rfl,h1⟩;obtain rfl:=h1.symm)
  | (go_at_call 55;refine (uh HN).mono ?_;rintro e w2 ⟨rfl,b2⟩;have B2:=hide b2;clear b2))
 go_ret
 exact ⟨ret_str2 (by simp [lb_mk]),below_sub (uh HWX) (uh B2)⟩
theorem opLine_any {w:World} {u:Ou} {o:Sop} (ho:opOk o=true) (hI:SopI o) (hin:OpIn w u o) (hG:G w) (hz:OpZ o) :
  Calls Tryz.prog 33 #[u.val] w fun e w'=>e=.returned (.string ⟨(lineB o).toArray⟩)/\Below w.heap.size w w':=by
 by_cases hk:o.kind=1
 ·refine opLine_call hk ?_ hI hin hG hz
  unfold opOk at ho
  rw [if_pos hk] at ho
  simp only [Bool.and_eq_true] at ho
  exact ho.2.2
 ·exact opLine_else hk hI hin hG hz
end Go.Proofs.YtdgoibnndfibnaaGreatDoor

/- What write and Text do, for every tree. -/
import Derived.Test.YtikhopiegaoacaaDoorTWriteTree
namespace Go.Proofs.YtikhopiegaoacaaDoor
open Go.RowKit

set_option maxHeartbeats 4000000 in
theorem write_1 (w0:World) (hG0:G w0) (b:Nat) (acc:List UInt8) (kind:Int) (attr:ByteArray) (qi:Option Addr) (ci:Nat) (ints:List Int) (qw:Option Addr) (cw:Nat) (words:List ByteArray) (lo hi:Int) (qk:Option Addr) (ck:Nat) (kids:List Nd) (w:World) (hw:Below w0.heap.size w0 w) (h1:SlOf encI 1 w0 qi ci ints) (h2:SlOf encS 1 w0 qw cw words) (l1:ints.length≤1000000000) (l2:words.length≤1000000000) (hb:Bld w0.heap.size b acc w) (hlen:(acc ++ (predL kind attr ints words lo hi)).length≤140737488355328) :
  Calls Tryd.prog 31 #[.pointer (some ⟨b,0,none⟩),.agg #[.int .i64 kind,.string attr,.slice qi ints.length ci,.slice qw words.length cw,.int .i64 lo,.int .i64 hi,.int .i64 1,.slice qk kids.length ck]] w fun e w'=>e=.returned (.tuple #[])∧Bld w0.heap.size b (acc ++ (predL kind attr ints words lo hi)) w'∧Kept w0.heap.size b w w':=by
 have hblt:=hb.lt
 have hws:=hw.size
 obtain ⟨X,HX⟩:∃ X,w.alloc (.cells #[.int .i64 kind,.string attr,.slice qi ints.length ci,.slice qw words.length cw,.int .i64 lo,.int .i64 hi,.int .i64 1,.slice qk kids.length ck] 29)=X:=⟨_,rfl⟩
 have hX0:X.heap[w.heap.size]? = some (.cells #[.int .i64 kind,.string attr,.slice qi ints.length ci,.slice qw words.length cw,.int .i64 lo,.int .i64 hi,.int .i64 1,.slice qk kids.length ck] 29 (0,0)):=by rw [← HX];exact box_new _ _
 have hwX:Below w.heap.size w X:=by rw [← HX];exact (Below.refl _ _).alloc (Nat.le_refl _) _
 obtain ⟨x0,x1,x2,x3,x4,x5,x6,x7⟩:=of8 hX0
 have HX0:=hide hX0
 have HWX:=hide (Kept.of (b:=b) hwX hws)
 have HBX:=hide (hb.below hwX)
 have HXW:=hide (hw.trans (hwX.mono hws))
 have hXs:=hwX.size
 have h3:=writePred_any w0 hG0 b acc kind attr qi ci ints qw cw words lo hi X (uh HXW) h1 h2 l1 l2 (uh HBX) hlen
 clear h1 h2
 clear hb hw hX0 hwX
 go_enter Tryd.func31,Tryd.ntmps31
 go_wp2_with (first
  | (go_at_call 52;refine h3.mono ?_;rintro e w3 ⟨rfl,d3,k3⟩;have D3:=hide d3;have K3:=hide k3;clear d3 k3))
 go_end0
 exact ⟨rfl,by exact uh D3,(uh HWX).trans (uh K3)⟩
set_option maxHeartbeats 4000000 in
theorem write_2 (w0:World) (b:Nat) (acc:List UInt8) (kind:Int) (attr:ByteArray) (qi:Option Addr) (ci:Nat) (ints:List Int) (qw:Option Addr) (cw:Nat) (words:List ByteArray) (lo hi:Int) (qk:Option Addr) (ck:Nat) (kids:List Nd) (w:World) (hw:Below w0.heap.size w0 w) (hk:NdsOf w0 qk ck kids) (ih:∀ x ∈ kids,WriteP w0 b x) (hwt:wtL kids≤1000000000) (hb:Bld w0.heap.size b acc w) (hlen:(acc ++ ([33] ++ jl [] 0 (kids.map (kidL 2)))).length≤140737488355328) :
  Calls Tryd.prog 31 #[.pointer (some ⟨b,0,none⟩),.agg #[.int .i64 kind,.string attr,.slice qi ints.length ci,.slice qw words.length cw,.int .i64 lo,.int .i64 hi,.int .i64 2,.slice qk kids.length ck]] w fun e w'=>e=.returned (.tuple #[])∧Bld w0.heap.size b (acc ++ ([33] ++ jl [] 0 (kids.map (kidL 2)))) w'∧Kept w0.heap.size b w w':=by
 have hblt:=hb.lt
 have hws:=hw.size
 obtain ⟨X,HX⟩:∃ X,w.alloc (.cells #[.int .i64 kind,.string attr,.slice qi ints.length ci,.slice qw words.length cw,.int .i64 lo,.int .i64 hi,.int .i64 2,.slice qk kids.length ck] 29)=X:=⟨_,rfl⟩
 have hX0:X.heap[w.heap.size]? = some (.cells #[.int .i64 kind,.string attr,.slice qi ints.length ci,.slice qw words.length cw,.int .i64 lo,.int .i64 hi,.int .i64 2,.slice qk kids.length ck] 29 (0,0)):=by rw [← HX];exact box_new _ _
 have hwX:Below w.heap.size w X:=by rw [← HX];exact (Below.refl _ _).alloc (Nat.le_refl _) _
 obtain ⟨x0,x1,x2,x3,x4,x5,x6,x7⟩:=of8 hX0
 have HX0:=hide hX0
 have HWX:=hide (Kept.of (b:=b) hwX hws)
 have HBX:=hide (hb.below hwX)
 have HXW:=hide (hw.trans (hwX.mono hws))
 have hXs:=hwX.size
 simp only [List.length_append,List.length_cons,List.length_nil] at hlen
 have h4:=writeByte_any w0.heap.size b acc 33 33 rfl X (uh HBX) (by omega) (Nat.le_trans hws hXs)
 have h3:=fun w hw hb=>writeKids_any w0 b (acc ++ [33]) kind attr qi ints.length ci qw words.length cw lo hi 2 qk ck kids ⟨#[]⟩ w hw hk ih hwt hb (by simp only [List.length_append,List.length_cons,List.length_nil];show _ + _ + (jl [] 0 (kids.map (kidL 2))).length≤_;omega)
 clear hk ih
 clear hb hw hX0 hwX
 go_enter Tryd.func31,Tryd.ntmps31
 go_wp2_with (first
  | (go_at_call 53;refine h4.mono ?_;rintro e w2 ⟨rfl,d2,k2⟩;obtain ⟨p0,p1,p2,p3,p4,p5,p6,p7⟩:=of8 (k2.box (uh HX0) (by decide) (by omega));have D2:=hide d2;have K2:=hide k2;clear d2 k2)
  | (go_at_call 54;refine (h3 _ (by exact (uh HXW).trans (uh K2).1) (by exact uh D2)).mono ?_;rintro e w3 ⟨rfl,d3,k3⟩;have D3:=hide d3;have K3:=hide k3;clear d3 k3))
 go_end0
 exact ⟨rfl,by have:=uh D3;simpa using this,(uh HWX).trans ((uh K2).trans (uh K3))⟩
set_option maxHeartbeats 4000000 in
theorem write_3 (w0:World) (b:Nat) (acc:List UInt8) (kind:Int) (attr:ByteArray) (qi:Option Addr) (ci:Nat) (ints:List Int) (qw:Option Addr) (cw:Nat) (words:List ByteArray) (lo hi:Int) (qk:Option Addr) (ck:Nat) (kids:List Nd) (w:World) (hw:Below w0.heap.size w0 w) (hk:NdsOf w0 qk ck kids) (ih:∀ x ∈ kids,WriteP w0 b x) (hwt:wtL kids≤1000000000) (hb:Bld w0.heap.size b acc w) (hlen:(acc ++ (jl [32,38,32] 0 (kids.map (kidL 3)))).length≤140737488355328) :
  Calls Tryd.prog 31 #[.pointer (some ⟨b,0,none⟩),.agg #[.int .i64 kind,.string attr,.slice qi ints.length ci,.slice qw words.length cw,.int .i64 lo,.int .i64 hi,.int .i64 3,.slice qk kids.length ck]] w fun e w'=>e=.returned (.tuple #[])∧Bld w0.heap.size b (acc ++ (jl [32,38,32] 0 (kids.map (kidL 3)))) w'∧Kept w0.heap.size b w w':=by
 have hblt:=hb.lt
 have hws:=hw.size
 obtain ⟨X,HX⟩:∃ X,w.alloc (.cells #[.int .i64 kind,.string attr,.slice qi ints.length ci,.slice qw words.length cw,.int .i64 lo,.int .i64 hi,.int .i64 3,.slice qk kids.length ck] 29)=X:=⟨_,rfl⟩
 have hX0:X.heap[w.heap.size]? = some (.cells #[.int .i64 kind,.string attr,.slice qi ints.length ci,.slice qw words.length cw,.int .i64 lo,.int .i64 hi,.int .i64 3,.slice qk kids.length ck] 29 (0,0)):=by rw [← HX];exact box_new _ _
 have hwX:Below w.heap.size w X:=by rw [← HX];exact (Below.refl _ _).alloc (Nat.le_refl _) _
 obtain ⟨x0,x1,x2,x3,x4,x5,x6,x7⟩:=of8 hX0
 have HX0:=hide hX0
 have HWX:=hide (Kept.of (b:=b) hwX hws)
 have HBX:=hide (hb.below hwX)
 have HXW:=hide (hw.trans (hwX.mono hws))
 have hXs:=hwX.size
 have h3:=writeKids_any w0 b acc kind attr qi ints.length ci qw words.length cw lo hi 3 qk ck kids ⟨#[32,38,32]⟩ X (uh HXW) hk ih hwt (uh HBX) hlen
 clear hk ih
 clear hb hw hX0 hwX
 go_enter Tryd.func31,Tryd.ntmps31
 go_wp2_with (first
  | (go_at_call 54;refine h3.mono ?_;rintro e w3 ⟨rfl,d3,k3⟩;have D3:=hide d3;have K3:=hide k3;clear d3 k3))
 go_end0
 exact ⟨rfl,by exact uh D3,(uh HWX).trans (uh K3)⟩
set_option maxHeartbeats 4000000 in
theorem write_4 (w0:World) (b:Nat) (acc:List UInt8) (kind:Int) (attr:ByteArray) (qi:Option Addr) (ci:Nat) (ints:List Int) (qw:Option Addr) (cw:Nat) (words:List ByteArray) (lo hi:Int) (qk:Option Addr) (ck:Nat) (kids:List Nd) (w:World) (hw:Below w0.heap.size w0 w) (hk:NdsOf w0 qk ck kids) (ih:∀ x ∈ kids,WriteP w0 b x) (hwt:wtL kids≤1000000000) (hb:Bld w0.heap.size b acc w) (hlen:(acc ++ (jl [32,124,32] 0 (kids.map (kidL 4)))).length≤140737488355328) :
  Calls Tryd.prog 31 #[.pointer (some ⟨b,0,none⟩),.agg #[.int .i64 kind,.string attr,.slice qi ints.length ci,.slice qw words.length cw,.int .i64 lo,.int .i64 hi,.int .i64 4,.slice qk kids.length ck]] w fun e w'=>e=.returned (.tuple #[])∧Bld w0.heap.size b (acc ++ (jl [32,124,32] 0 (kids.map (kidL 4)))) w'∧Kept w0.heap.size b w w':=by
 have hblt:=hb.lt
 have hws:=hw.size
 obtain ⟨X,HX⟩:∃ X,w.alloc (.cells #[.int .i64 kind,.string attr,.slice qi ints.length ci,.slice qw words.length cw,.int .i64 lo,.int .i64 hi,.int .i64 4,.slice qk kids.length ck] 29)=X:=⟨_,rfl⟩
 have hX0:X.heap[w.heap.size]? = some (.cells #[.int .i64 kind,.string attr,.slice qi ints.length ci,.slice qw words.length cw,.int .i64 lo,.int .i64 hi,.int .i64 4,.slice qk kids.length ck] 29 (0,0)):=by rw [← HX];exact box_new _ _
 have hwX:Below w.heap.size w X:=by rw [← HX];exact (Below.refl _ _).alloc (Nat.le_refl _) _
 obtain ⟨x0,x1,x2,x3,x4,x5,x6,x7⟩:=of8 hX0
 have HX0:=hide hX0
 have HWX:=hide (Kept.of (b:=b) hwX hws)
 have HBX:=hide (hb.below hwX)
 have HXW:=hide (hw.trans (hwX.mono hws))
 have hXs:=hwX.size
 have h3:=writeKids_any w0 b acc kind attr qi ints.length ci qw words.length cw lo hi 4 qk ck kids ⟨#[32,124,32]⟩ X (uh HXW) hk ih hwt (uh HBX) hlen
 clear hk ih
 clear hb hw hX0 hwX
 go_enter Tryd.func31,Tryd.ntmps31
 go_wp2_with (first
  | (go_at_call 54;refine h3.mono ?_;rintro e w3 ⟨rfl,d3,k3⟩;have D3:=hide d3;have K3:=hide k3;clear d3 k3))
 go_end0
 exact ⟨rfl,by exact uh D3,(uh HWX).trans (uh K3)⟩
set_option maxHeartbeats 4000000 in
theorem write_x (w0:World) (b:Nat) (acc:List UInt8) (kind:Int) (attr:ByteArray) (qi:Option Addr) (ci:Nat) (ints:List Int) (qw:Option Addr) (cw:Nat) (words:List ByteArray) (lo hi op:Int) (qk:Option Addr) (ck:Nat) (kids:List Nd) (w:World) (hw:Below w0.heap.size w0 w) (o1:¬ op=1) (o2:¬ op=2) (o3:¬ op=3) (o4:¬ op=4) (hb:Bld w0.heap.size b acc w) :
  Calls Tryd.prog 31 #[.pointer (some ⟨b,0,none⟩),.agg #[.int .i64 kind,.string attr,.slice qi ints.length ci,.slice qw words.length cw,.int .i64 lo,.int .i64 hi,.int .i64 op,.slice qk kids.length ck]] w fun e w'=>e=.returned (.tuple #[])∧Bld w0.heap.size b (acc ++ (([]:List UInt8))) w'∧Kept w0.heap.size b w w':=by
 have hblt:=hb.lt
 have hws:=hw.size
 obtain ⟨X,HX⟩:∃ X,w.alloc (.cells #[.int .i64 kind,.string attr,.slice qi ints.length ci,.slice qw words.length cw,.int .i64 lo,.int .i64 hi,.int .i64 op,.slice qk kids.length ck] 29)=X:=⟨_,rfl⟩
 have hX0:X.heap[w.heap.size]? = some (.cells #[.int .i64 kind,.string attr,.slice qi ints.length ci,.slice qw words.length cw,.int .i64 lo,.int .i64 hi,.int .i64 op,.slice qk kids.length ck] 29 (0,0)):=by rw [← HX];exact box_new _ _
 have hwX:Below w.heap.size w X:=by rw [← HX];exact (Below.refl _ _).alloc (Nat.le_refl _) _
 obtain ⟨x0,x1,x2,x3,x4,x5,x6,x7⟩:=of8 hX0
 have HX0:=hide hX0
 have HWX:=hide (Kept.of (b:=b) hwX hws)
 have HBX:=hide (hb.below hwX)
 have HXW:=hide (hw.trans (hwX.mono hws))
 have hXs:=hwX.size
 have q1:(op == 1)=false:=by simpa using o1
 have q2:(op == 2)=false:=by simpa using o2
 have q3:(op == 3)=false:=by simpa using o3
 have q4:(op == 4)=false:=by simpa using o4
 clear HXW HX0
 clear hb hw hX0 hwX
 go_enter Tryd.func31,Tryd.ntmps31
 go_wp2
 go_end0
 exact ⟨rfl,by rw [List.append_nil];exact uh HBX,(uh HWX)⟩
theorem write_any (w0:World) (hG0:G w0) (b:Nat):∀ x,WriteP w0 b x:=by
 intro t
 induction t using Nd.ind with
 | h kind attr ints words lo hi op kids ih =>
  intro v w acc hin hw hb hlen hwt
  obtain ⟨qi,ci,qw,cw,qk,ck,rfl,h1,h2,hk⟩:=hin.parts
  simp only [wtN] at hwt
  have hwl:=words_len words
  simp only [Nv.val]
  rw [textN_eq] at hlen ⊢
  by_cases o1:op=1
  ·subst o1;rw [if_pos rfl] at hlen ⊢;exact write_1 w0 hG0 b acc kind attr qi ci ints qw cw words lo hi qk ck kids w hw h1 h2 (by omega) (by omega) hb hlen
  by_cases o2:op=2
  ·subst o2;rw [if_neg o1,if_pos rfl] at hlen ⊢;exact write_2 w0 b acc kind attr qi ci ints qw cw words lo hi qk ck kids w hw hk ih (by omega) hb hlen
  by_cases o3:op=3
  ·subst o3;rw [if_neg o1,if_neg o2,if_pos rfl] at hlen ⊢;exact write_3 w0 b acc kind attr qi ci ints qw cw words lo hi qk ck kids w hw hk ih (by omega) hb hlen
  by_cases o4:op=4
  ·subst o4;rw [if_neg o1,if_neg o2,if_neg o3,if_pos rfl] at hlen ⊢;exact write_4 w0 b acc kind attr qi ci ints qw cw words lo hi qk ck kids w hw hk ih (by omega) hb hlen
  rw [if_neg o1,if_neg o2,if_neg o3,if_neg o4]
  exact write_x w0 b acc kind attr qi ci ints qw cw words lo hi op qk ck kids w hw o1 o2 o3 o4 hb
/-- A new builder. -/
theorem Bld.new (w:World):Bld w.heap.size w.heap.size [] (w.alloc (.cells #[.pointer none,.slice none 0 0] 55)) :=
 Or.inl ⟨Nat.le_refl _,.slice none 0 0,box_new _ _,World.ownsRowF_nil _ _ _ _,by simp [Value.ownBlock]⟩
/-- What Text answers. -/
def textB4 (t:Nd):ByteArray:=if chkN t then ⟨(textN t).toArray⟩ else ⟨#[]⟩
set_option maxHeartbeats 4000000 in
theorem textT_any (t:Nd) (v:Nv) (w:World) (hG:G w) (hin:NdIn w v t) (hwt:wtN t≤1000000000) (hlen:(textN t).length≤140737488355328) :
  Calls Tryd.prog 16 #[v.val] w fun e w'=>e=.returned (.tuple #[.string (textB4 t),.int .i64 (code (chkN t))])∧Below w.heap.size w w':=by
 obtain ⟨X,HX⟩:∃ X,w.alloc (.cells #[.int .i64 v.kind,.string v.attr,.slice v.qi v.ni v.ci,.slice v.qw v.nw v.cw,.int .i64 v.lo,.int .i64 v.hi,.int .i64 v.op,.slice v.qk v.nk v.ck] 29)=X:=⟨_,rfl⟩
 have hX0:X.heap[w.heap.size]? = some (.cells #[.int .i64 v.kind,.string v.attr,.slice v.qi v.ni v.ci,.slice v.qw v.nw v.cw,.int .i64 v.lo,.int .i64 v.hi,.int .i64 v.op,.slice v.qk v.nk v.ck] 29 (0,0)):=by rw [← HX];exact box_new _ _
 have hwX:Below w.heap.size w X:=by rw [← HX];exact (Below.refl _ _).alloc (Nat.le_refl _) _
 have hc:=checkT_any t v X (hin.keep hwX) hwt
 obtain ⟨x0,x1,x2,x3,x4,x5,x6,x7⟩:=of8 hX0
 simp only [Nv.val] at hc ⊢
 have HWX:=hide hwX
 unfold textB4
 cases hq:chkN t with
 | false =>
  rw [hq] at hc
  simp only [code,Bool.false_eq_true,if_false] at hc ⊢
  clear hq hX0 hwX hlen
  go_enter Tryd.func16,Tryd.ntmps16
  go_wp2_with (go_at_call 17;refine hc.mono ?_;rintro e w1 ⟨rfl,b1⟩)
  go_ret2
  exact ⟨rfl,below_sub (uh HWX) b1⟩
 | true =>
  rw [hq] at hc
  simp only [code,if_true] at hc ⊢
  have hwr:=fun (w1:World) (hb1:Below X.heap.size X w1)=>write_any w1 (G_below (G_below hG hwX) hb1) w1.heap.size t v (w1.alloc (.cells #[.pointer none,.slice none 0 0] 55)) [] ((hin.keep hwX).keep hb1) ((Below.refl _ _).alloc (Nat.le_refl _) _) (Bld.new w1) (by simpa using hlen) hwt
  simp only [Nv.val,List.nil_append] at hwr
  have hst:=fun B b w h hB=>Tryd.Builder_String_any_k B b (textN t) w h hB
  have HX0:=hide (heap_lt hX0)
  clear hq hwX hlen hin
  go_enter Tryd.func16,Tryd.ntmps16
  go_wp2_with (first
   | (go_at_call 17;refine hc.mono ?_;rintro e w1 ⟨rfl,b1⟩;obtain ⟨p0,p1,p2,p3,p4,p5,p6,p7⟩:=of8 ((b1.block _ (uh HX0)).trans hX0);have hlt1:w.heap.size < w1.heap.size:=Nat.lt_of_lt_of_le (uh HX0) b1.size;have hne1:¬ w.heap.size=w1.heap.size:=Nat.ne_of_lt hlt1;have B1:=hide b1;clear b1)
   | (go_at_call 31;refine (hwr w1 (uh B1)).mono ?_;rintro e w2 ⟨rfl,d2,k2⟩;have D2:=hide d2;have K2:=hide k2;clear d2 k2)
   | (go_at_call 32;refine (hst w1.heap.size w1.heap.size _ (by exact uh D2) (by exact Nat.le_trans (by simp) (uh K2).1.size)).mono ?_;rintro e w3 ⟨rfl,d3,k3,_⟩;have K3:=hide k3;clear d3 k3))
  go_ret2
  exact ⟨rfl,below_sub (below_sub (uh HWX) (uh B1)) (((Below.refl _ _).alloc (Nat.le_refl _) _).trans ((uh K2).1.trans (uh K3)))⟩
end Go.Proofs.YtikhopiegaoacaaDoor

/- What write and Text do, for every tree. -/
import Derived.Test.YtikhopiegaoacaaDoorTWrite
import Derived.Test.YtikhopiegaoacaaDoorTCheck
namespace Go.Proofs.YtikhopiegaoacaaDoor
open Go.RowKit

/-- How a predicate is written. -/
def predL (kind:Int) (attr:ByteArray) (ints:List Int) (words:List ByteArray) (lo hi:Int):List UInt8 :=
 attr.data.toList ++ [32] ++ (if kind=1 then [123] ++ jl [44,32] 0 (ints.map itI) ++ [125] else if kind=2 then [123] ++ jl [44,32] 0 (words.map itW) ++ [125] else if kind=3 then [91] ++ jl [44,32] 0 ([lo,hi].map itI) ++ [93] else if kind=4 then [] ++ jl [44,32] 0 (words.map itW) ++ [42] else [])
def Nd.op:Nd→Int
 | .mk _ _ _ _ _ _ op _=>op
def wrapB (b:Bool) (l:List UInt8):List UInt8:=if b then [40] ++ l ++ [41] else l
mutual
/-- How a tree is written. -/
def textN:Nd→List UInt8
 | .mk kind attr ints words lo hi op ks=>if op=1 then predL kind attr ints words lo hi else if op=2 then [33] ++ jl [] 0 ((ks.zip (textsL ks)).map fun p=>wrapB (brack 2 p.1.op) p.2) else if op=3 then jl [32,38,32] 0 ((ks.zip (textsL ks)).map fun p=>wrapB (brack 3 p.1.op) p.2) else if op=4 then jl [32,124,32] 0 ((ks.zip (textsL ks)).map fun p=>wrapB (brack 4 p.1.op) p.2) else []
def textsL:List Nd→List (List UInt8)
 | []=>[]
 | x :: xs=>textN x :: textsL xs
end
def kidL (op:Int) (x:Nd):List UInt8:=wrapB (brack op x.op) (textN x)
theorem kids_eq (op:Int) (ks:List Nd):((ks.zip (textsL ks)).map fun p=>wrapB (brack op p.1.op) p.2)=ks.map (kidL op):=by
 induction ks with
 | nil=>rfl
 | cons x xs ih=>simp only [textsL,List.zip_cons_cons,List.map_cons,ih];rfl
theorem textN_eq (kind:Int) (attr:ByteArray) (ints:List Int) (words:List ByteArray) (lo hi op:Int) (ks:List Nd):textN (.mk kind attr ints words lo hi op ks)=if op=1 then predL kind attr ints words lo hi else if op=2 then [33] ++ jl [] 0 (ks.map (kidL 2)) else if op=3 then jl [32,38,32] 0 (ks.map (kidL 3)) else if op=4 then jl [32,124,32] 0 (ks.map (kidL 4)) else []:=by
 rw [textN,kids_eq,kids_eq,kids_eq]
theorem Kept.box {B b:Nat} {w w':World} {N:Nat} {cs:Array Value} {T:TypeId} (h:Kept B b w w') (hk:w.heap[N]? = some (.cells cs T (0,0))) (hT:T ≠ 5) (hN:N ≠ b):w'.heap[N]? = some (.cells cs T (0,0)) :=
 h.2 N _ hk (fun e=>hN (Option.some.inj e)) (fun c fz e=>by injection e with _ e2;exact hT e2)
theorem Bld.lt {B b:Nat} {l:List UInt8} {w:World} (h:Bld B b l w):b < w.heap.size:=by
 rcases h with h | h <;> exact h.lt
theorem box_new (w:World) (o:Obj):(w.alloc o).heap[w.heap.size]? = some o:=by simp [World.alloc,-World.alloc_eq]
theorem box_old {w:World} {k:Nat} {o:Obj} (o':Obj) (h:w.heap[k]? = some o):(w.alloc o').heap[k]? = some o:=by rw [Below.heap_alloc w o' k (heap_lt h)];exact h
theorem of6 {w:World} {N:Nat} {a0 a1 a2 a3 a4 a5:Value} {T:TypeId} (h:w.heap[N]? = some (.cells #[a0,a1,a2,a3,a4,a5] T (0,0))):w.cell? ⟨N,0,none⟩=some a0∧w.cell? ⟨N,1,none⟩=some a1∧w.cell? ⟨N,2,none⟩=some a2∧w.cell? ⟨N,3,none⟩=some a3∧w.cell? ⟨N,4,none⟩=some a4∧w.cell? ⟨N,5,none⟩=some a5:=by
 refine ⟨?_, ?_, ?_, ?_, ?_, ?_⟩ <;> (rw [Lib.cell_of_heap h];rfl)
theorem of8 {w:World} {N:Nat} {a0 a1 a2 a3 a4 a5 a6 a7:Value} {T:TypeId} (h:w.heap[N]? = some (.cells #[a0,a1,a2,a3,a4,a5,a6,a7] T (0,0))):w.cell? ⟨N,0,none⟩=some a0∧w.cell? ⟨N,1,none⟩=some a1∧w.cell? ⟨N,2,none⟩=some a2∧w.cell? ⟨N,3,none⟩=some a3∧w.cell? ⟨N,4,none⟩=some a4∧w.cell? ⟨N,5,none⟩=some a5∧w.cell? ⟨N,6,none⟩=some a6∧w.cell? ⟨N,7,none⟩=some a7:=by
 refine ⟨?_, ?_, ?_, ?_, ?_, ?_, ?_, ?_⟩ <;> (rw [Lib.cell_of_heap h];rfl)
theorem two_ints {w:World} {M:Nat} {lo hi:Int} (h:w.heap[M]? = some (.cells #[.int .i64 lo,.int .i64 hi] 3 (0,0))):SlOf encI 1 w (some ⟨M,0,none⟩) 2 [lo,hi]:=by
 refine ⟨(fun h=>by cases h),Nat.le_refl _,by unfold maxLen;omega,fun _=>⟨M,0,rfl,heap_lt h,fun j u hj=>?_⟩⟩
 rw [Nat.zero_add,Lib.cell_of_heap h]
 have hs:=(List.getElem?_eq_some_iff.1 hj).1
 simp at hs
 obtain rfl | rfl:j=0 ∨ j=1:=by omega
 ·exact (flat_at (enc:=encI) (k:=1) (l:=[lo,hi]) (j:=0) (x:=lo) rfl 0 (by omega)).symm.trans hj
 ·exact (flat_at (enc:=encI) (k:=1) (l:=[lo,hi]) (j:=1) (x:=hi) rfl 0 (by omega)).symm.trans hj
/-- What write has to do at a tree. -/
def WriteP (w0:World) (b:Nat) (x:Nd):Prop:=∀ (v:Nv) (w:World) (acc:List UInt8),NdIn w0 v x→Below w0.heap.size w0 w→Bld w0.heap.size b acc w→(acc ++ textN x).length≤140737488355328→wtN x≤1000000000 →
 Calls Tryd.prog 31 #[.pointer (some ⟨b,0,none⟩),v.val] w fun e w'=>e=.returned (.tuple #[])∧Bld w0.heap.size b (acc ++ textN x) w'∧Kept w0.heap.size b w w'
set_option maxHeartbeats 4000000 in
theorem writePred_1 (w0:World) (hG0:G w0) (b:Nat) (acc:List UInt8) (attr:ByteArray) (qi:Option Addr) (ci:Nat) (ints:List Int) (qw:Option Addr) (cw:Nat) (words:List ByteArray) (lo hi:Int) (w:World) (hw:Below w0.heap.size w0 w) (hst:SlOf encI 1 w0 qi ci ints) (hl:ints.length≤1000000000) (hb:Bld w0.heap.size b acc w)
  (hlen:(acc ++ (attr.data.toList ++ [32] ++ ([123] ++ jl [44,32] 0 (ints.map itI) ++ [125]))).length≤140737488355328) :
  Calls Tryd.prog 52 #[.pointer (some ⟨b,0,none⟩),.agg #[.int .i64 1,.string attr,.slice qi ints.length ci,.slice qw words.length cw,.int .i64 lo,.int .i64 hi]] w fun e w'=>e=.returned (.tuple #[])∧Bld w0.heap.size b (acc ++ (attr.data.toList ++ [32] ++ ([123] ++ jl [44,32] 0 (ints.map itI) ++ [125]))) w'∧Kept w0.heap.size b w w':=by
 have hlt:=hb.lt
 simp only [List.length_append,bytes_len,List.length_cons,List.length_nil] at hlen
 obtain ⟨X,HX⟩:∃ X,w.alloc (.cells #[.int .i64 1,.string attr,.slice qi ints.length ci,.slice qw words.length cw,.int .i64 lo,.int .i64 hi] 27)=X:=⟨_,rfl⟩
 have hX0:X.heap[w.heap.size]? = some (.cells #[.int .i64 1,.string attr,.slice qi ints.length ci,.slice qw words.length cw,.int .i64 lo,.int .i64 hi] 27 (0,0)):=by rw [← HX];exact box_new _ _
 have hwX:Below w.heap.size w X:=by rw [← HX];exact (Below.refl _ _).alloc (Nat.le_refl _) _
 have hXs:=hwX.size
 have hws:=hw.size
 have h1:=writeString_any w0.heap.size b acc attr X (hb.below hwX) (by omega) (by omega)
 have h2:=fun w hb hs=>writeByte_any w0.heap.size b (acc ++ attr.data.toList) 32 32 rfl w hb (by simp;omega) hs
 have HX0:=hide hX0
 obtain ⟨x0,x1,x2,x3,x4,x5⟩:=of6 hX0
 have HWX:=hide hwX
 have HW:=hide hw
 have h3:=fun w (hw:Below w0.heap.size w0 w) (hb:Bld w0.heap.size b (acc ++ attr.data.toList ++ [32]) w)=>writeI w0 hG0 b (acc ++ attr.data.toList ++ [32]) ⟨#[123]⟩ ⟨#[125]⟩ qi ci ints hl w hw (fun w' hk=>hst.below (hw.trans hk.1)) hb (by simp only [List.length_append,bytes_len,List.length_cons,List.length_nil];show _ + 1 + _ + 1≤_;omega)
 clear hst hl hb hw hX0 hwX
 go_enter Tryd.func52,Tryd.ntmps52
 go_wp2_with (first
  | (go_at_call 61;refine h1.mono ?_;rintro e w1 ⟨rfl,d1,k1⟩;obtain ⟨c0,c1,c2,c3,c4,c5⟩:=of6 (k1.box (uh HX0) (by decide) (by omega));have D1:=hide d1;have K1:=hide k1;clear d1 k1)
  | (go_at_call 53;refine (h2 _ (by exact uh D1) (by exact Nat.le_trans hws (Nat.le_trans hXs (uh K1).1.size))).mono ?_;rintro e w2 ⟨rfl,d2,k2⟩;have K2:=hide ((uh K1).trans k2);obtain ⟨e0,e1,e2,e3,e4,e5⟩:=of6 ((uh K2).box (uh HX0) (by decide) (by omega));have D2:=hide d2;clear d2 k2)
  | (go_at_call 62;refine (h3 _ (by exact (uh HW).trans ((uh HWX).mono hws |>.trans (uh K2).1)) (by exact uh D2)).mono ?_;rintro e w3 ⟨rfl,d3,k3⟩;have D3:=hide d3;have K3:=hide k3;clear d3 k3))
 go_end0
 exact ⟨rfl,by have:=uh D3;simpa using this,(Kept.of (uh HWX) hws).trans ((uh K2).trans (uh K3))⟩
set_option maxHeartbeats 4000000 in
theorem writePred_2 (w0:World) (hG0:G w0) (b:Nat) (acc:List UInt8) (attr:ByteArray) (qi:Option Addr) (ci:Nat) (ints:List Int) (qw:Option Addr) (cw:Nat) (words:List ByteArray) (lo hi:Int) (w:World) (hw:Below w0.heap.size w0 w) (hst:SlOf encS 1 w0 qw cw words) (hl:words.length≤1000000000) (hb:Bld w0.heap.size b acc w)
  (hlen:(acc ++ (attr.data.toList ++ [32] ++ ([123] ++ jl [44,32] 0 (words.map itW) ++ [125]))).length≤140737488355328) :
  Calls Tryd.prog 52 #[.pointer (some ⟨b,0,none⟩),.agg #[.int .i64 2,.string attr,.slice qi ints.length ci,.slice qw words.length cw,.int .i64 lo,.int .i64 hi]] w fun e w'=>e=.returned (.tuple #[])∧Bld w0.heap.size b (acc ++ (attr.data.toList ++ [32] ++ ([123] ++ jl [44,32] 0 (words.map itW) ++ [125]))) w'∧Kept w0.heap.size b w w':=by
 have hlt:=hb.lt
 simp only [List.length_append,bytes_len,List.length_cons,List.length_nil] at hlen
 obtain ⟨X,HX⟩:∃ X,w.alloc (.cells #[.int .i64 2,.string attr,.slice qi ints.length ci,.slice qw words.length cw,.int .i64 lo,.int .i64 hi] 27)=X:=⟨_,rfl⟩
 have hX0:X.heap[w.heap.size]? = some (.cells #[.int .i64 2,.string attr,.slice qi ints.length ci,.slice qw words.length cw,.int .i64 lo,.int .i64 hi] 27 (0,0)):=by rw [← HX];exact box_new _ _
 have hwX:Below w.heap.size w X:=by rw [← HX];exact (Below.refl _ _).alloc (Nat.le_refl _) _
 have hXs:=hwX.size
 have hws:=hw.size
 have h1:=writeString_any w0.heap.size b acc attr X (hb.below hwX) (by omega) (by omega)
 have h2:=fun w hb hs=>writeByte_any w0.heap.size b (acc ++ attr.data.toList) 32 32 rfl w hb (by simp;omega) hs
 have HX0:=hide hX0
 obtain ⟨x0,x1,x2,x3,x4,x5⟩:=of6 hX0
 have HWX:=hide hwX
 have HW:=hide hw
 have h3:=fun w (hw:Below w0.heap.size w0 w) (hb:Bld w0.heap.size b (acc ++ attr.data.toList ++ [32]) w)=>writeW w0 hG0 b (acc ++ attr.data.toList ++ [32]) ⟨#[123]⟩ ⟨#[125]⟩ qw cw words hl w hw (fun w' hk=>hst.below (hw.trans hk.1)) hb (by simp only [List.length_append,bytes_len,List.length_cons,List.length_nil];show _ + 1 + _ + 1≤_;omega)
 clear hst hl hb hw hX0 hwX
 go_enter Tryd.func52,Tryd.ntmps52
 go_wp2_with (first
  | (go_at_call 61;refine h1.mono ?_;rintro e w1 ⟨rfl,d1,k1⟩;obtain ⟨c0,c1,c2,c3,c4,c5⟩:=of6 (k1.box (uh HX0) (by decide) (by omega));have D1:=hide d1;have K1:=hide k1;clear d1 k1)
  | (go_at_call 53;refine (h2 _ (by exact uh D1) (by exact Nat.le_trans hws (Nat.le_trans hXs (uh K1).1.size))).mono ?_;rintro e w2 ⟨rfl,d2,k2⟩;have K2:=hide ((uh K1).trans k2);obtain ⟨e0,e1,e2,e3,e4,e5⟩:=of6 ((uh K2).box (uh HX0) (by decide) (by omega));have D2:=hide d2;clear d2 k2)
  | (go_at_call 63;refine (h3 _ (by exact (uh HW).trans ((uh HWX).mono hws |>.trans (uh K2).1)) (by exact uh D2)).mono ?_;rintro e w3 ⟨rfl,d3,k3⟩;have D3:=hide d3;have K3:=hide k3;clear d3 k3))
 go_end0
 exact ⟨rfl,by have:=uh D3;simpa using this,(Kept.of (uh HWX) hws).trans ((uh K2).trans (uh K3))⟩
set_option maxHeartbeats 4000000 in
theorem writePred_4 (w0:World) (hG0:G w0) (b:Nat) (acc:List UInt8) (attr:ByteArray) (qi:Option Addr) (ci:Nat) (ints:List Int) (qw:Option Addr) (cw:Nat) (words:List ByteArray) (lo hi:Int) (w:World) (hw:Below w0.heap.size w0 w) (hst:SlOf encS 1 w0 qw cw words) (hl:words.length≤1000000000) (hb:Bld w0.heap.size b acc w)
  (hlen:(acc ++ (attr.data.toList ++ [32] ++ ([] ++ jl [44,32] 0 (words.map itW) ++ [42]))).length≤140737488355328) :
  Calls Tryd.prog 52 #[.pointer (some ⟨b,0,none⟩),.agg #[.int .i64 4,.string attr,.slice qi ints.length ci,.slice qw words.length cw,.int .i64 lo,.int .i64 hi]] w fun e w'=>e=.returned (.tuple #[])∧Bld w0.heap.size b (acc ++ (attr.data.toList ++ [32] ++ ([] ++ jl [44,32] 0 (words.map itW) ++ [42]))) w'∧Kept w0.heap.size b w w':=by
 have hlt:=hb.lt
 simp only [List.length_append,bytes_len,List.length_cons,List.length_nil] at hlen
 obtain ⟨X,HX⟩:∃ X,w.alloc (.cells #[.int .i64 4,.string attr,.slice qi ints.length ci,.slice qw words.length cw,.int .i64 lo,.int .i64 hi] 27)=X:=⟨_,rfl⟩
 have hX0:X.heap[w.heap.size]? = some (.cells #[.int .i64 4,.string attr,.slice qi ints.length ci,.slice qw words.length cw,.int .i64 lo,.int .i64 hi] 27 (0,0)):=by rw [← HX];exact box_new _ _
 have hwX:Below w.heap.size w X:=by rw [← HX];exact (Below.refl _ _).alloc (Nat.le_refl _) _
 have hXs:=hwX.size
 have hws:=hw.size
 have h1:=writeString_any w0.heap.size b acc attr X (hb.below hwX) (by omega) (by omega)
 have h2:=fun w hb hs=>writeByte_any w0.heap.size b (acc ++ attr.data.toList) 32 32 rfl w hb (by simp;omega) hs
 have HX0:=hide hX0
 obtain ⟨x0,x1,x2,x3,x4,x5⟩:=of6 hX0
 have HWX:=hide hwX
 have HW:=hide hw
 have h3:=fun w (hw:Below w0.heap.size w0 w) (hb:Bld w0.heap.size b (acc ++ attr.data.toList ++ [32]) w)=>writeW w0 hG0 b (acc ++ attr.data.toList ++ [32]) ⟨#[]⟩ ⟨#[42]⟩ qw cw words hl w hw (fun w' hk=>hst.below (hw.trans hk.1)) hb (by simp only [List.length_append,bytes_len,List.length_cons,List.length_nil];show _ + 0 + _ + 1≤_;omega)
 clear hst hl hb hw hX0 hwX
 go_enter Tryd.func52,Tryd.ntmps52
 go_wp2_with (first
  | (go_at_call 61;refine h1.mono ?_;rintro e w1 ⟨rfl,d1,k1⟩;obtain ⟨c0,c1,c2,c3,c4,c5⟩:=of6 (k1.box (uh HX0) (by decide) (by omega));have D1:=hide d1;have K1:=hide k1;clear d1 k1)
  | (go_at_call 53;refine (h2 _ (by exact uh D1) (by exact Nat.le_trans hws (Nat.le_trans hXs (uh K1).1.size))).mono ?_;rintro e w2 ⟨rfl,d2,k2⟩;have K2:=hide ((uh K1).trans k2);obtain ⟨e0,e1,e2,e3,e4,e5⟩:=of6 ((uh K2).box (uh HX0) (by decide) (by omega));have D2:=hide d2;clear d2 k2)
  | (go_at_call 63;refine (h3 _ (by exact (uh HW).trans ((uh HWX).mono hws |>.trans (uh K2).1)) (by exact uh D2)).mono ?_;rintro e w3 ⟨rfl,d3,k3⟩;have D3:=hide d3;have K3:=hide k3;clear d3 k3))
 go_end0
 exact ⟨rfl,by have:=uh D3;simpa using this,(Kept.of (uh HWX) hws).trans ((uh K2).trans (uh K3))⟩
set_option maxHeartbeats 4000000 in
theorem writePred_3 (w0:World) (hG0:G w0) (b:Nat) (acc:List UInt8) (attr:ByteArray) (qi:Option Addr) (ci:Nat) (ints:List Int) (qw:Option Addr) (cw:Nat) (words:List ByteArray) (lo hi:Int) (w:World) (hw:Below w0.heap.size w0 w) (hb:Bld w0.heap.size b acc w)
  (hlen:(acc ++ (attr.data.toList ++ [32] ++ ([91] ++ jl [44,32] 0 ([lo,hi].map itI) ++ [93]))).length≤140737488355328) :
  Calls Tryd.prog 52 #[.pointer (some ⟨b,0,none⟩),.agg #[.int .i64 3,.string attr,.slice qi ints.length ci,.slice qw words.length cw,.int .i64 lo,.int .i64 hi]] w fun e w'=>e=.returned (.tuple #[])∧Bld w0.heap.size b (acc ++ (attr.data.toList ++ [32] ++ ([91] ++ jl [44,32] 0 ([lo,hi].map itI) ++ [93]))) w'∧Kept w0.heap.size b w w':=by
 have hlt:=hb.lt
 simp only [List.length_append,bytes_len,List.length_cons,List.length_nil] at hlen
 obtain ⟨X,HX⟩:∃ X,w.alloc (.cells #[.int .i64 3,.string attr,.slice qi ints.length ci,.slice qw words.length cw,.int .i64 lo,.int .i64 hi] 27)=X:=⟨_,rfl⟩
 have hX0:X.heap[w.heap.size]? = some (.cells #[.int .i64 3,.string attr,.slice qi ints.length ci,.slice qw words.length cw,.int .i64 lo,.int .i64 hi] 27 (0,0)):=by rw [← HX];exact box_new _ _
 have hwX:Below w.heap.size w X:=by rw [← HX];exact (Below.refl _ _).alloc (Nat.le_refl _) _
 have hXs:=hwX.size
 have hws:=hw.size
 have h1:=writeString_any w0.heap.size b acc attr X (hb.below hwX) (by omega) (by omega)
 have h2:=fun w hb hs=>writeByte_any w0.heap.size b (acc ++ attr.data.toList) 32 32 rfl w hb (by simp;omega) hs
 have HX0:=hide hX0
 obtain ⟨x0,x1,x2,x3,x4,x5⟩:=of6 hX0
 have HWX:=hide hwX
 have HW:=hide hw
 have h3:=fun M w (hm:w.heap[M]? = some (.cells #[.int .i64 lo,.int .i64 hi] 3 (0,0))) (hMb:M ≠ b) (hw:Below w0.heap.size w0 w) (hb:Bld w0.heap.size b (acc ++ attr.data.toList ++ [32]) w)=>writeI w0 hG0 b (acc ++ attr.data.toList ++ [32]) ⟨#[91]⟩ ⟨#[93]⟩ (some ⟨M,0,none⟩) 2 [lo,hi] (by simp) w hw (fun w' hk=>two_ints (hk.box hm (by decide) hMb)) hb (by simp only [List.length_append,bytes_len,List.length_cons,List.length_nil];show _ + 1 + _ + 1≤_;omega)
 simp only [List.length_cons,List.length_nil,Nat.zero_add,Nat.reduceAdd] at h3
 clear hb hw hX0 hwX
 go_enter Tryd.func52,Tryd.ntmps52
 go_wp2_with (first
  | (go_at_call 61;refine h1.mono ?_;rintro e w1 ⟨rfl,d1,k1⟩;obtain ⟨c0,c1,c2,c3,c4,c5⟩:=of6 (k1.box (uh HX0) (by decide) (by omega));have D1:=hide d1;have K1:=hide k1;clear d1 k1)
  | (go_at_call 53;refine (h2 _ (by exact uh D1) (by exact Nat.le_trans hws (Nat.le_trans hXs (uh K1).1.size))).mono ?_;rintro e w2 ⟨rfl,d2,k2⟩;have K2:=hide ((uh K1).trans k2);obtain ⟨e0,e1,e2,e3,e4,e5⟩:=of6 ((uh K2).box (uh HX0) (by decide) (by omega));have D2:=hide d2;clear d2 k2)
  | (go_at_call 62;refine (h3 w2.heap.size _ (by exact box_new _ _) (by have:=(uh D2).lt;omega) (by exact ((uh HW).trans ((uh HWX).mono hws |>.trans (uh K2).1)).alloc (Nat.le_trans hws (Nat.le_trans hXs (uh K2).1.size)) _) (by exact (uh D2).below ((Below.refl _ _).alloc (Nat.le_refl _) _))).mono ?_;rintro e w3 ⟨rfl,d3,k3⟩;have D3:=hide d3;have K3:=hide k3;clear d3 k3))
 go_end0
 exact ⟨rfl,by have:=uh D3;simpa using this,(Kept.of (uh HWX) hws).trans ((uh K2).trans ((Kept.of ((Below.refl _ _).alloc (Nat.le_refl _) _) (Nat.le_trans hws (Nat.le_trans hXs (uh K2).1.size))).trans (uh K3)))⟩
set_option maxHeartbeats 4000000 in
theorem writePred_x (w0:World) (b:Nat) (acc:List UInt8) (kind:Int) (attr:ByteArray) (qi:Option Addr) (ci:Nat) (ints:List Int) (qw:Option Addr) (cw:Nat) (words:List ByteArray) (lo hi:Int) (w:World) (hw:Below w0.heap.size w0 w) (k1:¬ kind=1) (k2:¬ kind=2) (k3:¬ kind=3) (k4:¬ kind=4) (hb:Bld w0.heap.size b acc w)
  (hlen:(acc ++ (attr.data.toList ++ [32] ++ ([]:List UInt8))).length≤140737488355328) :
  Calls Tryd.prog 52 #[.pointer (some ⟨b,0,none⟩),.agg #[.int .i64 kind,.string attr,.slice qi ints.length ci,.slice qw words.length cw,.int .i64 lo,.int .i64 hi]] w fun e w'=>e=.returned (.tuple #[])∧Bld w0.heap.size b (acc ++ (attr.data.toList ++ [32] ++ ([]:List UInt8))) w'∧Kept w0.heap.size b w w':=by
 have hlt:=hb.lt
 simp only [List.length_append,bytes_len,List.length_cons,List.length_nil] at hlen
 obtain ⟨X,HX⟩:∃ X,w.alloc (.cells #[.int .i64 kind,.string attr,.slice qi ints.length ci,.slice qw words.length cw,.int .i64 lo,.int .i64 hi] 27)=X:=⟨_,rfl⟩
 have hX0:X.heap[w.heap.size]? = some (.cells #[.int .i64 kind,.string attr,.slice qi ints.length ci,.slice qw words.length cw,.int .i64 lo,.int .i64 hi] 27 (0,0)):=by rw [← HX];exact box_new _ _
 have hwX:Below w.heap.size w X:=by rw [← HX];exact (Below.refl _ _).alloc (Nat.le_refl _) _
 have hXs:=hwX.size
 have hws:=hw.size
 have h1:=writeString_any w0.heap.size b acc attr X (hb.below hwX) (by omega) (by omega)
 have h2:=fun w hb hs=>writeByte_any w0.heap.size b (acc ++ attr.data.toList) 32 32 rfl w hb (by simp;omega) hs
 have HX0:=hide hX0
 obtain ⟨x0,x1,x2,x3,x4,x5⟩:=of6 hX0
 have HWX:=hide hwX
 have HW:=hide hw
 have q1:(kind == 1)=false:=by simpa using k1
 have q2:(kind == 2)=false:=by simpa using k2
 have q3:(kind == 3)=false:=by simpa using k3
 have q4:(kind == 4)=false:=by simpa using k4
 clear hb hw hX0 hwX HW
 go_enter Tryd.func52,Tryd.ntmps52
 go_wp2_with (first
  | (go_at_call 61;refine h1.mono ?_;rintro e w1 ⟨rfl,d1,k1⟩;obtain ⟨c0,c1,c2,c3,c4,c5⟩:=of6 (k1.box (uh HX0) (by decide) (by omega));have D1:=hide d1;have K1:=hide k1;clear d1 k1)
  | (go_at_call 53;refine (h2 _ (by exact uh D1) (by exact Nat.le_trans hws (Nat.le_trans hXs (uh K1).1.size))).mono ?_;rintro e w2 ⟨rfl,d2,k2⟩;have K2:=hide ((uh K1).trans k2);obtain ⟨e0,e1,e2,e3,e4,e5⟩:=of6 ((uh K2).box (uh HX0) (by decide) (by omega));have D2:=hide d2;clear d2 k2))
 go_end0
 exact ⟨rfl,by have:=uh D2;simpa using this,(Kept.of (uh HWX) hws).trans (uh K2)⟩
theorem writePred_any (w0:World) (hG0:G w0) (b:Nat) (acc:List UInt8) (kind:Int) (attr:ByteArray) (qi:Option Addr) (ci:Nat) (ints:List Int) (qw:Option Addr) (cw:Nat) (words:List ByteArray) (lo hi:Int) (w:World) (hw:Below w0.heap.size w0 w) (h1:SlOf encI 1 w0 qi ci ints) (h2:SlOf encS 1 w0 qw cw words) (l1:ints.length≤1000000000) (l2:words.length≤1000000000) (hb:Bld w0.heap.size b acc w)
  (hlen:(acc ++ predL kind attr ints words lo hi).length≤140737488355328) :
  Calls Tryd.prog 52 #[.pointer (some ⟨b,0,none⟩),.agg #[.int .i64 kind,.string attr,.slice qi ints.length ci,.slice qw words.length cw,.int .i64 lo,.int .i64 hi]] w fun e w'=>e=.returned (.tuple #[])∧Bld w0.heap.size b (acc ++ predL kind attr ints words lo hi) w'∧Kept w0.heap.size b w w':=by
 unfold predL at hlen ⊢
 by_cases k1:kind=1
 ·subst k1;rw [if_pos rfl] at hlen ⊢;exact writePred_1 w0 hG0 b acc attr qi ci ints qw cw words lo hi w hw h1 l1 hb hlen
 by_cases k2:kind=2
 ·subst k2;rw [if_neg k1,if_pos rfl] at hlen ⊢;exact writePred_2 w0 hG0 b acc attr qi ci ints qw cw words lo hi w hw h2 l2 hb hlen
 by_cases k3:kind=3
 ·subst k3;rw [if_neg k1,if_neg k2,if_pos rfl] at hlen ⊢;exact writePred_3 w0 hG0 b acc attr qi ci ints qw cw words lo hi w hw hb hlen
 by_cases k4:kind=4
 ·subst k4;rw [if_neg k1,if_neg k2,if_neg k3,if_pos rfl] at hlen ⊢;exact writePred_4 w0 hG0 b acc attr qi ci ints qw cw words lo hi w hw h2 l2 hb hlen
 rw [if_neg k1,if_neg k2,if_neg k3,if_neg k4] at hlen ⊢
 exact writePred_x w0 b acc kind attr qi ci ints qw cw words lo hi w hw k1 k2 k3 k4 hb hlen
end Go.Proofs.YtikhopiegaoacaaDoor

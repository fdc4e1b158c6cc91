/- Plain: what is read is small and made of ints; the lines ahead of the one that is wrong. -/
import Derived.Test.YtdgoibnndfibnaaGreatDoorWZan
import Derived.Test.YtdgoibnndfibnaaGreatDoorWZar
import Derived.Test.YtdgoibnndfibnaaGreatDoorWS38
import Derived.Test.YtdgoibnndfibnaaGreatDoorWS44
import Derived.Test.YtdgoibnndfibnaaGreatDoorWS48
import Derived.Lib.ConvBytes
import Derived.Lib.AppendStr
import Derived.Lib.FrozenHead
namespace Go.Proofs.YtdgoibnndfibnaaGreatDoor
open Go.RowKit Go.Sort
/-- A script of ints, each of its ops at most K pairs and numbers long. -/
structure ScrK (K:Nat) (s:Scr):Prop where
 cfg:∀ n ∈ s.cfg.l,I64 n
 ops:∀ o ∈ s.ops,SopI o/\o.ev.length<=K/\o.nums.length<=K
theorem ScrK.I {K:Nat} {s:Scr} (h:ScrK K s):ScrI s:=⟨h.cfg,fun o ho=>(h.ops o ho).1⟩
end Go.Proofs.YtdgoibnndfibnaaGreatDoor
namespace Go.Proofs.YtdgoibnndfibnaaGreatDoor
open Go.RowKit Go.Sort
theorem lb_len (s:ByteArray):(Lb s).length=s.size:=by unfold Lb;rw [Array.length_toList];rfl
end Go.Proofs.YtdgoibnndfibnaaGreatDoor
namespace Go.Proofs.YtdgoibnndfibnaaGreatDoor
open Go.RowKit Go.Sort
theorem ScrK.Z {K:Nat} {s:Scr} (h:ScrK K s) (hK:K<=100000000000):∀ o ∈ s.ops,OpZ o:=fun o ho=>by
 have:=(h.ops o ho).2
 unfold OpZ;omega
end Go.Proofs.YtdgoibnndfibnaaGreatDoor
namespace Go.Proofs.YtdgoibnndfibnaaGreatDoor
open Go.RowKit Go.Sort
end Go.Proofs.YtdgoibnndfibnaaGreatDoor
namespace Go.Proofs.YtdgoibnndfibnaaGreatDoor
open Go.RowKit Go.Sort
/-- A slice of the call's own, in memory from B on, that holds the bytes l; its row may be marked behind its last cell. -/
def RowC (B:Nat) (w:World) (v:Value) (l:Bs):Prop :=
 ∃ (g cap lo hi:Nat) (cur:Array Value),v=.slice (some ⟨g,0,none⟩) l.length cap/\B<=g/\w.heap[g]? = some (.cells cur 5 (lo,hi))/\cur.size=cap/\(cap<=lo ∨ hi=0)/\l.length<=cap/\cap<=maxLen/\cur.toList.take l.length=l.map bv
theorem RowC.below {B:Nat} {w w':World} {v:Value} {l:Bs} (h:RowC B w v l) (hb:Below w.heap.size w w'):RowC B w' v l:=by
 obtain ⟨g,cap,lo,hi,cur,h1,h2,h3,h4⟩:=h
 exact ⟨g,cap,lo,hi,cur,h1,h2,(hb.block _ (heap_lt h3)).trans h3,h4⟩
theorem str_cells (s:ByteArray):Lib.strCells s=(Lb s).map bv:=rfl
/-- Cells are stored into a row that is marked behind its end alone. -/
theorem storeC (g o:Nat) (t:TypeId) (lo hi:Nat):∀ (vs:List Value) (i:Nat) (cur:Array Value) (w:World),w.heap[g]? = some (.cells cur t (lo,hi))->(cur.size<=lo ∨ hi=0)->o + i + vs.length<=cur.size->(∀ v ∈ vs,v.oneCell'=true) ->
  (storeCells ⟨g,o,none⟩ vs i).run Tryz.prog w=.ok () (w.setRow g (cur.toList.take (o + i) ++ vs ++ cur.toList.drop (o + i + vs.length)).toArray):=by
 intro vs
 induction vs with
 | nil =>
  intro i cur w hg _ _ _
  simp only [storeCells,List.append_nil,List.length_nil,Nat.add_zero,List.take_append_drop,Array.toArray_toList]
  rw [setRow_self w g cur t (lo,hi) hg]
  rfl
 | cons v rest ih =>
  intro i cur w hg hfz hl h1
  simp only [List.length_cons] at hl
  have hi1:o + i < cur.size:=by omega
  have hcell:w.cell? ⟨g,o + i,none⟩=some cur[o + i]:=by simp [World.cell?,hg,hi1]
  have hfro:w.frozen? ⟨g,o + i,none⟩=false:=by
   simp only [World.frozen?,hg,Bool.and_eq_false_iff,decide_eq_false_iff_not]
   omega
  have hst:(store ((⟨g,o,none⟩:Addr).add i) v).run Tryz.prog w=.ok () (w.setRow g (cur.setIfInBounds (o + i) v)):=by
   rw [add_plain,run_store Tryz.prog w _ v _ (h1 v (by simp)),hcell]
   simp [hfro,setCell_eq_setRow w g (o + i) cur t (lo,hi) v hg]
  have hr:=ih (i + 1) (cur.setIfInBounds (o + i) v) (w.setRow g (cur.setIfInBounds (o + i) v)) (setRow_heap w g cur _ t _ hg) (by simpa using hfz) (by simp;omega) (fun x hx=>h1 x (by simp [hx]))
  simp only [storeCells,Sem.run_bind,hst,Result.andThen_ok,hr,setRow_setRow]
  congr 3
  have e:=list_seg_step cur.toList (o + i) v rest (by simp;omega)
  simpa [Array.toList_setIfInBounds,Nat.add_assoc] using e
theorem convC (w:World) (s:ByteArray) (hs:s.size<=140737488355328):∃ v w',(convert 9 67 (.string s)).run Tryz.prog w=.ok v w'/\RowC w.heap.size w' v (Lb s)/\Below w.heap.size w w':=by
 have hsz:(Lib.bytesCells w 5 s).size=grownCap w s.size 0 5:=by
  have hge:=grownCap_ge w s.size 0 5
  have hz:s.data.size=s.size:=rfl
  unfold Lib.bytesCells
  simp only [Array.size_append,Array.size_map,Array.size_replicate]
  omega
 refine ⟨_,_,Lib.run_convert_string_bytes w 9 67 5 s Tryz.underlying9 Tryz.underlying67 Tryz.underlying5,⟨w.heap.size,grownCap w s.size 0 5,_,_,_,by rw [lb_len],Nat.le_refl _,Lib.bytesWorld_at_new w 5 s,hsz,Or.inl (by rw [hsz];exact Nat.le_refl _),by rw [lb_len];exact grownCap_ge w s.size 0 5,grownCap_le_maxLen w s.size 0 5 (by unfold maxLen;omega), ?_⟩, ?_⟩
 ·have e:(Lib.bytesCells w 5 s).toList=(Lb s).map bv ++ (Array.replicate (grownCap w s.size 0 5 - s.size) (Value.int .u8 0)).toList:=by
   unfold Lib.bytesCells
   rw [Array.toList_append,Array.toList_map]
   rfl
  rw [e]
  have hl:((Lb s).map bv).length=(Lb s).length:=by simp
  rw [<- hl]
  exact List.take_left
 ·exact ⟨rfl,rfl,rfl,by rw [Lib.bytesWorld_size];omega,fun k hk=>Lib.bytesWorld_at_old w 5 s k hk⟩
theorem Tryz.info5c:(Tryz.prog.info? 5).map (fun i=>(i.zero,i.size,i.bytes))=some (some (.int .u8 0),1,1):=by kernel_rfl
theorem appC (B:Nat) (w:World) (ty:TypeId) (v:Value) (l:Bs) (h:RowC B w v l) (s:ByteArray) (hz:l.length + s.size<=140737488355328) (hB:B<=w.heap.size) :
  ∃ v' w',(Builtin.append_ #[67,9] ty #[v,.string s]).run Tryz.prog w=.ok v' w'/\RowC B w' v' (l ++ Lb s)/\w.grownBy w' v.ownBlock:=by
 obtain ⟨g,cap,lo,hi,cur,rfl,hBg,hblk,hcs,hmk,hlc,hcm,htk⟩:=h
 obtain ⟨i0,hi0,hz0,hz1,hz2⟩:=info_parts Tryz.info5c
 have hsl:(Lb s).length=s.size:=lb_len s
 by_cases hroom:l.length + s.size<=cap
 ·have hf:=Lib.run_firstCells_string (P:=Tryz.prog) w 1 s
  have hst:=storeC g l.length 5 lo hi (Lib.strCells s) 0 cur w hblk (by rw [hcs];exact hmk) (by rw [str_cells,List.length_map,hsl,hcs];omega) (Lib.strCells_oneCell s)
  simp only [Nat.add_zero,Lib.strCells_length] at hst
  refine ⟨.slice (some ⟨g,0,none⟩) (l.length + s.size) cap,w.setRow g (cur.toList.take l.length ++ Lib.strCells s ++ cur.toList.drop (l.length + s.size)).toArray, ?_, ?_, ?_⟩
  ·simp [Builtin.append_,run_underlying Tryz.underlying67,run_underlying Tryz.underlying9,sizeOf,typeInfo,hi0,hz1,Builtin.lenOf,hroom,hf,Addr.add_lit,hst]
  ·refine ⟨g,cap,lo,hi,_,by rw [List.length_append,hsl],hBg,setRow_heap w g cur _ 5 _ hblk, ?_,hmk,by rw [List.length_append,hsl];exact hroom,hcm, ?_⟩
   ·simp only [List.size_toArray,List.length_append,List.length_take,List.length_drop,Array.length_toList,Lib.strCells_length]
    omega
   ·rw [htk,str_cells,<- List.map_append]
    have e:(l ++ Lb s).length=((l ++ Lb s).map bv).length:=by simp
    rw [e]
    exact List.take_left
  ·exact ⟨rfl,rfl,rfl,by simp,fun k _ hk=>setRow_other w g k _ (fun e=>hk (by simp [Value.ownBlock,e]))⟩
 ·have holds:∀ j u,(l.map bv)[j]? = some u->w.cell? ((⟨g,0,none⟩:Addr).add j)=some u:=by
   intro j u hu
   rw [add_plain,Nat.zero_add]
   have hj:=(List.getElem?_eq_some_iff.1 hu).1
   simp only [List.length_map] at hj
   rw [<- htk,List.getElem?_take,if_pos hj] at hu
   unfold World.cell?
   simp only [hblk]
   simpa using hu
  have hr:=Lib.run_append_grow_string (P:=Tryz.prog) w 67 9 ty 5 i0 (.int .u8 0) Tryz.underlying67 Tryz.underlying9 hi0 hz0 ⟨g,0,none⟩ l.length cap (l.map bv) (by rw [hz1];simp) holds s (by omega) (by omega) (by rw [hz2];exact growslice_fits (by omega) (by omega))
  refine ⟨_,_,hr, ?_,⟨rfl,rfl,rfl,by simp,fun k hk _=>Go.heap_alloc_old w.drew _ hk⟩⟩
  have hge:=grownCap_ge w (l.length + s.size) cap 5
  refine ⟨w.heap.size,grownCap w (l.length + s.size) cap 5,0,0,_,by rw [List.length_append,hsl],hB,Go.heap_alloc_new w.drew _, ?_,Or.inr rfl,by rw [List.length_append,hsl];exact hge,grownCap_le_maxLen w (l.length + s.size) cap 5 (by unfold maxLen;omega), ?_⟩
  ·have hz1:(Value.int IntKind.u8 0).cells.size=1:=rfl
   simp only [Array.size_append,List.size_toArray,List.length_map,size_zeroCells,hz1,Lib.strCells_length]
   omega
  ·rw [str_cells]
   simp only [Array.toList_append]
   have e:(l ++ Lb s).length=((l.map bv) ++ ((Lb s).map bv)).length:=by simp
   rw [e,List.map_append]
   exact List.take_left
theorem backC {B:Nat} {w:World} {v:Value} {l:Bs} (h:RowC B w v l):(convert 67 9 v).run Tryz.prog w=.ok (.string ⟨l.toArray⟩) w:=by
 obtain ⟨g,cap,lo,hi,cur,rfl,hBg,hblk,hcs,hmk,hlc,hcm,htk⟩:=h
 refine run_convert_bytes_back w 67 9 5 _ cap l Tryz.underlying67 Tryz.underlying5 Tryz.underlying9 fun j hj=>?_
 rw [add_plain,Nat.zero_add]
 have hu:(l.map bv)[j]? = some (bv l[j]):=by simp [hj]
 rw [<- htk,List.getElem?_take,if_pos hj] at hu
 unfold World.cell?
 simp only [hblk]
 simpa [bv] using hu
theorem wpList_appC {ops:Array Oper} {rest:List Oper} {o:Oper} {a:Act} {w:World} {Q:Exit->Act->World->Prop} (hgd:o.guard=none) (sl x:Operand)
  (ho:o.op=.call { callee:=.builtin .append,args:=#[sl,x],argTypes:=#[67,9] }) (B:Nat) (v:Value) (l:Bs) (s:ByteArray) (es:a.eval sl=v) (ex:a.eval x=.string s) (h:RowC B w v l) (hz:l.length + s.size<=140737488355328) (hB:B<=w.heap.size)
  (hk:∀ v' w',RowC B w' v' (l ++ Lb s)->Below B w w'->wpList Tryz.prog ops Q rest (a.put o.dst v') w'):wpList Tryz.prog ops Q (o :: rest) a w:=by
 refine wpList_plain hgd fun K hK=>?_
 obtain ⟨v',w',hr,h2,h3⟩:=appC B w o.type v l h s hz hB
 unfold Oper.wp execOp
 simp only [ho,resolve,invoke,builtin,Sem.run_bind,Sem.run_pure,Result.andThen_ok,List.map_toArray,List.map_cons,List.map_nil,es,ex,hr]
 refine hK _ _ (hk v' w' h2 ?_)
 obtain ⟨g,cap,lo,hi,cur,rfl,hBg,hblk,_⟩:=h
 exact ⟨h3.os,h3.tape,h3.output,h3.size,fun k hk=>h3.block k (by omega) (by intro e;simp [Value.ownBlock] at e;omega)⟩
end Go.Proofs.YtdgoibnndfibnaaGreatDoor

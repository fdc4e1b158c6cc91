/- Rows of bytes made out of a string: what is appended to them, and the string they become again. -/
import Derived.Test.YtdgoibnndfibnaaGreatDoorRS48
import Derived.Test.YtdgoibnndfibnaaGreatDoorRZaw
import Derived.Lib.ConvBytes
import Derived.Lib.AppendStr
import Derived.Lib.FrozenHead
import Derived.Test.YtdgoibnndfibnaaGreatDoorRScClone
import Derived.Deep.AppendLies
import Derived.Laws.AppendOwnNone
namespace Go.Proofs.YtdgoibnndfibnaaGreatDoor
open Go.RowKit Go.Sort
/-- A slice of the call's own, in memory from B on, that holds the bytes l; its row may be marked behind its last cell. -/
def RowC (B:Nat) (w:World) (v:Value) (l:Bs):Prop :=
 ∃ (g cap lo hi:Nat) (cur:Array Value),v=.slice (some ⟨g,0,none⟩) l.length cap/\B<=g/\w.heap[g]? = some (.cells cur 5 (lo,hi))/\cur.size=cap/\(cap<=lo ∨ hi=0)/\l.length<=cap/\cap<=maxLen/\cur.toList.take l.length=l.map bv
theorem RowC.below {B:Nat} {w w':World} {v:Value} {l:Bs} (h:RowC B w v l) (hb:Below w.heap.size w w'):RowC B w' v l:=by
 obtain ⟨g,cap,lo,hi,cur,h1,h2,h3,h4⟩:=h
 exact ⟨g,cap,lo,hi,cur,h1,h2,(hb.block _ (heap_lt h3)).trans h3,h4⟩
end Go.Proofs.YtdgoibnndfibnaaGreatDoor
namespace Go.Proofs.YtdgoibnndfibnaaGreatDoor.Sc
open Go.RowKit Go.Sort Go.Shelf
theorem flat_app {α:Type} [Inhabited α] (enc:α->List Value) (k:Nat) (hk:0 < k) (l m:List α):(flatK enc k (l ++ m).toArray).toList=(flatK enc k l.toArray).toList ++ (flatK enc k m.toArray).toList:=by
 unfold flatK
 simp only [Array.toList_map,Array.toList_range,List.size_toArray,List.length_append,Nat.add_mul]
 rw [List.range_add,List.map_append,List.map_map]
 congr 1
 ·apply List.map_congr_left
  intro t ht
  have ht':t < l.length * k:=by simpa using ht
  have hq:t / k < l.length:=(Nat.div_lt_iff_lt_mul hk).2 ht'
  rw [getElem!_pos _ (t / k) (by simp;omega),getElem!_pos _ (t / k) (by simpa using hq)]
  simp [List.getElem_append_left hq]
 ·apply List.map_congr_left
  intro t ht
  have ht':t < m.length * k:=by simpa using ht
  have hq:t / k < m.length:=(Nat.div_lt_iff_lt_mul hk).2 ht'
  have e1:(l.length * k + t) / k=l.length + t / k:=by rw [Nat.mul_comm,Nat.mul_add_div hk]
  have e2:(l.length * k + t) % k=t % k:=by rw [Nat.mul_comm,Nat.mul_add_mod]
  simp only [Function.comp_apply,e1,e2]
  rw [getElem!_pos _ (l.length + t / k) (by simp;omega),getElem!_pos _ (t / k) (by simpa using hq)]
  simp
/-- The slice q of the call's own, in memory from B on, holds the list l. -/
def OwnK {α:Type} [Inhabited α] (enc:α->List Value) (e:TypeId) (k B:Nat) (w:World) (q:Option Addr) (cap:Nat) (l:List α):Prop :=
 w.ownsRow B e k (.slice q l.length cap) l.length (flatK enc k l.toArray).toList
structure RowOf {α:Type} [Inhabited α] (enc:α->List Value) (t e:TypeId) (k bytes:Nat):Prop where
 und:Tryz.prog.underlying t=some (.slice e)
 info:∃ i0 z,Tryz.prog.info? e=some i0/\i0.zero=some z/\i0.size=k/\i0.bytes=bytes/\z.cells.size=k
 pos:0 < k
 one:∀ (l:List α),∀ u ∈ (flatK enc k l.toArray).toList,u.oneCell'=true
theorem one_flat {α:Type} [Inhabited α] {enc:α->List Value} {k:Nat} (h:∀ (x:α) (c:Nat),c < k->((enc x)[c]!).oneCell'=true) (hk:0 < k) (l:List α):∀ u ∈ (flatK enc k l.toArray).toList,u.oneCell'=true:=by
 intro u hu
 rw [Array.mem_toList_iff] at hu
 obtain ⟨j,hj,rfl⟩:=Array.mem_iff_getElem.1 hu
 have hg:=get_flatK enc k l.toArray j (by simpa using hj)
 rw [getElem!_pos _ j hj] at hg
 rw [hg]
 exact h _ _ (Nat.mod_lt _ hk)
theorem rowA:RowOf encA 26 62 2 24 where
 und:=Tryz.underlying26
 info:=by
  obtain ⟨i0,hi,hz0,hz1,hz2⟩:=info_parts Tryz.info62
  exact ⟨i0,_,hi,hz0,hz1,hz2,rfl⟩
 pos:=by decide
 one:=one_flat (fun x c hc=>by
  have hm:c=0 ∨ c=1:=by omega
  rcases hm with e | e <;> rw [e] <;> rfl) (by decide)
/-- What is appended. -/
def SrcK {α:Type} [Inhabited α] (enc:α->List Value) (k:Nat) (w:World) (p:Option Addr) (c:Nat) (l:List α):Prop :=
 (p=none->l.length=0/\c=0)/\∀ ad,p=some ad->∀ (j:Nat) (u:Value),(flatK enc k l.toArray).toList[j]? = some u->w.cell? (ad.add j)=some u
theorem add_plain (b o j:Nat):(⟨b,o,none⟩:Addr).add j=⟨b,o + j,none⟩:=by unfold Addr.add;split <;> simp_all
theorem SrcK.ofA {w:World} {p:Option Addr} {c:Nat} {l:List (ByteArray × Int)} (hp:p=none->l.length=0/\c=0) (hA:AtsOf w p l):SrcK encA 2 w p c l:=by
 refine ⟨hp,fun ad e j u hj=>?_⟩
 have h0:0 < l.length:=by
  rw [Array.getElem?_toList] at hj
  obtain ⟨hs,_⟩:=Array.getElem?_eq_some_iff.1 hj
  simp at hs;omega
 obtain ⟨b,off,hq,_,hAt⟩:=hA h0
 rw [e] at hq
 cases hq
 rw [add_plain]
 exact hAt.flat j u hj
theorem OwnK.shape {w:World} {B:Nat} {e:TypeId} {k:Nat} {v:Value} {n:Nat} {xs:List Value} (h:w.ownsRow B e k v n xs):∃ q cap,v=.slice q n cap/\(q=none->v=.slice none 0 0):=by
 rcases h.2 with ⟨rfl,rfl⟩ | ⟨g,cap,_,rfl,_⟩
 ·exact ⟨none,0,rfl,fun _=>rfl⟩
 ·exact ⟨_,cap,rfl,fun h=>by cases h⟩
section
variable {α : Type} [Inhabited α] {enc : α -> List Value} {t e : TypeId} {k bytes : Nat}
theorem run_app (R:RowOf enc t e k bytes) (ty:TypeId) (w:World) (B:Nat) (q:Option Addr) (cap:Nat) (l:List α) (p:Option Addr) (c:Nat) (m:List α) (hown:OwnK enc e k B w q cap l) (hs:SrcK enc k w p c m) (hm:l.length + m.length<=maxLen) (hb:(l.length + m.length) * bytes<=140737488355328) (hB:B<=w.heap.size) :
  ∃ q' cap' w',(Builtin.append_ #[t,t] ty #[.slice q l.length cap,.slice p m.length c]).run Tryz.prog w=.ok (.slice q' (l.length + m.length) cap') w'/\OwnK enc e k B w' q' cap' (l ++ m)/\Below B w w'/\(q ≠ none->q' ≠ none)/\w.grownBy w' (Value.slice q l.length cap).ownBlock:=by
 obtain ⟨i0,z,hi,hz,hsz,hby,hzs⟩:=R.info
 cases p with
 | none =>
  obtain ⟨h0,rfl⟩:=hs.1 rfl
  obtain rfl:m=[]:=List.length_eq_zero_iff.1 h0
  have hr:=run_append_owned_none (P:=Tryz.prog) (w:=w) B t ty e i0 k R.und hi _ _ _ hown
  exact ⟨q,cap,w,hr,by simpa using hown,Below.refl _ _,id,⟨rfl,rfl,rfl,Nat.le_refl _,fun _ _ _=>rfl⟩⟩
 | some ad =>
  obtain ⟨v',w',hr,ho,hg,hnil,_⟩:=run_append_own_at (P:=Tryz.prog) w B t ty e i0 z k bytes R.und hi hz hsz hby hzs R.pos _ _ _ hown ad m.length c (flatK enc k m.toArray).toList (by simp) (hs.2 ad rfl) (R.one m) hm hb hB
  obtain ⟨q',cap',rfl,hq⟩:=OwnK.shape ho
  refine ⟨q',cap',w',hr, ?_, ?_, ?_,hg⟩
  ·unfold OwnK
   rw [flat_app enc k R.pos,List.length_append]
   exact ho
  ·exact (Below.refl _ _).grown hg hB fun j hj=>(World.ownsRow.lt hown j hj).1
  ·intro hne he
   have:=(hnil.1 (hq he)).1
   injection this with h0
   exact hne h0
theorem wp_app0 (R:RowOf enc t e k bytes) {o:Oper} {a:Act} {w:World} {K:Act->World->Prop} {Q:Exit->Act->World->Prop} (s x:Operand)
  (ho:o.op=.call { callee:=.builtin .append,args:=#[s,x],argTypes:=#[t,t] }) (B:Nat) (q:Option Addr) (cap:Nat) (l:List α) (p:Option Addr) (c:Nat) (m:List α)
  (es:a.eval s=.slice q l.length cap) (ex:a.eval x=.slice p m.length c) (hown:OwnK enc e k B w q cap l) (hs:SrcK enc k w p c m) (hm:l.length + m.length<=maxLen) (hb:(l.length + m.length) * bytes<=140737488355328) (hB:B<=w.heap.size)
  (h:∀ q' cap' w',OwnK enc e k B w' q' cap' (l ++ m)->Below B w w'->(q ≠ none->q' ≠ none)->w.grownBy w' (Value.slice q l.length cap).ownBlock->K (a.put o.dst (.slice q' (l.length + m.length) cap')) w'):o.wp Tryz.prog a w K Q:=by
 obtain ⟨q',cap',w',hr,h2,h3,h4,h5⟩:=run_app R o.type w B q cap l p c m hown hs hm hb hB
 unfold Oper.wp execOp
 simp only [ho,resolve,invoke,builtin,Sem.run_bind,Sem.run_pure,Result.andThen_ok,List.map_toArray,List.map_cons,List.map_nil,es,ex,hr]
 exact h q' cap' w' h2 h3 h4 h5
theorem wp_app (R:RowOf enc t e k bytes) {o:Oper} {a:Act} {w:World} {K:Act->World->Prop} {Q:Exit->Act->World->Prop} (s x:Operand)
  (ho:o.op=.call { callee:=.builtin .append,args:=#[s,x],argTypes:=#[t,t] }) (B:Nat) (q:Option Addr) (cap:Nat) (l:List α) (p:Option Addr) (c:Nat) (m:List α) (n n' N:Nat) (hn:l.length=n) (hn':m.length=n') (hN:n + n'=N)
  (es:a.eval s=.slice q n cap) (ex:a.eval x=.slice p n' c) (hown:OwnK enc e k B w q cap l) (hs:SrcK enc k w p c m) (hm:N<=maxLen) (hb:N * bytes<=140737488355328) (hB:B<=w.heap.size)
  (h:∀ q' cap' w',OwnK enc e k B w' q' cap' (l ++ m)->Below B w w'->(q ≠ none->q' ≠ none)->w.grownBy w' (Value.slice q n cap).ownBlock->K (a.put o.dst (.slice q' N cap')) w'):o.wp Tryz.prog a w K Q:=by
 subst hn hn' hN
 exact wp_app0 R s x ho B q cap l p c m es ex hown hs hm hb hB h
theorem wpList_app (R:RowOf enc t e k bytes) {ops:Array Oper} {rest:List Oper} {o:Oper} {a:Act} {w:World} {Q:Exit->Act->World->Prop} (hgd:o.guard=none) (s x:Operand)
  (ho:o.op=.call { callee:=.builtin .append,args:=#[s,x],argTypes:=#[t,t] }) (B:Nat) (q:Option Addr) (cap:Nat) (l:List α) (p:Option Addr) (c:Nat) (m:List α) (n n' N:Nat) (hn:l.length=n) (hn':m.length=n') (hN:n + n'=N)
  (es:a.eval s=.slice q n cap) (ex:a.eval x=.slice p n' c) (hown:OwnK enc e k B w q cap l) (hs:SrcK enc k w p c m) (hm:N<=maxLen) (hb:N * bytes<=140737488355328) (hB:B<=w.heap.size)
  (h:∀ q' cap' w',OwnK enc e k B w' q' cap' (l ++ m)->Below B w w'->(q ≠ none->q' ≠ none)->w.grownBy w' (Value.slice q n cap).ownBlock->wpList Tryz.prog ops Q rest (a.put o.dst (.slice q' N cap')) w'):wpList Tryz.prog ops Q (o :: rest) a w :=
 wpList_plain hgd fun _ hK=>wp_app R s x ho B q cap l p c m n n' N hn hn' hN es ex hown hs hm hb hB fun q' cap' w' h2 h3 h4 h5=>hK _ _ (h q' cap' w' h2 h3 h4 h5)
theorem step_app (R:RowOf enc t e k bytes) {ops:Array Oper} {o:Oper} {a:Act} {w:World} {K:Act->World->Prop} {Q:Exit->Act->World->Prop} {E:Prop} (hgd:o.guard=none) (s x:Operand)
  (ho:o.op=.call { callee:=.builtin .append,args:=#[s,x],argTypes:=#[t,t] }) (B:Nat) (q:Option Addr) (cap:Nat) (l:List α) (p:Option Addr) (c:Nat) (m:List α) (n n' N:Nat) (hn:l.length=n) (hn':m.length=n') (hN:n + n'=N)
  (es:a.eval s=.slice q n cap) (ex:a.eval x=.slice p n' c) (hown:OwnK enc e k B w q cap l) (hs:SrcK enc k w p c m) (hm:N<=maxLen) (hb:N * bytes<=140737488355328) (hB:B<=w.heap.size)
  (h:∀ q' cap' w',OwnK enc e k B w' q' cap' (l ++ m)->Below B w w'->(q ≠ none->q' ≠ none)->w.grownBy w' (Value.slice q n cap).ownBlock->K (a.put o.dst (.slice q' N cap')) w') :
  if Region.wanted o (yielded ops a.tmps)=true then Oper.wp Tryz.prog o a w K Q else E:=by
 have hw:Region.wanted o (yielded ops a.tmps)=true:=by simp [Region.wanted,hgd]
 rw [if_pos hw]
 exact wp_app R s x ho B q cap l p c m n n' N hn hn' hN es ex hown hs hm hb hB h
theorem OwnK.below {B:Nat} {w w':World} {q:Option Addr} {cap:Nat} {l:List α} (h:OwnK enc e k B w q cap l) (hb:Below w.heap.size w w'):OwnK enc e k B w' q cap l:=by
 refine ⟨h.1, ?_⟩
 rcases h.2 with h0 | ⟨g,cp,cur,hv,hB,hblk,hr⟩
 ·exact Or.inl h0
 ·have hg:g < w.heap.size:=(Array.getElem?_eq_some_iff.1 hblk).1
  exact Or.inr ⟨g,cp,cur,hv,hB,(hb.block g hg).trans hblk,hr⟩
theorem OwnK.mono {B B':Nat} {w:World} {q:Option Addr} {cap:Nat} {l:List α} (h:OwnK enc e k B w q cap l) (hb:B'<=B):OwnK enc e k B' w q cap l:=by
 refine ⟨h.1, ?_⟩
 rcases h.2 with h0 | ⟨g,cp,cur,hv,hB,hr⟩
 ·exact Or.inl h0
 ·exact Or.inr ⟨g,cp,cur,hv,Nat.le_trans hb hB,hr⟩
theorem OwnK.nil (B:Nat) (w:World):OwnK enc e k B w none 0 ([]:List α):=by
 have:(flatK enc k ([]:List α).toArray).toList=[]:=by simp [flatK]
 unfold OwnK;rw [this];exact World.ownsRow_nil w B e k
theorem OwnK.made (B:Nat) (w:World) (hB:B<=w.heap.size):OwnK enc e k B (w.alloc (.cells #[] e)) (some ⟨w.heap.size,0,none⟩) 0 ([]:List α):=by
 have:(flatK enc k ([]:List α).toArray).toList=[]:=by simp [flatK]
 unfold OwnK;rw [this];exact World.ownsRow_made w #[] 0 hB (Nat.zero_le _) (by simp)
end
theorem OwnK.newA {B:Nat} {w:World} {q:Option Addr} {cap:Nat} {l:List (ByteArray × Int)} (h:OwnK encA 62 2 B w q cap l):NewA B w q cap l:=by
 by_cases hv:(Value.slice q l.length cap)=.slice none 0 0
 ·cases q with
  | none =>
   injection hv with _ h1 h2
   exact Or.inl ⟨rfl,List.length_eq_zero_iff.1 h1,h2⟩
  | some a=>injection hv with h0;cases h0
 ·obtain ⟨g,cap',hv',hB,hg,hH,hc⟩:=holds_own (d:=l.toArray) (enc:=encA) hv (by simpa [OwnK] using h)
  injection hv' with h0 h1 h2
  subst h2
  exact Or.inr ⟨g,h0,hB,hg,hH,by simpa using hc⟩
theorem NewA.none {B:Nat} {w:World} {q:Option Addr} {cap:Nat} {l:List (ByteArray × Int)} (h:NewA B w q cap l):q=none->l.length=0/\cap=0:=by
 intro e
 rcases h with ⟨_,rfl,h2⟩ | ⟨g,h2,_⟩
 ·exact ⟨rfl,h2⟩
 ·rw [e] at h2;cases h2
theorem NewP.none {B:Nat} {w:World} {q:Option Addr} {cap:Nat} {l:List (ByteArray × Int × Int × ByteArray)} (h:NewP B w q cap l):q=none->l.length=0/\cap=0:=by
 intro e
 rcases h with ⟨_,rfl,h2⟩ | ⟨g,h2,_⟩
 ·exact ⟨rfl,h2⟩
 ·rw [e] at h2;cases h2
theorem PrsAt.drop {w:World} {b off:Nat} {l:List (ByteArray × Int × Int × ByteArray)} (h:PrsAt w b off l) (k:Nat):PrsAt w b (off + k * 4) (l.drop k):=fun j x hj=>by
 rw [List.getElem?_drop] at hj
 have:=h (k + j) x hj
 rw [show off + k * 4 + j * 4=off + (k + j) * 4 by omega]
 exact this
theorem PrsAt.take {w:World} {b off:Nat} {l:List (ByteArray × Int × Int × ByteArray)} (h:PrsAt w b off l) (k:Nat):PrsAt w b off (l.take k):=fun j x hj=>by
 rw [List.getElem?_take] at hj
 split at hj
 ·exact h j x hj
 ·cases hj
theorem AtsAt.drop {w:World} {b off:Nat} {l:List (ByteArray × Int)} (h:AtsAt w b off l) (k:Nat):AtsAt w b (off + k * 2) (l.drop k):=fun j x hj=>by
 rw [List.getElem?_drop] at hj
 have:=h (k + j) x hj
 rw [show off + k * 2 + j * 2=off + (k + j) * 2 by omega]
 exact this
theorem AtsAt.take {w:World} {b off:Nat} {l:List (ByteArray × Int)} (h:AtsAt w b off l) (k:Nat):AtsAt w b off (l.take k):=fun j x hj=>by
 rw [List.getElem?_take] at hj
 split at hj
 ·exact h j x hj
 ·cases hj
end Go.Proofs.YtdgoibnndfibnaaGreatDoor.Sc

/- Appends onto a slice that the call owns, for lists of whatever elements; lists of numbers, words and nodes in memory. -/
import Derived.Test.YtikhopiegaoacacDZaa
import Derived.Shelf.GgSortFunc.RowK
import Derived.Deep.AppendLies
import Derived.Laws.AppendOwnNone
namespace Go.Proofs.Ytikhopiegaoacac
open Go.RowKit Go.Sort

theorem frozen_free {w:World} {g o:Nat} {cur:Array Value} {e:TypeId} (h:w.heap[g]? = some (.cells cur e (0,0))):w.frozen? ⟨g,o,none⟩=false:=by
  unfold World.frozen?;simp [h]
/-- A row that is the call's own, as the sort's kit says it. -/
theorem holds_own {α:Type} [Inhabited α] {enc:α→List Value} {k:Nat} {w:World} {B:Nat} {e:TypeId} {v:Value} {d:Array α} (hv:v ≠ .slice none 0 0) (h:w.ownsRow B e k v d.size (flatK enc k d).toList) :
    ∃ g cap,v=.slice (some ⟨g,0,none⟩) d.size cap∧B≤g∧g < w.heap.size∧HoldsK enc k w g 0 d∧d.size≤cap∧cap≤maxLen:=by
  rcases h.2 with ⟨h0,_⟩ | ⟨g,cap,cur,rfl,hB,hblk,hc,hm,_,_⟩
  · exact absurd h0 hv
  · refine ⟨g,cap,rfl,hB,(Array.getElem?_eq_some_iff.1 hblk).1,fun t ht=>⟨?_,frozen_free hblk⟩,hc,hm⟩
    rw [Nat.zero_add,h.cellAt t (by simpa using ht)]
    have ht':t < (flatK enc k d).size:=ht
    rw [Array.getElem?_toList,Array.getElem?_eq_getElem ht',getElem!_pos _ t ht']
    rfl
theorem get_bang {α:Type} [Inhabited α] {l:List α} {j:Nat} {x:α} (h:l[j]? = some x):l.toArray[j]! = x:=by
  have hj:j < l.length:=(List.getElem?_eq_some_iff.1 h).1
  rw [getElem!_pos _ j (by simpa using hj)]
  simpa [List.getElem?_eq_getElem hj] using h
theorem flat_app {α:Type} [Inhabited α] (enc:α→List Value) (k:Nat) (hk:0 < k) (l m:List α):(flatK enc k (l ++ m).toArray).toList=(flatK enc k l.toArray).toList ++ (flatK enc k m.toArray).toList:=by
  unfold flatK
  simp only [Array.toList_map,Array.toList_range,List.size_toArray,List.length_append,Nat.add_mul]
  rw [List.range_add,List.map_append,List.map_map]
  congr 1
  · apply List.map_congr_left
    intro t ht
    have ht':t < l.length * k:=by simpa using ht
    have hq:t / k < l.length:=(Nat.div_lt_iff_lt_mul hk).2 ht'
    rw [getElem!_pos _ (t / k) (by simp;omega),getElem!_pos _ (t / k) (by simpa using hq)]
    simp [List.getElem_append_left hq]
  · apply List.map_congr_left
    intro t ht
    have ht':t < m.length * k:=by simpa using ht
    have hq:t / k < m.length:=(Nat.div_lt_iff_lt_mul hk).2 ht'
    have e1:(l.length * k + t) / k=l.length + t / k:=by rw [Nat.mul_comm,Nat.mul_add_div hk]
    have e2:(l.length * k + t) % k=t % k:=by rw [Nat.mul_comm,Nat.mul_add_mod]
    simp only [Function.comp_apply,e1,e2]
    rw [getElem!_pos _ (l.length + t / k) (by simp;omega),getElem!_pos _ (t / k) (by simpa using hq)]
    simp

/-- The slice q of the call's own, in memory from B on, holds the list l. -/
def OwnK {α:Type} [Inhabited α] (enc:α→List Value) (e:TypeId) (k B:Nat) (w:World) (q:Option Addr) (cap:Nat) (l:List α):Prop :=
  w.ownsRow B e k (.slice q l.length cap) l.length (flatK enc k l.toArray).toList
structure RowOf {α:Type} [Inhabited α] (enc:α→List Value) (t e:TypeId) (k bytes:Nat):Prop where
  und:Try.prog.underlying t=some (.slice e)
  info:∃ i0 z,Try.prog.info? e=some i0∧i0.zero=some z∧i0.size=k∧i0.bytes=bytes∧z.cells.size=k
  pos:0 < k
  one:∀ (l:List α),∀ u ∈ (flatK enc k l.toArray).toList,u.oneCell'=true
theorem one_flat {α:Type} [Inhabited α] {enc:α→List Value} {k:Nat} (h:∀ (x:α) (c:Nat),c < k→((enc x)[c]!).oneCell'=true) (hk:0 < k) (l:List α):∀ u ∈ (flatK enc k l.toArray).toList,u.oneCell'=true:=by
  intro u hu
  rw [Array.mem_toList_iff] at hu
  obtain ⟨j,hj,rfl⟩:=Array.mem_iff_getElem.1 hu
  have hg:=get_flatK enc k l.toArray j (by simpa using hj)
  rw [getElem!_pos _ j hj] at hg
  rw [hg]
  exact h _ _ (Nat.mod_lt _ hk)
/-- What is appended. -/
def SrcK {α:Type} [Inhabited α] (enc:α→List Value) (k:Nat) (w:World) (p:Option Addr) (c:Nat) (l:List α):Prop :=
  (p=none→l.length=0∧c=0)∧∀ ad,p=some ad→∀ (j:Nat) (u:Value),(flatK enc k l.toArray).toList[j]? = some u→w.cell? (ad.add j)=some u
theorem add_plain (b o j:Nat):(⟨b,o,none⟩:Addr).add j=⟨b,o + j,none⟩:=by unfold Addr.add;split <;> simp_all
theorem OwnK.shape {w:World} {B:Nat} {e:TypeId} {k:Nat} {v:Value} {n:Nat} {xs:List Value} (h:w.ownsRow B e k v n xs):∃ q cap,v=.slice q n cap∧(q=none→v=.slice none 0 0):=by
  rcases h.2 with ⟨rfl,rfl⟩ | ⟨g,cap,_,rfl,_⟩
  · exact ⟨none,0,rfl,fun _=>rfl⟩
  · exact ⟨_,cap,rfl,fun h=>by cases h⟩

section
variable {α : Type} [Inhabited α] {enc : α → List Value} {t e : TypeId} {k bytes : Nat}
theorem run_app (R:RowOf enc t e k bytes) (ty:TypeId) (w:World) (B:Nat) (q:Option Addr) (cap:Nat) (l:List α) (p:Option Addr) (c:Nat) (m:List α) (hown:OwnK enc e k B w q cap l) (hs:SrcK enc k w p c m) (hm:l.length + m.length≤maxLen) (hb:(l.length + m.length) * bytes≤140737488355328) (hB:B≤w.heap.size) :
    ∃ q' cap' w',(Builtin.append_ #[t,t] ty #[.slice q l.length cap,.slice p m.length c]).run Try.prog w=.ok (.slice q' (l.length + m.length) cap') w'∧OwnK enc e k B w' q' cap' (l ++ m)∧Below B w w'∧(q ≠ none→q' ≠ none)∧w.grownBy w' (Value.slice q l.length cap).ownBlock:=by
  obtain ⟨i0,z,hi,hz,hsz,hby,hzs⟩:=R.info
  cases p with
  | none =>
    obtain ⟨h0,rfl⟩:=hs.1 rfl
    obtain rfl:m=[]:=List.length_eq_zero_iff.1 h0
    have hr:=run_append_owned_none (P:=Try.prog) (w:=w) B t ty e i0 k R.und hi _ _ _ hown
    exact ⟨q,cap,w,hr,by simpa using hown,Below.refl _ _,id,⟨rfl,rfl,rfl,Nat.le_refl _,fun _ _ _=>rfl⟩⟩
  | some ad =>
    obtain ⟨v',w',hr,ho,hg,hnil,_⟩:=run_append_own_at (P:=Try.prog) w B t ty e i0 z k bytes R.und hi hz hsz hby hzs R.pos _ _ _ hown ad m.length c (flatK enc k m.toArray).toList (by simp) (hs.2 ad rfl) (R.one m) hm hb hB
    obtain ⟨q',cap',rfl,hq⟩:=OwnK.shape ho
    refine ⟨q',cap',w',hr, ?_, ?_, ?_,hg⟩
    · unfold OwnK
      rw [flat_app enc k R.pos,List.length_append]
      exact ho
    · exact (Below.refl _ _).grown hg hB fun j hj=>(World.ownsRow.lt hown j hj).1
    · intro hne he
      have:=(hnil.1 (hq he)).1
      injection this with h0
      exact hne h0
theorem wp_app0 (R:RowOf enc t e k bytes) {o:Oper} {a:Act} {w:World} {K:Act→World→Prop} {Q:Exit→Act→World→Prop} (s x:Operand)
    (ho:o.op=.call { callee:=.builtin .append,args:=#[s,x],argTypes:=#[t,t] }) (B:Nat) (q:Option Addr) (cap:Nat) (l:List α) (p:Option Addr) (c:Nat) (m:List α)
    (es:a.eval s=.slice q l.length cap) (ex:a.eval x=.slice p m.length c) (hown:OwnK enc e k B w q cap l) (hs:SrcK enc k w p c m) (hm:l.length + m.length≤maxLen) (hb:(l.length + m.length) * bytes≤140737488355328) (hB:B≤w.heap.size)
    (h:∀ q' cap' w',OwnK enc e k B w' q' cap' (l ++ m)→Below B w w'→(q ≠ none→q' ≠ none)→w.grownBy w' (Value.slice q l.length cap).ownBlock→K (a.put o.dst (.slice q' (l.length + m.length) cap')) w'):o.wp Try.prog a w K Q:=by
  obtain ⟨q',cap',w',hr,h2,h3,h4,h5⟩:=run_app R o.type w B q cap l p c m hown hs hm hb hB
  unfold Oper.wp execOp
  simp only [ho,resolve,invoke,builtin,Sem.run_bind,Sem.run_pure,Result.andThen_ok,List.map_toArray,List.map_cons,List.map_nil,es,ex,hr]
  exact h q' cap' w' h2 h3 h4 h5
theorem wp_app (R:RowOf enc t e k bytes) {o:Oper} {a:Act} {w:World} {K:Act→World→Prop} {Q:Exit→Act→World→Prop} (s x:Operand)
    (ho:o.op=.call { callee:=.builtin .append,args:=#[s,x],argTypes:=#[t,t] }) (B:Nat) (q:Option Addr) (cap:Nat) (l:List α) (p:Option Addr) (c:Nat) (m:List α) (n n' N:Nat) (hn:l.length=n) (hn':m.length=n') (hN:n + n'=N)
    (es:a.eval s=.slice q n cap) (ex:a.eval x=.slice p n' c) (hown:OwnK enc e k B w q cap l) (hs:SrcK enc k w p c m) (hm:N≤maxLen) (hb:N * bytes≤140737488355328) (hB:B≤w.heap.size)
    (h:∀ q' cap' w',OwnK enc e k B w' q' cap' (l ++ m)→Below B w w'→(q ≠ none→q' ≠ none)→w.grownBy w' (Value.slice q n cap).ownBlock→K (a.put o.dst (.slice q' N cap')) w'):o.wp Try.prog a w K Q:=by
  subst hn hn' hN
  exact wp_app0 R s x ho B q cap l p c m es ex hown hs hm hb hB h
theorem wpList_app (R:RowOf enc t e k bytes) {ops:Array Oper} {rest:List Oper} {o:Oper} {a:Act} {w:World} {Q:Exit→Act→World→Prop} (hgd:o.guard=none) (s x:Operand)
    (ho:o.op=.call { callee:=.builtin .append,args:=#[s,x],argTypes:=#[t,t] }) (B:Nat) (q:Option Addr) (cap:Nat) (l:List α) (p:Option Addr) (c:Nat) (m:List α) (n n' N:Nat) (hn:l.length=n) (hn':m.length=n') (hN:n + n'=N)
    (es:a.eval s=.slice q n cap) (ex:a.eval x=.slice p n' c) (hown:OwnK enc e k B w q cap l) (hs:SrcK enc k w p c m) (hm:N≤maxLen) (hb:N * bytes≤140737488355328) (hB:B≤w.heap.size)
    (h:∀ q' cap' w',OwnK enc e k B w' q' cap' (l ++ m)→Below B w w'→(q ≠ none→q' ≠ none)→w.grownBy w' (Value.slice q n cap).ownBlock→wpList Try.prog ops Q rest (a.put o.dst (.slice q' N cap')) w'):wpList Try.prog ops Q (o :: rest) a w :=
  wpList_plain hgd fun _ hK=>wp_app R s x ho B q cap l p c m n n' N hn hn' hN es ex hown hs hm hb hB fun q' cap' w' h2 h3 h4 h5=>hK _ _ (h q' cap' w' h2 h3 h4 h5)
theorem OwnK.below {B:Nat} {w w':World} {q:Option Addr} {cap:Nat} {l:List α} (h:OwnK enc e k B w q cap l) (hb:Below w.heap.size w w'):OwnK enc e k B w' q cap l:=by
  refine ⟨h.1, ?_⟩
  rcases h.2 with h0 | ⟨g,cp,cur,hv,hB,hblk,hr⟩
  · exact Or.inl h0
  · have hg:g < w.heap.size:=(Array.getElem?_eq_some_iff.1 hblk).1
    exact Or.inr ⟨g,cp,cur,hv,hB,(hb.block g hg).trans hblk,hr⟩
theorem OwnK.mono {B B':Nat} {w:World} {q:Option Addr} {cap:Nat} {l:List α} (h:OwnK enc e k B w q cap l) (hb:B'≤B):OwnK enc e k B' w q cap l:=by
  refine ⟨h.1, ?_⟩
  rcases h.2 with h0 | ⟨g,cp,cur,hv,hB,hr⟩
  · exact Or.inl h0
  · exact Or.inr ⟨g,cp,cur,hv,Nat.le_trans hb hB,hr⟩
theorem OwnK.nil (B:Nat) (w:World):OwnK enc e k B w none 0 ([]:List α):=by
  have:(flatK enc k ([]:List α).toArray).toList=[]:=by simp [flatK]
  unfold OwnK;rw [this];exact World.ownsRow_nil w B e k
theorem OwnK.made (B:Nat) (w:World) (hB:B≤w.heap.size):OwnK enc e k B (w.alloc (.cells #[] e)) (some ⟨w.heap.size,0,none⟩) 0 ([]:List α):=by
  have:(flatK enc k ([]:List α).toArray).toList=[]:=by simp [flatK]
  unfold OwnK;rw [this];exact World.ownsRow_made w #[] 0 hB (Nat.zero_le _) (by simp)
end


theorem get_at {α:Type} {l:List α} {k:Nat} (h:k < l.length):∃ x,l[k]? = some x∧l.drop k=x :: l.drop (k + 1):=⟨l[k],List.getElem?_eq_getElem h,List.drop_eq_getElem_cons h⟩
/-- The slice q of capacity c holds the list l. -/
def LsOf {α:Type} [Inhabited α] (enc:α→List Value) (k:Nat) (w:World) (q:Option Addr) (l:List α):Prop :=
  0 < l.length→∃ b off,q=some ⟨b,off,none⟩∧b < w.heap.size∧∀ (j:Nat) (u:Value),(flatK enc k l.toArray).toList[j]? = some u→w.cell? ⟨b,off + j,none⟩=some u
def SlOf {α:Type} [Inhabited α] (enc:α→List Value) (k:Nat) (w:World) (q:Option Addr) (c:Nat) (l:List α):Prop :=
  (q=none→l.length=0∧c=0)∧l.length≤c∧c≤maxLen∧LsOf enc k w q l
section
variable {α : Type} [Inhabited α] {enc : α → List Value} {k : Nat}
theorem LsOf.nil (w:World) (q:Option Addr):LsOf enc k w q ([]:List α):=fun h=>absurd h (by simp)
theorem SlOf.none (w:World):SlOf enc k w Option.none 0 ([]:List α):=⟨fun _=>⟨rfl,rfl⟩,Nat.le_refl _,Nat.zero_le _,LsOf.nil _ _⟩
theorem LsOf.below {w w':World} {q:Option Addr} {l:List α} (h:LsOf enc k w q l) (hb:Below w.heap.size w w'):LsOf enc k w' q l:=fun h0=>by
  obtain ⟨b,off,rfl,hB,hA⟩:=h h0
  exact ⟨b,off,rfl,Nat.lt_of_lt_of_le hB hb.size,fun j u hj=>(hb.cell (p:=⟨b,off + j,Option.none⟩) hB).trans (hA j u hj)⟩
theorem SlOf.below {w w':World} {q:Option Addr} {c:Nat} {l:List α} (h:SlOf enc k w q c l) (hb:Below w.heap.size w w'):SlOf enc k w' q c l:=⟨h.1,h.2.1,h.2.2.1,h.2.2.2.below hb⟩
theorem LsOf.src {w:World} {q:Option Addr} {c:Nat} {l:List α} (hp:q=Option.none→l.length=0∧c=0) (h:LsOf enc k w q l):SrcK enc k w q c l:=by
  refine ⟨hp,fun ad e j u hj=>?_⟩
  have h0:0 < l.length:=by
    rw [Array.getElem?_toList] at hj
    obtain ⟨hs,_⟩:=Array.getElem?_eq_some_iff.1 hj
    simp at hs
    cases l with
    | nil=>simp at hs
    | cons=>simp
  obtain ⟨b,off,hq,_,hAt⟩:=h h0
  rw [e] at hq
  cases hq
  rw [add_plain]
  exact hAt j u hj
theorem SlOf.src {w:World} {q:Option Addr} {c:Nat} {l:List α} (h:SlOf enc k w q c l):SrcK enc k w q c l:=LsOf.src h.1 h.2.2.2
/-- What the cells of the j-th element hold. -/
theorem flat_at {l:List α} {j:Nat} {x:α} (hj:l[j]? = some x) (c:Nat) (hc:c < k):(flatK enc k l.toArray).toList[j * k + c]? = some ((enc x)[c]!):=by
  have hl:j < l.length:=(List.getElem?_eq_some_iff.1 hj).1
  have hlt:j * k + c < l.toArray.size * k:=by
    have:(j + 1) * k≤l.length * k:=Nat.mul_le_mul_right k hl
    simp only [List.size_toArray]
    have h2:(j + 1) * k=j * k + k:=by rw [Nat.add_mul,Nat.one_mul]
    omega
  have hs:j * k + c < (flatK enc k l.toArray).size:=by simpa using hlt
  have hg:=get_flatK enc k l.toArray (j * k + c) hlt
  have e1:(j * k + c) / k=j:=by rw [Nat.mul_comm,Nat.mul_add_div (by omega),Nat.div_eq_of_lt hc];omega
  have e2:(j * k + c) % k=c:=by rw [Nat.mul_comm,Nat.mul_add_mod];exact Nat.mod_eq_of_lt hc
  rw [e1,e2,get_bang hj,getElem!_pos (flatK enc k l.toArray) (j * k + c) hs] at hg
  rw [Array.getElem?_toList,Array.getElem?_eq_getElem hs,hg]
theorem LsOf.at {w:World} {q:Option Addr} {l:List α} {j:Nat} {x:α} (h:LsOf enc k w q l) (hj:l[j]? = some x):∃ b off,q=some ⟨b,off,Option.none⟩∧b < w.heap.size∧∀ c,c < k→w.cell? ⟨b,off + j * k + c,Option.none⟩=some ((enc x)[c]!):=by
  have hl:j < l.length:=(List.getElem?_eq_some_iff.1 hj).1
  obtain ⟨b,off,hq,hb,hA⟩:=h (by omega)
  exact ⟨b,off,hq,hb,fun c hc=>by rw [Nat.add_assoc];exact hA _ _ (flat_at hj c hc)⟩
theorem OwnK.ls {B:Nat} {e:TypeId} {w:World} {q:Option Addr} {cap:Nat} {l:List α} (h:OwnK enc e k B w q cap l):SlOf enc k w q cap l:=by
  by_cases hv:(Value.slice q l.length cap)=.slice Option.none 0 0
  · cases q with
    | none =>
      injection hv with _ h1 h2
      rw [List.length_eq_zero_iff.1 h1,h2]
      exact SlOf.none _
    | some a=>injection hv with h0;cases h0
  · obtain ⟨g,cap',hv',hB,hg,hH,hc,hm⟩:=holds_own (d:=l.toArray) (enc:=enc) hv (by simpa [OwnK] using h)
    injection hv' with h0 h1 h2
    subst h0
    subst h2
    simp only [List.size_toArray] at hc
    refine ⟨(fun h=>by cases h),hc,hm,fun _=>⟨g,0,rfl,hg,fun j u hj=>?_⟩⟩
    rw [Array.getElem?_toList] at hj
    obtain ⟨hs,hu⟩:=Array.getElem?_eq_some_iff.1 hj
    exact (hH j hs).1.trans (by rw [getElem!_pos (flatK enc k l.toArray) j hs,hu];rfl)
/-- New cells that hold one element. -/
theorem LsOf.one {w:World} {b:Nat} {x:α} (hb:b < w.heap.size) (h:∀ c,c < k→w.cell? ⟨b,c,Option.none⟩=some ((enc x)[c]!)):LsOf enc k w (some ⟨b,0,Option.none⟩) [x]:=fun _ =>
  ⟨b,0,rfl,hb,fun j u hj=>by
    rw [Array.getElem?_toList] at hj
    obtain ⟨hs,hu⟩:=Array.getElem?_eq_some_iff.1 hj
    have hlt:j < k:=by simpa using hs
    have h2:=flat_at (enc:=enc) (k:=k) (l:=[x]) (j:=0) (x:=x) rfl j hlt
    rw [Array.getElem?_toList,Nat.zero_mul,Nat.zero_add,Array.getElem?_eq_getElem hs,hu] at h2
    rw [Nat.zero_add,h j hlt,← h2]⟩
end
def encI (x:Int):List Value:=[.int .i64 x]
def encS (x:ByteArray):List Value:=[.string x]
theorem Try.info3:(Try.prog.info? 3).map (fun i=>(i.zero,i.size,i.bytes))=some (some (.int .i64 0),1,8):=by kernel_rfl
theorem Try.info9:(Try.prog.info? 9).map (fun i=>(i.zero,i.size,i.bytes))=some (some (.string ⟨#[]⟩),1,16):=by kernel_rfl
theorem Try.info28:(Try.prog.info? 28).map (fun i=>(i.zero,i.size,i.bytes))=some (some (.agg #[.int .i64 0,.string ⟨#[]⟩,.slice none 0 0,.slice none 0 0,.int .i64 0,.int .i64 0,.int .i64 0,.slice none 0 0]),8,120):=by kernel_rfl
theorem rowI:RowOf encI 22 3 1 8 where
  und:=Try.underlying22
  info:=by
    obtain ⟨i0,hi,hz0,hz1,hz2⟩:=info_parts Try.info3
    exact ⟨i0,_,hi,hz0,hz1,hz2,rfl⟩
  pos:=by decide
  one := one_flat (fun x c hc => by obtain rfl : c = 0 := by omega
                                    rfl) (by decide)
instance:Inhabited ByteArray:=⟨⟨#[]⟩⟩
theorem rowS:RowOf encS 23 9 1 16 where
  und:=Try.underlying23
  info:=by
    obtain ⟨i0,hi,hz0,hz1,hz2⟩:=info_parts Try.info9
    exact ⟨i0,_,hi,hz0,hz1,hz2,rfl⟩
  pos:=by decide
  one := one_flat (fun x c hc => by obtain rfl : c = 0 := by omega
                                    rfl) (by decide)
/-- A node as it lies in memory. -/
structure Nv where
  kind:Int
  attr:ByteArray
  qi:Option Addr
  ni:Nat
  ci:Nat
  qw:Option Addr
  nw:Nat
  cw:Nat
  lo:Int
  hi:Int
  op:Int
  qk:Option Addr
  nk:Nat
  ck:Nat
instance:Inhabited Nv:=⟨⟨0,⟨#[]⟩,none,0,0,none,0,0,0,0,0,none,0,0⟩⟩
def encV (v:Nv):List Value:=[.int .i64 v.kind,.string v.attr,.slice v.qi v.ni v.ci,.slice v.qw v.nw v.cw,.int .i64 v.lo,.int .i64 v.hi,.int .i64 v.op,.slice v.qk v.nk v.ck]
theorem rowV:RowOf encV 26 28 8 120 where
  und:=Try.underlying26
  info:=by
    obtain ⟨i0,hi,hz0,hz1,hz2⟩:=info_parts Try.info28
    exact ⟨i0,_,hi,hz0,hz1,hz2,rfl⟩
  pos:=by decide
  one:=one_flat (fun x c hc=>by
    have hm:c=0 ∨ c=1 ∨ c=2 ∨ c=3 ∨ c=4 ∨ c=5 ∨ c=6 ∨ c=7:=by omega
    rcases hm with e | e | e | e | e | e | e | e <;> rw [e] <;> rfl) (by decide)
theorem cells8 {w:World} {b off j:Nat} {v:Nv} (h:∀ c,c < 8→w.cell? ⟨b,off + j * 8 + c,none⟩=some ((encV v)[c]!)) :
    w.cell? ⟨b,off + j * 8,none⟩=some (.int .i64 v.kind)∧w.cell? ⟨b,off + j * 8 + 1,none⟩=some (.string v.attr)∧w.cell? ⟨b,off + j * 8 + 2,none⟩=some (.slice v.qi v.ni v.ci)∧w.cell? ⟨b,off + j * 8 + 3,none⟩=some (.slice v.qw v.nw v.cw)∧w.cell? ⟨b,off + j * 8 + 4,none⟩=some (.int .i64 v.lo)∧w.cell? ⟨b,off + j * 8 + 5,none⟩=some (.int .i64 v.hi)∧w.cell? ⟨b,off + j * 8 + 6,none⟩=some (.int .i64 v.op)∧w.cell? ⟨b,off + j * 8 + 7,none⟩=some (.slice v.qk v.nk v.ck) :=
  ⟨h 0 (by omega),h 1 (by omega),h 2 (by omega),h 3 (by omega),h 4 (by omega),h 5 (by omega),h 6 (by omega),h 7 (by omega)⟩
end Go.Proofs.Ytikhopiegaoacac

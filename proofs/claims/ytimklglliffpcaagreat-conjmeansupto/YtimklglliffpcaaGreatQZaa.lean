/- What the leaf functions of package value and of its reference return, for every input. -/
import Derived.Test.YtimklglliffpcaaGreatRows
import Derived.WalkKit
import Derived.WalkSpells
import Derived.WalkLawsBesides
import Derived.Deep.RegionHeld3
import Derived.Deep.QuietTactic
import Derived.BigQuiet
import Derived.Deep.AppendLies
import Derived.Shelf.GgSortFunc.RowK
import Derived.Laws.AppendOwnNone
import Derived.Lib.SmallJoins
import Derived.Lib.AppendIntMem
namespace Go.Proofs.YtimklglliffpcaaGreat
open Go.RowKit

theorem ret_int {k:IntKind} {a b:Int} (h:a=b):Ending.returned (.int k a)=.returned (.int k b):=by rw [h]
theorem ret_bool {a b:Bool} (h:a=b):Ending.returned (.bool a)=.returned (.bool b):=by rw [h]
theorem hide {p:Prop} (h:p):Hid p:=h
theorem uh {p:Prop} (h:Hid p):p:=h.out
def cmpI (a b:Int):Int:=if a < b then -1 else if b < a then 1 else 0
def cmpS (a b:List UInt8):Int:=if Op.bytesLess a b then -1 else if a == b then 0 else 1

theorem cmpS_lt {a b:List UInt8} (h:Op.bytesLess a b=true):cmpS a b=-1:=by unfold cmpS;rw [if_pos h]
/-- In form? 0: yes, 1: no. -/
def chkV (k n:Int) (s:ByteArray):Int :=
  if (k=1∧-2147483648≤n∧n≤2147483647∧s.size=0) ∨ (k=2∧n=0∧s.size≤64) then 0 else 1
theorem size_toList (s:ByteArray):s.toList.length=s.size:=by rw [ByteArray.toList_eq];simp
theorem empty_iff (s:ByteArray):s.toList.isEmpty=true ↔ s.size=0:=by
  rw [List.isEmpty_iff,← List.length_eq_zero_iff,size_toList]
theorem chk_yes1 {k n:Int} {s:ByteArray} (h0:(k == 1)=true) (h1:-2147483648≤n) (h2:n≤2147483647) (h3:s.toList.isEmpty=true):chkV k n s=0:=by
  unfold chkV;rw [if_pos (Or.inl ⟨by simpa using h0,h1,h2,(empty_iff s).1 h3⟩)]
theorem chk_yes2 {k n:Int} {s:ByteArray} (h0:(k == 2)=true) (h1:n=0) (h2:(s.size:Int)≤64):chkV k n s=0:=by
  unfold chkV;rw [if_pos (Or.inr ⟨by simpa using h0,h1,by omega⟩)]
theorem chk_no1 {k n:Int} {s:ByteArray} (h0:(k == 1)=true) (h:¬ (-2147483648≤n∧n≤2147483647∧s.size=0)):chkV k n s=1:=by
  have:k=1:=by simpa using h0
  unfold chkV;rw [if_neg];rintro (⟨_,h'⟩ | ⟨h',_⟩);exact h h';omega
theorem chk_no2 {k n:Int} {s:ByteArray} (h0:(k == 1)=false) (h:¬ (k=2∧n=0∧s.size≤64)):chkV k n s=1:=by
  have:k ≠ 1:=by simpa using h0
  unfold chkV;rw [if_neg];rintro (⟨h',_⟩ | h');omega;exact h h'

set_option maxHeartbeats 400000 in
theorem check_any (k n:Int) (s:ByteArray) (w:World) :
    Calls Tryz.prog 87 #[.agg #[.int .i64 k,.int .i64 n,.string s]] w fun e w'=>e=.returned (.int .i64 (chkV k n s))∧Below w.heap.size w w':=by
  go_enter Tryz.func87,Tryz.ntmps87
  go_wp2
  all_goals (go_ret;refine ⟨ret_int ?_,(Below.refl _ _).alloc (Nat.le_refl _) _⟩)
  · exact (chk_yes1 (by assumption) (by assumption) (by assumption) (by assumption)).symm
  · exact (chk_no1 (by assumption) (by rw [← empty_iff];simp [*])).symm
  · exact (chk_no1 (by assumption) (by omega)).symm
  · exact (chk_no1 (by assumption) (by omega)).symm
  · exact (chk_yes2 (by assumption) (by assumption) (by assumption)).symm
  · exact (chk_no2 (by assumption) (by omega)).symm
  · exact (chk_no2 (by assumption) (by omega)).symm
  · rename_i h
    have:k ≠ 2:=by simpa using h
    exact (chk_no2 (by assumption) (by omega)).symm

theorem cells3 {w:World} {b:Nat} {x y z:Int} (h0:w.cell? ⟨b,0,none⟩=some (.int .i64 x)) (h1:w.cell? ⟨b,1,none⟩=some (.int .i64 y)) (h2:w.cell? ⟨b,2,none⟩=some (.int .i64 z)) :
    ∀ j,j < 3→w.cell? ⟨b,j,none⟩=some (.int .i64 ((fun j=>if j=0 then x else if j=1 then y else z) j)):=by
  intro j hj
  obtain rfl | rfl | rfl:j=0 ∨ j=1 ∨ j=2:=by omega
  · simpa using h0
  · simpa using h1
  · simpa using h2

end Go.Proofs.YtimklglliffpcaaGreat
namespace Go.Proofs.YtimklglliffpcaaGreat
open Go.RowKit

/-- A byte as a cell. -/
def bv (b:UInt8):Value:=.int .u8 (b.toNat:Int)
end Go.Proofs.YtimklglliffpcaaGreat
namespace Go.Proofs.YtimklglliffpcaaGreat
open Go.RowKit Go.Sort

theorem frozen_free {w:World} {g o:Nat} {cur:Array Value} {e:TypeId} (h:w.heap[g]? = some (.cells cur e (0,0))):w.frozen? ⟨g,o,none⟩=false:=by
  unfold World.frozen?;simp [h]
/-- A row that is the call's own, as the sort's kit says it. -/
theorem holds_own {α:Type} [Inhabited α] {enc:α→List Value} {k:Nat} {w:World} {B:Nat} {e:TypeId} {v:Value} {d:Array α} (hv:v ≠ .slice none 0 0) (h:w.ownsRow B e k v d.size (flatK enc k d).toList) :
    ∃ g cap,v=.slice (some ⟨g,0,none⟩) d.size cap∧B≤g∧g < w.heap.size∧HoldsK enc k w g 0 d∧d.size≤cap∧cap≤maxLen:=by
  rcases h.2 with ⟨h0,_⟩ | ⟨g,cap,cur,rfl,hB,hblk,hc,hm,_,_⟩
  · exact absurd h0 hv
  · refine ⟨g,cap,rfl,hB,(Array.getElem?_eq_some_iff.1 hblk).1,fun t ht=>⟨?_,frozen_free hblk⟩,hc,hm⟩
    rw [Nat.zero_add,h.cellAt t (by simpa using ht)]
    have ht':t < (flatK enc k d).size:=ht
    rw [Array.getElem?_toList,Array.getElem?_eq_getElem ht',getElem!_pos _ t ht']
    rfl
theorem get_bang {α:Type} [Inhabited α] {l:List α} {j:Nat} {x:α} (h:l[j]? = some x):l.toArray[j]! = x:=by
  have hj:j < l.length:=(List.getElem?_eq_some_iff.1 h).1
  rw [getElem!_pos _ j (by simpa using hj)]
  simpa [List.getElem?_eq_getElem hj] using h
theorem flat_app {α:Type} [Inhabited α] (enc:α→List Value) (k:Nat) (hk:0 < k) (l m:List α):(flatK enc k (l ++ m).toArray).toList=(flatK enc k l.toArray).toList ++ (flatK enc k m.toArray).toList:=by
  unfold flatK
  simp only [Array.toList_map,Array.toList_range,List.size_toArray,List.length_append,Nat.add_mul]
  rw [List.range_add,List.map_append,List.map_map]
  congr 1
  · apply List.map_congr_left
    intro t ht
    have ht':t < l.length * k:=by simpa using ht
    have hq:t / k < l.length:=(Nat.div_lt_iff_lt_mul hk).2 ht'
    rw [getElem!_pos _ (t / k) (by simp;omega),getElem!_pos _ (t / k) (by simpa using hq)]
    simp [List.getElem_append_left hq]
  · apply List.map_congr_left
    intro t ht
    have ht':t < m.length * k:=by simpa using ht
    have hq:t / k < m.length:=(Nat.div_lt_iff_lt_mul hk).2 ht'
    have e1:(l.length * k + t) / k=l.length + t / k:=by rw [Nat.mul_comm,Nat.mul_add_div hk]
    have e2:(l.length * k + t) % k=t % k:=by rw [Nat.mul_comm,Nat.mul_add_mod]
    simp only [Function.comp_apply,e1,e2]
    rw [getElem!_pos _ (l.length + t / k) (by simp;omega),getElem!_pos _ (t / k) (by simpa using hq)]
    simp

/-- The slice q of the call's own, in memory from B on, holds the list l. -/
def OwnK {α:Type} [Inhabited α] (enc:α→List Value) (e:TypeId) (k B:Nat) (w:World) (q:Option Addr) (cap:Nat) (l:List α):Prop :=
  w.ownsRow B e k (.slice q l.length cap) l.length (flatK enc k l.toArray).toList
structure RowOf {α:Type} [Inhabited α] (enc:α→List Value) (t e:TypeId) (k bytes:Nat):Prop where
  und:Tryz.prog.underlying t=some (.slice e)
  info:∃ i0 z,Tryz.prog.info? e=some i0∧i0.zero=some z∧i0.size=k∧i0.bytes=bytes∧z.cells.size=k
  pos:0 < k
  one:∀ (l:List α),∀ u ∈ (flatK enc k l.toArray).toList,u.oneCell'=true
theorem one_flat {α:Type} [Inhabited α] {enc:α→List Value} {k:Nat} (h:∀ (x:α) (c:Nat),c < k→((enc x)[c]!).oneCell'=true) (hk:0 < k) (l:List α):∀ u ∈ (flatK enc k l.toArray).toList,u.oneCell'=true:=by
  intro u hu
  rw [Array.mem_toList_iff] at hu
  obtain ⟨j,hj,rfl⟩:=Array.mem_iff_getElem.1 hu
  have hg:=get_flatK enc k l.toArray j (by simpa using hj)
  rw [getElem!_pos _ j hj] at hg
  rw [hg]
  exact h _ _ (Nat.mod_lt _ hk)
/-- What is appended. -/
def SrcK {α:Type} [Inhabited α] (enc:α→List Value) (k:Nat) (w:World) (p:Option Addr) (c:Nat) (l:List α):Prop :=
  (p=none→l.length=0∧c=0)∧∀ ad,p=some ad→∀ (j:Nat) (u:Value),(flatK enc k l.toArray).toList[j]? = some u→w.cell? (ad.add j)=some u
theorem add_plain (b o j:Nat):(⟨b,o,none⟩:Addr).add j=⟨b,o + j,none⟩:=by unfold Addr.add;split <;> simp_all
theorem OwnK.shape {w:World} {B:Nat} {e:TypeId} {k:Nat} {v:Value} {n:Nat} {xs:List Value} (h:w.ownsRow B e k v n xs):∃ q cap,v=.slice q n cap∧(q=none→v=.slice none 0 0):=by
  rcases h.2 with ⟨rfl,rfl⟩ | ⟨g,cap,_,rfl,_⟩
  · exact ⟨none,0,rfl,fun _=>rfl⟩
  · exact ⟨_,cap,rfl,fun h=>by cases h⟩

section
variable {α : Type} [Inhabited α] {enc : α → List Value} {t e : TypeId} {k bytes : Nat}
theorem run_app (R:RowOf enc t e k bytes) (ty:TypeId) (w:World) (B:Nat) (q:Option Addr) (cap:Nat) (l:List α) (p:Option Addr) (c:Nat) (m:List α) (hown:OwnK enc e k B w q cap l) (hs:SrcK enc k w p c m) (hm:l.length + m.length≤maxLen) (hb:(l.length + m.length) * bytes≤140737488355328) (hB:B≤w.heap.size) :
    ∃ q' cap' w',(Builtin.append_ #[t,t] ty #[.slice q l.length cap,.slice p m.length c]).run Tryz.prog w=.ok (.slice q' (l.length + m.length) cap') w'∧OwnK enc e k B w' q' cap' (l ++ m)∧Below B w w'∧(q ≠ none→q' ≠ none)∧w.grownBy w' (Value.slice q l.length cap).ownBlock:=by
  obtain ⟨i0,z,hi,hz,hsz,hby,hzs⟩:=R.info
  cases p with
  | none =>
    obtain ⟨h0,rfl⟩:=hs.1 rfl
    obtain rfl:m=[]:=List.length_eq_zero_iff.1 h0
    have hr:=run_append_owned_none (P:=Tryz.prog) (w:=w) B t ty e i0 k R.und hi _ _ _ hown
    exact ⟨q,cap,w,hr,by simpa using hown,Below.refl _ _,id,⟨rfl,rfl,rfl,Nat.le_refl _,fun _ _ _=>rfl⟩⟩
  | some ad =>
    obtain ⟨v',w',hr,ho,hg,hnil,_⟩:=run_append_own_at (P:=Tryz.prog) w B t ty e i0 z k bytes R.und hi hz hsz hby hzs R.pos _ _ _ hown ad m.length c (flatK enc k m.toArray).toList (by simp) (hs.2 ad rfl) (R.one m) hm hb hB
    obtain ⟨q',cap',rfl,hq⟩:=OwnK.shape ho
    refine ⟨q',cap',w',hr, ?_, ?_, ?_,hg⟩
    · unfold OwnK
      rw [flat_app enc k R.pos,List.length_append]
      exact ho
    · exact (Below.refl _ _).grown hg hB fun j hj=>(World.ownsRow.lt hown j hj).1
    · intro hne he
      have:=(hnil.1 (hq he)).1
      injection this with h0
      exact hne h0
theorem wp_app0 (R:RowOf enc t e k bytes) {o:Oper} {a:Act} {w:World} {K:Act→World→Prop} {Q:Exit→Act→World→Prop} (s x:Operand)
    (ho:o.op=.call { callee:=.builtin .append,args:=#[s,x],argTypes:=#[t,t] }) (B:Nat) (q:Option Addr) (cap:Nat) (l:List α) (p:Option Addr) (c:Nat) (m:List α)
    (es:a.eval s=.slice q l.length cap) (ex:a.eval x=.slice p m.length c) (hown:OwnK enc e k B w q cap l) (hs:SrcK enc k w p c m) (hm:l.length + m.length≤maxLen) (hb:(l.length + m.length) * bytes≤140737488355328) (hB:B≤w.heap.size)
    (h:∀ q' cap' w',OwnK enc e k B w' q' cap' (l ++ m)→Below B w w'→(q ≠ none→q' ≠ none)→w.grownBy w' (Value.slice q l.length cap).ownBlock→K (a.put o.dst (.slice q' (l.length + m.length) cap')) w'):o.wp Tryz.prog a w K Q:=by
  obtain ⟨q',cap',w',hr,h2,h3,h4,h5⟩:=run_app R o.type w B q cap l p c m hown hs hm hb hB
  unfold Oper.wp execOp
  simp only [ho,resolve,invoke,builtin,Sem.run_bind,Sem.run_pure,Result.andThen_ok,List.map_toArray,List.map_cons,List.map_nil,es,ex,hr]
  exact h q' cap' w' h2 h3 h4 h5
theorem wp_app (R:RowOf enc t e k bytes) {o:Oper} {a:Act} {w:World} {K:Act→World→Prop} {Q:Exit→Act→World→Prop} (s x:Operand)
    (ho:o.op=.call { callee:=.builtin .append,args:=#[s,x],argTypes:=#[t,t] }) (B:Nat) (q:Option Addr) (cap:Nat) (l:List α) (p:Option Addr) (c:Nat) (m:List α) (n n' N:Nat) (hn:l.length=n) (hn':m.length=n') (hN:n + n'=N)
    (es:a.eval s=.slice q n cap) (ex:a.eval x=.slice p n' c) (hown:OwnK enc e k B w q cap l) (hs:SrcK enc k w p c m) (hm:N≤maxLen) (hb:N * bytes≤140737488355328) (hB:B≤w.heap.size)
    (h:∀ q' cap' w',OwnK enc e k B w' q' cap' (l ++ m)→Below B w w'→(q ≠ none→q' ≠ none)→w.grownBy w' (Value.slice q n cap).ownBlock→K (a.put o.dst (.slice q' N cap')) w'):o.wp Tryz.prog a w K Q:=by
  subst hn hn' hN
  exact wp_app0 R s x ho B q cap l p c m es ex hown hs hm hb hB h
theorem wpList_app (R:RowOf enc t e k bytes) {ops:Array Oper} {rest:List Oper} {o:Oper} {a:Act} {w:World} {Q:Exit→Act→World→Prop} (hgd:o.guard=none) (s x:Operand)
    (ho:o.op=.call { callee:=.builtin .append,args:=#[s,x],argTypes:=#[t,t] }) (B:Nat) (q:Option Addr) (cap:Nat) (l:List α) (p:Option Addr) (c:Nat) (m:List α) (n n' N:Nat) (hn:l.length=n) (hn':m.length=n') (hN:n + n'=N)
    (es:a.eval s=.slice q n cap) (ex:a.eval x=.slice p n' c) (hown:OwnK enc e k B w q cap l) (hs:SrcK enc k w p c m) (hm:N≤maxLen) (hb:N * bytes≤140737488355328) (hB:B≤w.heap.size)
    (h:∀ q' cap' w',OwnK enc e k B w' q' cap' (l ++ m)→Below B w w'→(q ≠ none→q' ≠ none)→w.grownBy w' (Value.slice q n cap).ownBlock→wpList Tryz.prog ops Q rest (a.put o.dst (.slice q' N cap')) w'):wpList Tryz.prog ops Q (o :: rest) a w :=
  wpList_plain hgd fun _ hK=>wp_app R s x ho B q cap l p c m n n' N hn hn' hN es ex hown hs hm hb hB fun q' cap' w' h2 h3 h4 h5=>hK _ _ (h q' cap' w' h2 h3 h4 h5)
theorem OwnK.below {B:Nat} {w w':World} {q:Option Addr} {cap:Nat} {l:List α} (h:OwnK enc e k B w q cap l) (hb:Below w.heap.size w w'):OwnK enc e k B w' q cap l:=by
  refine ⟨h.1, ?_⟩
  rcases h.2 with h0 | ⟨g,cp,cur,hv,hB,hblk,hr⟩
  · exact Or.inl h0
  · have hg:g < w.heap.size:=(Array.getElem?_eq_some_iff.1 hblk).1
    exact Or.inr ⟨g,cp,cur,hv,hB,(hb.block g hg).trans hblk,hr⟩
theorem OwnK.mono {B B':Nat} {w:World} {q:Option Addr} {cap:Nat} {l:List α} (h:OwnK enc e k B w q cap l) (hb:B'≤B):OwnK enc e k B' w q cap l:=by
  refine ⟨h.1, ?_⟩
  rcases h.2 with h0 | ⟨g,cp,cur,hv,hB,hr⟩
  · exact Or.inl h0
  · exact Or.inr ⟨g,cp,cur,hv,Nat.le_trans hb hB,hr⟩
theorem OwnK.nil (B:Nat) (w:World):OwnK enc e k B w none 0 ([]:List α):=by
  have:(flatK enc k ([]:List α).toArray).toList=[]:=by simp [flatK]
  unfold OwnK;rw [this];exact World.ownsRow_nil w B e k
theorem OwnK.made (B:Nat) (w:World) (hB:B≤w.heap.size):OwnK enc e k B (w.alloc (.cells #[] e)) (some ⟨w.heap.size,0,none⟩) 0 ([]:List α):=by
  have:(flatK enc k ([]:List α).toArray).toList=[]:=by simp [flatK]
  unfold OwnK;rw [this];exact World.ownsRow_made w #[] 0 hB (Nat.zero_le _) (by simp)
end


theorem get_at {α:Type} {l:List α} {k:Nat} (h:k < l.length):∃ x,l[k]? = some x∧l.drop k=x :: l.drop (k + 1):=⟨l[k],List.getElem?_eq_getElem h,List.drop_eq_getElem_cons h⟩
/-- The slice q of capacity c holds the list l. -/
def LsOf {α:Type} [Inhabited α] (enc:α→List Value) (k:Nat) (w:World) (q:Option Addr) (l:List α):Prop :=
  0 < l.length→∃ b off,q=some ⟨b,off,none⟩∧b < w.heap.size∧∀ (j:Nat) (u:Value),(flatK enc k l.toArray).toList[j]? = some u→w.cell? ⟨b,off + j,none⟩=some u
def SlOf {α:Type} [Inhabited α] (enc:α→List Value) (k:Nat) (w:World) (q:Option Addr) (c:Nat) (l:List α):Prop :=
  (q=none→l.length=0∧c=0)∧l.length≤c∧c≤maxLen∧LsOf enc k w q l
section
variable {α : Type} [Inhabited α] {enc : α → List Value} {k : Nat}
theorem LsOf.nil (w:World) (q:Option Addr):LsOf enc k w q ([]:List α):=fun h=>absurd h (by simp)
theorem SlOf.none (w:World):SlOf enc k w Option.none 0 ([]:List α):=⟨fun _=>⟨rfl,rfl⟩,Nat.le_refl _,Nat.zero_le _,LsOf.nil _ _⟩
theorem LsOf.below {w w':World} {q:Option Addr} {l:List α} (h:LsOf enc k w q l) (hb:Below w.heap.size w w'):LsOf enc k w' q l:=fun h0=>by
  obtain ⟨b,off,rfl,hB,hA⟩:=h h0
  exact ⟨b,off,rfl,Nat.lt_of_lt_of_le hB hb.size,fun j u hj=>(hb.cell (p:=⟨b,off + j,Option.none⟩) hB).trans (hA j u hj)⟩
theorem SlOf.below {w w':World} {q:Option Addr} {c:Nat} {l:List α} (h:SlOf enc k w q c l) (hb:Below w.heap.size w w'):SlOf enc k w' q c l:=⟨h.1,h.2.1,h.2.2.1,h.2.2.2.below hb⟩
theorem LsOf.src {w:World} {q:Option Addr} {c:Nat} {l:List α} (hp:q=Option.none→l.length=0∧c=0) (h:LsOf enc k w q l):SrcK enc k w q c l:=by
  refine ⟨hp,fun ad e j u hj=>?_⟩
  have h0:0 < l.length:=by
    rw [Array.getElem?_toList] at hj
    obtain ⟨hs,_⟩:=Array.getElem?_eq_some_iff.1 hj
    simp at hs
    cases l with
    | nil=>simp at hs
    | cons=>simp
  obtain ⟨b,off,hq,_,hAt⟩:=h h0
  rw [e] at hq
  cases hq
  rw [add_plain]
  exact hAt j u hj
theorem SlOf.src {w:World} {q:Option Addr} {c:Nat} {l:List α} (h:SlOf enc k w q c l):SrcK enc k w q c l:=LsOf.src h.1 h.2.2.2
/-- What the cells of the j-th element hold. -/
theorem flat_at {l:List α} {j:Nat} {x:α} (hj:l[j]? = some x) (c:Nat) (hc:c < k):(flatK enc k l.toArray).toList[j * k + c]? = some ((enc x)[c]!):=by
  have hl:j < l.length:=(List.getElem?_eq_some_iff.1 hj).1
  have hlt:j * k + c < l.toArray.size * k:=by
    have:(j + 1) * k≤l.length * k:=Nat.mul_le_mul_right k hl
    simp only [List.size_toArray]
    have h2:(j + 1) * k=j * k + k:=by rw [Nat.add_mul,Nat.one_mul]
    omega
  have hs:j * k + c < (flatK enc k l.toArray).size:=by simpa using hlt
  have hg:=get_flatK enc k l.toArray (j * k + c) hlt
  have e1:(j * k + c) / k=j:=by rw [Nat.mul_comm,Nat.mul_add_div (by omega),Nat.div_eq_of_lt hc];omega
  have e2:(j * k + c) % k=c:=by rw [Nat.mul_comm,Nat.mul_add_mod];exact Nat.mod_eq_of_lt hc
  rw [e1,e2,get_bang hj,getElem!_pos (flatK enc k l.toArray) (j * k + c) hs] at hg
  rw [Array.getElem?_toList,Array.getElem?_eq_getElem hs,hg]
theorem LsOf.at {w:World} {q:Option Addr} {l:List α} {j:Nat} {x:α} (h:LsOf enc k w q l) (hj:l[j]? = some x):∃ b off,q=some ⟨b,off,Option.none⟩∧b < w.heap.size∧∀ c,c < k→w.cell? ⟨b,off + j * k + c,Option.none⟩=some ((enc x)[c]!):=by
  have hl:j < l.length:=(List.getElem?_eq_some_iff.1 hj).1
  obtain ⟨b,off,hq,hb,hA⟩:=h (by omega)
  exact ⟨b,off,hq,hb,fun c hc=>by rw [Nat.add_assoc];exact hA _ _ (flat_at hj c hc)⟩
theorem OwnK.ls {B:Nat} {e:TypeId} {w:World} {q:Option Addr} {cap:Nat} {l:List α} (h:OwnK enc e k B w q cap l):SlOf enc k w q cap l:=by
  by_cases hv:(Value.slice q l.length cap)=.slice Option.none 0 0
  · cases q with
    | none =>
      injection hv with _ h1 h2
      rw [List.length_eq_zero_iff.1 h1,h2]
      exact SlOf.none _
    | some a=>injection hv with h0;cases h0
  · obtain ⟨g,cap',hv',hB,hg,hH,hc,hm⟩:=holds_own (d:=l.toArray) (enc:=enc) hv (by simpa [OwnK] using h)
    injection hv' with h0 h1 h2
    subst h0
    subst h2
    simp only [List.size_toArray] at hc
    refine ⟨(fun h=>by cases h),hc,hm,fun _=>⟨g,0,rfl,hg,fun j u hj=>?_⟩⟩
    rw [Array.getElem?_toList] at hj
    obtain ⟨hs,hu⟩:=Array.getElem?_eq_some_iff.1 hj
    exact (hH j hs).1.trans (by rw [getElem!_pos (flatK enc k l.toArray) j hs,hu];rfl)
/-- New cells that hold one element. -/
theorem LsOf.one {w:World} {b:Nat} {x:α} (hb:b < w.heap.size) (h:∀ c,c < k→w.cell? ⟨b,c,Option.none⟩=some ((enc x)[c]!)):LsOf enc k w (some ⟨b,0,Option.none⟩) [x]:=fun _ =>
  ⟨b,0,rfl,hb,fun j u hj=>by
    rw [Array.getElem?_toList] at hj
    obtain ⟨hs,hu⟩:=Array.getElem?_eq_some_iff.1 hj
    have hlt:j < k:=by simpa using hs
    have h2:=flat_at (enc:=enc) (k:=k) (l:=[x]) (j:=0) (x:=x) rfl j hlt
    rw [Array.getElem?_toList,Nat.zero_mul,Nat.zero_add,Array.getElem?_eq_getElem hs,hu] at h2
    rw [Nat.zero_add,h j hlt,← h2]⟩
end
def encI (x:Int):List Value:=[.int .i64 x]
def encS (x:ByteArray):List Value:=[.string x]
theorem Tryz.info3:(Tryz.prog.info? 3).map (fun i=>(i.zero,i.size,i.bytes))=some (some (.int .i64 0),1,8):=by kernel_rfl
theorem Tryz.info9:(Tryz.prog.info? 9).map (fun i=>(i.zero,i.size,i.bytes))=some (some (.string ⟨#[]⟩),1,16):=by kernel_rfl
theorem Tryz.info56:(Tryz.prog.info? 56).map (fun i=>(i.zero,i.size,i.bytes))=some (some (.agg #[.int .i64 0,.string ⟨#[]⟩,.slice none 0 0,.slice none 0 0,.int .i64 0,.int .i64 0,.int .i64 0,.slice none 0 0]),8,120):=by kernel_rfl
theorem rowI:RowOf encI 23 3 1 8 where
  und:=Tryz.underlying23
  info:=by
    obtain ⟨i0,hi,hz0,hz1,hz2⟩:=info_parts Tryz.info3
    exact ⟨i0,_,hi,hz0,hz1,hz2,rfl⟩
  pos:=by decide
  one := one_flat (fun x c hc => by obtain rfl : c = 0 := by omega
                                    rfl) (by decide)
instance:Inhabited ByteArray:=⟨⟨#[]⟩⟩
theorem rowS:RowOf encS 24 9 1 16 where
  und:=Tryz.underlying24
  info:=by
    obtain ⟨i0,hi,hz0,hz1,hz2⟩:=info_parts Tryz.info9
    exact ⟨i0,_,hi,hz0,hz1,hz2,rfl⟩
  pos:=by decide
  one := one_flat (fun x c hc => by obtain rfl : c = 0 := by omega
                                    rfl) (by decide)
/-- A node as it lies in memory. -/
structure Nv where
  kind:Int
  attr:ByteArray
  qi:Option Addr
  ni:Nat
  ci:Nat
  qw:Option Addr
  nw:Nat
  cw:Nat
  lo:Int
  hi:Int
  op:Int
  qk:Option Addr
  nk:Nat
  ck:Nat
instance:Inhabited Nv:=⟨⟨0,⟨#[]⟩,none,0,0,none,0,0,0,0,0,none,0,0⟩⟩
def encV (v:Nv):List Value:=[.int .i64 v.kind,.string v.attr,.slice v.qi v.ni v.ci,.slice v.qw v.nw v.cw,.int .i64 v.lo,.int .i64 v.hi,.int .i64 v.op,.slice v.qk v.nk v.ck]
theorem rowV:RowOf encV 54 56 8 120 where
  und:=Tryz.underlying54
  info:=by
    obtain ⟨i0,hi,hz0,hz1,hz2⟩:=info_parts Tryz.info56
    exact ⟨i0,_,hi,hz0,hz1,hz2,rfl⟩
  pos:=by decide
  one:=one_flat (fun x c hc=>by
    have hm:c=0 ∨ c=1 ∨ c=2 ∨ c=3 ∨ c=4 ∨ c=5 ∨ c=6 ∨ c=7:=by omega
    rcases hm with e | e | e | e | e | e | e | e <;> rw [e] <;> rfl) (by decide)
theorem cells8 {w:World} {b off j:Nat} {v:Nv} (h:∀ c,c < 8→w.cell? ⟨b,off + j * 8 + c,none⟩=some ((encV v)[c]!)) :
    w.cell? ⟨b,off + j * 8,none⟩=some (.int .i64 v.kind)∧w.cell? ⟨b,off + j * 8 + 1,none⟩=some (.string v.attr)∧w.cell? ⟨b,off + j * 8 + 2,none⟩=some (.slice v.qi v.ni v.ci)∧w.cell? ⟨b,off + j * 8 + 3,none⟩=some (.slice v.qw v.nw v.cw)∧w.cell? ⟨b,off + j * 8 + 4,none⟩=some (.int .i64 v.lo)∧w.cell? ⟨b,off + j * 8 + 5,none⟩=some (.int .i64 v.hi)∧w.cell? ⟨b,off + j * 8 + 6,none⟩=some (.int .i64 v.op)∧w.cell? ⟨b,off + j * 8 + 7,none⟩=some (.slice v.qk v.nk v.ck) :=
  ⟨h 0 (by omega),h 1 (by omega),h 2 (by omega),h 3 (by omega),h 4 (by omega),h 5 (by omega),h 6 (by omega),h 7 (by omega)⟩
end Go.Proofs.YtimklglliffpcaaGreat
namespace Go.Proofs.YtimklglliffpcaaGreat

/-- A total order, told by -1, 0, 1. -/
structure IsCmp {α:Type} (c:α→α→Int):Prop where
  rng:∀ a b,c a b=-1 ∨ c a b=0 ∨ c a b=1
  neg:∀ a b,c b a=- c a b
  eq:∀ a b,c a b=0 ↔ a=b
  trans:∀ a b d,c a b≤0→c b d≤0→c a d≤0

theorem isCmp_int:IsCmp cmpI where
  rng a b:=by unfold cmpI;split;simp;split <;> simp
  neg a b:=by unfold cmpI;split <;> split <;> (try split) <;> omega
  eq a b:=by unfold cmpI;split <;> (try split) <;> (constructor <;> intro h <;> omega)
  trans a b d:=by unfold cmpI;intro h1 h2;split <;> (try split) <;> (split at h1 <;> (try split at h1) <;> split at h2 <;> (try split at h2) <;> omega)

theorem less_irrefl:∀ l:List UInt8,Op.bytesLess l l=false
  | []=>rfl
  | c :: l=>by simp [Op.bytesLess,less_irrefl l]
theorem less_asymm:∀ l m:List UInt8,Op.bytesLess l m=true→Op.bytesLess m l=false
  | _,[]=>by simp [Op.bytesLess]
  | [],_ :: _=>by simp [Op.bytesLess]
  | a :: x,b :: y=>by
    have ih:=less_asymm x y
    simp only [Op.bytesLess,Bool.or_eq_true,Bool.and_eq_true,decide_eq_true_eq,beq_iff_eq,Bool.or_eq_false_iff,decide_eq_false_iff_not,Bool.and_eq_false_iff,beq_eq_false_iff_ne]
    rintro (h | ⟨rfl,h⟩)
    · refine ⟨fun h2=>?_,Or.inl fun h2=>?_⟩
      · exact absurd (UInt8.lt_trans h h2) (UInt8.lt_irrefl _)
      · subst h2;exact absurd h (UInt8.lt_irrefl _)
    · exact ⟨UInt8.lt_irrefl _,Or.inr (ih h)⟩
theorem less_total:∀ l m:List UInt8,Op.bytesLess l m=false→l ≠ m→Op.bytesLess m l=true
  | [],[]=>by simp
  | _ :: _,[]=>by simp [Op.bytesLess]
  | [],_ :: _=>by simp [Op.bytesLess]
  | a :: x,b :: y=>by
    have ih:=less_total x y
    simp only [Op.bytesLess,Bool.or_eq_true,Bool.and_eq_true,decide_eq_true_eq,beq_iff_eq,Bool.or_eq_false_iff,decide_eq_false_iff_not,Bool.and_eq_false_iff,beq_eq_false_iff_ne]
    rintro ⟨h1,h2⟩ h3
    by_cases e:a=b
    · subst e
      refine Or.inr ⟨rfl,ih ?_ fun h=>h3 (by rw [h])⟩
      rcases h2 with h2 | h2
      · exact absurd rfl h2
      · exact h2
    · left
      rw [UInt8.lt_iff_toNat_lt] at h1 ⊢
      have:a.toNat ≠ b.toNat:=fun h=>e (UInt8.toNat_inj.1 h)
      omega
theorem less_trans:∀ l m n:List UInt8,Op.bytesLess l m=true→Op.bytesLess m n=true→Op.bytesLess l n=true
  | _,_,[]=>by simp [Op.bytesLess]
  | _,[],_ :: _=>by intro h;simp [Op.bytesLess] at h
  | [],_ :: _,_ :: _=>by simp [Op.bytesLess]
  | a :: x,b :: y,c :: z=>by
    have ih:=less_trans x y z
    simp only [Op.bytesLess,Bool.or_eq_true,Bool.and_eq_true,decide_eq_true_eq,beq_iff_eq]
    rintro (h1 | ⟨rfl,h1⟩) (h2 | ⟨rfl,h2⟩)
    · exact Or.inl (UInt8.lt_trans h1 h2)
    · exact Or.inl h1
    · exact Or.inl h2
    · exact Or.inr ⟨rfl,ih h1 h2⟩

theorem cmpS_cases (a b:List UInt8):(Op.bytesLess a b=true∧cmpS a b=-1) ∨ (a=b∧cmpS a b=0) ∨ (Op.bytesLess b a=true∧cmpS a b=1):=by
  cases h:Op.bytesLess a b
  · by_cases e:a=b
    · subst e;exact Or.inr (Or.inl ⟨rfl,by unfold cmpS;rw [if_neg (by simp [h]),if_pos (by simp)]⟩)
    · exact Or.inr (Or.inr ⟨less_total a b h e,by unfold cmpS;rw [if_neg (by simp [h]),if_neg (by simpa using e)]⟩)
  · exact Or.inl ⟨rfl,cmpS_lt h⟩
theorem cmpS_of_lt {a b:List UInt8} (h:Op.bytesLess b a=true):cmpS a b=1:=by
  rcases cmpS_cases a b with ⟨h1,_⟩ | ⟨rfl,_⟩ | ⟨_,h2⟩
  · rw [less_asymm _ _ h] at h1;simp at h1
  · rw [less_irrefl] at h;simp at h
  · exact h2
theorem cmpS_refl (a:List UInt8):cmpS a a=0:=by
  unfold cmpS;rw [if_neg (by simp [less_irrefl]),if_pos (by simp)]

theorem isCmp_str:IsCmp cmpS where
  rng a b:=by rcases cmpS_cases a b with ⟨_,h⟩ | ⟨_,h⟩ | ⟨_,h⟩ <;> simp [h]
  neg a b:=by
    rcases cmpS_cases a b with ⟨h1,h⟩ | ⟨rfl,h⟩ | ⟨h1,h⟩
    · rw [cmpS_of_lt h1,h];rfl
    · rw [h];rfl
    · rw [cmpS_lt h1,h]
  eq a b:=by
    rcases cmpS_cases a b with ⟨h1,h⟩ | ⟨rfl,h⟩ | ⟨h1,h⟩
    · rw [h];refine ⟨fun h=>by omega,fun e=>?_⟩;subst e;rw [less_irrefl] at h1;simp at h1
    · simp [h]
    · rw [h];refine ⟨fun h=>by omega,fun e=>?_⟩;subst e;rw [less_irrefl] at h1;simp at h1
  trans a b d h1 h2:=by
    rcases cmpS_cases a b with ⟨h,e⟩ | ⟨rfl,_⟩ | ⟨_,e⟩
    · rcases cmpS_cases b d with ⟨h',e'⟩ | ⟨rfl,_⟩ | ⟨_,e'⟩
      · rw [cmpS_lt (less_trans _ _ _ h h')];omega
      · exact h1
      · omega
    · exact h2
    · omega

/-- First by the one, then by the other. -/
theorem isCmp_then {α β:Type} {c:α→α→Int} {d:β→β→Int} (hc:IsCmp c) (hd:IsCmp d):IsCmp (fun (p q:α × β)=>if c p.1 q.1=0 then d p.2 q.2 else c p.1 q.1) where
  rng p q:=by split;exact hd.rng _ _;exact hc.rng _ _
  neg p q:=by
    have h1:=hc.neg p.1 q.1
    have h2:=hd.neg p.2 q.2
    by_cases e:c p.1 q.1=0
    · rw [if_pos e,if_pos (by omega),h2]
    · rw [if_neg e,if_neg (by omega),h1]
  eq p q:=by
    by_cases e:c p.1 q.1=0
    · rw [if_pos e,hd.eq]
      exact ⟨fun h=>Prod.ext ((hc.eq _ _).1 e) h,fun h=>by rw [h]⟩
    · rw [if_neg e]
      exact ⟨fun h=>absurd h e,fun h=>absurd ((hc.eq _ _).2 (by rw [h])) e⟩
  trans p q r:=by
    intro h1 h2
    by_cases e1:c p.1 q.1=0
    · rw [if_pos e1] at h1
      rw [(hc.eq _ _).1 e1]
      by_cases e2:c q.1 r.1=0
      · rw [if_pos e2] at h2 ⊢;exact hd.trans _ _ _ h1 h2
      · rw [if_neg e2] at h2 ⊢;exact h2
    · rw [if_neg e1] at h1
      by_cases e2:c q.1 r.1=0
      · rw [← (hc.eq _ _).1 e2,if_neg e1];exact h1
      · rw [if_neg e2] at h2
        have h3:=hc.trans _ _ _ h1 h2
        by_cases e3:c p.1 r.1=0
        · exfalso
          have h4:=(hc.eq _ _).1 e3
          have h5:=hc.neg p.1 q.1
          rw [h4] at h5 h1 e1
          rcases hc.rng r.1 q.1 with h6 | h6 | h6 <;> omega
        · rw [if_neg e3];exact h3


/-- A key. -/
theorem bytes_ext {a b:ByteArray} (h:a.data.toList=b.data.toList):a=b:=by
  obtain ⟨a⟩:=a
  obtain ⟨b⟩:=b
  congr 1
  exact Array.toList_inj.1 h
end Go.Proofs.YtimklglliffpcaaGreat
namespace Go.Proofs.YtimklglliffpcaaGreat
open Go.RowKit

def isLet (c:Int):Bool:=decide (97≤c) && decide (c≤122)
def isDig (c:Int):Bool:=decide (48≤c) && decide (c≤57)
def okB (c:Int):Bool:=isLet c || isDig c || c == 95
def byteI (s:ByteArray) (i:Nat):Int:=if h:i < s.size then (s[i].toNat:Int) else 0
theorem byteI_lt {s:ByteArray} {i:Nat} (h:i < s.size):byteI s i=(s[i].toNat:Int):=by unfold byteI;rw [dif_pos h]
/-- Is it a name? -/
def nameOk (s:ByteArray):Bool:=decide (1≤s.size) && decide (s.size≤32) && isLet (byteI s 0) && (List.range s.size).all fun i=>okB (byteI s i)
theorem name_no0 {s:ByteArray} (h:s.size < 1):nameOk s=false:=by unfold nameOk;simp;omega
theorem name_no32 {s:ByteArray} (h:32 < s.size):nameOk s=false:=by unfold nameOk;simp;omega
theorem name_noL {s:ByteArray} (h:isLet (byteI s 0)=false):nameOk s=false:=by unfold nameOk;simp [h]
theorem name_noB {s:ByteArray} {i:Nat} (hi:i < s.size) (h:okB (byteI s i)=false):nameOk s=false:=by
  unfold nameOk
  rw [Bool.and_eq_false_iff]
  right
  rw [Bool.eq_false_iff]
  intro hall
  rw [List.all_eq_true] at hall
  have:=hall i (by simpa using hi)
  rw [h] at this;cases this
theorem name_yes {s:ByteArray} (h1:1≤s.size) (h2:s.size≤32) (h3:isLet (byteI s 0)=true) (h:∀ j,j < s.size→okB (byteI s j)=true):nameOk s=true:=by
  unfold nameOk
  rw [h3]
  simp only [Bool.and_eq_true,decide_eq_true_eq,List.all_eq_true,List.mem_range]
  exact ⟨⟨⟨h1,h2⟩,trivial⟩,h⟩

set_option maxHeartbeats 400000 in
theorem schLet_any (c:Int) (w:World) :
    Calls Tryz.prog 154 #[.int .u8 c] w fun e w'=>e=.returned (.bool (isLet c))∧w'=w:=by
  by_cases h1:97≤c <;> by_cases h2:c≤122
  all_goals
    go_enter Tryz.func154,Tryz.ntmps154
    go_wp2
    go_ret
    exact ⟨ret_bool (by simp [isLet,h1,h2]),rfl⟩
set_option maxHeartbeats 400000 in
theorem schDig_any (c:Int) (w:World) :
    Calls Tryz.prog 155 #[.int .u8 c] w fun e w'=>e=.returned (.bool (isDig c))∧w'=w:=by
  by_cases h1:48≤c <;> by_cases h2:c≤57
  all_goals
    go_enter Tryz.func155,Tryz.ntmps155
    go_wp2
    go_ret
    exact ⟨ret_bool (by simp [isDig,h1,h2]),rfl⟩

set_option maxHeartbeats 1000000 in
theorem name_any (s:ByteArray) (w:World) :
    Calls Tryz.prog 110 #[.string s] w fun e w'=>e=.returned (.bool (nameOk s))∧w'=w:=by
  by_cases h1:s.size < 1
  · have hn:=hide (name_no0 h1)
    have i1:(s.size:Int) < 1:=by omega
    go_enter Tryz.func110,Tryz.ntmps110
    go_wp2
    go_ret
    exact ⟨ret_bool (uh hn).symm,rfl⟩
  · by_cases h2:32 < s.size
    · have hn:=hide (name_no32 h2)
      have i1:¬ (s.size:Int) < 1:=by omega
      have i2:(32:Int) < (s.size:Int):=by omega
      go_enter Tryz.func110,Tryz.ntmps110
      go_wp2
      go_ret
      exact ⟨ret_bool (uh hn).symm,rfl⟩
    · have i1:¬ (s.size:Int) < 1:=by omega
      have i2:¬ (32:Int) < (s.size:Int):=by omega
      have hb0:=byteI_lt (s:=s) (i:=0) (by omega)
      have hlt:=fun (c:Int) (W:World)=>schLet_any c W
      have hdg:=fun (c:Int) (W:World)=>schDig_any c W
      cases hl:isLet (byteI s 0) with
      | false =>
        have hn:=hide (name_noL hl)
        rw [hb0] at hl
        clear hb0
        have i0:(0:Int) < (s.size:Int):=by omega
        go_enter Tryz.func110,Tryz.ntmps110
        go_wp2_with (first | (go_at_call 154;refine (hlt _ _).mono ?_;rintro e w' ⟨rfl,rfl⟩))
        go_ret
        exact ⟨ret_bool (uh hn).symm,rfl⟩
      | true =>
        have Hl:=hide hl
        rw [hb0] at hl
        clear hb0
        have i0:(0:Int) < (s.size:Int):=by omega
        go_enter Tryz.func110,Tryz.ntmps110
        go_wp2_with (first | (go_at_call 154;refine (hlt _ _).mono ?_;rintro e w' ⟨rfl,rfl⟩))
        go_loop [20] (fun i=>∃ k:Nat,k≤s.size∧i=.int .i64 k∧∀ j,j < k→okB (byteI s j)=true) (fun i=>s.size - (intOf i).toNat)
        case atStart=>exact ⟨0,by omega,rfl,fun j hj=>by omega⟩
        case round =>
          obtain ⟨k,hk,rfl,hz⟩:=hrel
          have Hz:=hide hz
          clear hz
          by_cases hkl:k < s.size
          · have ki0:(0:Int)≤(k:Int):=by omega
            have ki1:(k:Int) < (s.size:Int):=by omega
            have hbk:=byteI_lt hkl
            cases hok:okB (byteI s k) with
            | true =>
              have Hok:=hide hok
              rw [hbk] at hok
              have hparts:(isLet (s[k].toNat:Int)=true) ∨ (isLet (s[k].toNat:Int)=false∧isDig (s[k].toNat:Int)=true) ∨ (isLet (s[k].toNat:Int)=false∧isDig (s[k].toNat:Int)=false∧((s[k].toNat:Int) != 95)=false):=by
                revert hok;unfold okB
                cases isLet (s[k].toNat:Int) <;> cases isDig (s[k].toNat:Int) <;> simp
              clear hok hbk
              rcases hparts with p1 | ⟨p1,p2⟩ | ⟨p1,p2,p3⟩
              all_goals
                go_wp2_with (first | (go_at_call 154;refine (hlt _ _).mono ?_;rintro e w' ⟨rfl,rfl⟩) | (go_at_call 155;refine (hdg _ _).mono ?_;rintro e w' ⟨rfl,rfl⟩))
                go_round
                case rel=>exact ⟨k + 1,by omega,by go_num,fun j hj=>by
                  by_cases e:j=k
                  · rw [e];exact uh Hok
                  · exact uh Hz j (by omega)⟩
                case measure=>simp [intOf];omega
            | false =>
              have hn:=hide (name_noB hkl hok)
              rw [hbk] at hok
              have hparts:isLet (s[k].toNat:Int)=false∧isDig (s[k].toNat:Int)=false∧((s[k].toNat:Int) != 95)=true:=by
                revert hok;unfold okB
                cases isLet (s[k].toNat:Int) <;> cases isDig (s[k].toNat:Int) <;> simp
              obtain ⟨p1,p2,p3⟩:=hparts
              clear hok hbk
              go_wp2_with (first | (go_at_call 154;refine (hlt _ _).mono ?_;rintro e w' ⟨rfl,rfl⟩) | (go_at_call 155;refine (hdg _ _).mono ?_;rintro e w' ⟨rfl,rfl⟩))
              go_ret
              exact ⟨ret_bool (uh hn).symm,rfl⟩
          · obtain rfl:k=s.size:=by omega
            go_wp2
            go_ret
            exact ⟨ret_bool (name_yes (by omega) (by omega) (uh Hl) (uh Hz)).symm,rfl⟩

set_option maxHeartbeats 1000000 in
theorem refName_any (s:ByteArray) (w:World) :
    Calls Tryz.prog 107 #[.string s] w fun e w'=>e=.returned (.bool (nameOk s))∧w'=w:=by
  by_cases h1:s.size < 1
  · have hn:=hide (name_no0 h1)
    have he:s.toList.isEmpty=true:=(empty_iff s).2 (by omega)
    go_enter Tryz.func107,Tryz.ntmps107
    go_wp2
    go_ret
    exact ⟨ret_bool (uh hn).symm,rfl⟩
  · have he:s.toList.isEmpty=false:=by
      cases h:s.toList.isEmpty with
      | false=>rfl
      | true=>have:=(empty_iff s).1 h;omega
    by_cases h2:32 < s.size
    · have hn:=hide (name_no32 h2)
      have i2:(32:Int) < (s.size:Int):=by omega
      go_enter Tryz.func107,Tryz.ntmps107
      go_wp2
      go_ret
      exact ⟨ret_bool (uh hn).symm,rfl⟩
    · have i2:¬ (32:Int) < (s.size:Int):=by omega
      go_enter Tryz.func107,Tryz.ntmps107
      go_wp2
      go_loop [3] (fun i=>∃ k:Nat,k≤s.size∧i=.int .i64 k∧(0 < k→isLet (byteI s 0)=true)∧∀ j,j < k→okB (byteI s j)=true) (fun i=>s.size - (intOf i).toNat)
      case atStart=>exact ⟨0,by omega,rfl,fun h=>by omega,fun j hj=>by omega⟩
      case round =>
        obtain ⟨k,hk,rfl,hl,hz⟩:=hrel
        have Hz:=hide hz
        have Hl:=hide hl
        clear hz hl
        by_cases hkl:k < s.size
        · have ki0:(0:Int)≤(k:Int):=by omega
          have ki1:(k:Int) < (s.size:Int):=by omega
          have hbk:=hide (byteI_lt hkl)
          by_cases k0:k=0
          · subst k0
            by_cases a:(97:Int)≤(s[0].toNat:Int)∧(s[0].toNat:Int)≤122
            · obtain ⟨a1,a2⟩:=a
              have hL:isLet (byteI s 0)=true:=by rw [uh hbk];simp [isLet,a1,a2]
              have HL:=hide hL
              clear hL
              go_wp2
              go_round
              case rel=>exact ⟨0 + 1,by omega,by go_num,fun _=>uh HL,fun j hj=>by
                  obtain rfl:j=0:=by omega
                  simp [okB,uh HL]⟩
              case measure=>simp [intOf];omega
            · have hN:=hide (name_noL (s:=s) (by rw [uh hbk];simp [isLet];omega))
              by_cases a1:(97:Int)≤(s[0].toNat:Int)
              · have a2:¬ (s[0].toNat:Int)≤122:=fun h=>a ⟨a1,h⟩
                clear a
                go_wp2
                go_ret
                exact ⟨ret_bool (uh hN).symm,rfl⟩
              · clear a
                go_wp2
                go_ret
                exact ⟨ret_bool (uh hN).symm,rfl⟩
          · have kd:((k:Int) == 0)=false:=by simp;omega
            cases hok:okB (byteI s k) with
            | true =>
              have Hok:=hide hok
              rw [uh hbk] at hok
              have hparts:((97:Int)≤(s[k].toNat:Int)∧(s[k].toNat:Int)≤122) ∨ (¬ (97:Int)≤(s[k].toNat:Int)∧¬ (s[k].toNat:Int) < 48∧¬ (57:Int) < (s[k].toNat:Int)) ∨ (¬ (97:Int)≤(s[k].toNat:Int)∧¬ (s[k].toNat:Int) < 48∧(57:Int) < (s[k].toNat:Int)∧((s[k].toNat:Int) != 95)=false):=by
                revert hok;unfold okB isLet isDig;simp;omega
              clear hok
              rcases hparts with ⟨p1,p2⟩ | ⟨p1,p2,p3⟩ | ⟨p1,p2,p3,p4⟩
              all_goals
                go_wp2
                go_round
                case rel=>exact ⟨k + 1,by omega,by go_num,fun _=>uh Hl (by omega),fun j hj=>by
                  by_cases e:j=k
                  · rw [e];exact uh Hok
                  · exact uh Hz j (by omega)⟩
                case measure=>simp [intOf];omega
            | false =>
              have hn:=hide (name_noB hkl hok)
              rw [uh hbk] at hok
              have hparts:(¬ (97:Int)≤(s[k].toNat:Int)∧(s[k].toNat:Int) < 48∧((s[k].toNat:Int) != 95)=true) ∨ (¬ (97:Int)≤(s[k].toNat:Int)∧¬ (s[k].toNat:Int) < 48∧(57:Int) < (s[k].toNat:Int)∧((s[k].toNat:Int) != 95)=true) ∨ ((97:Int)≤(s[k].toNat:Int)∧¬ (s[k].toNat:Int)≤122∧¬ (s[k].toNat:Int) < 48∧(57:Int) < (s[k].toNat:Int)∧((s[k].toNat:Int) != 95)=true):=by
                revert hok;unfold okB isLet isDig;simp;omega
              clear hok
              rcases hparts with ⟨p1,p2,p3⟩ | ⟨p1,p2,p3,p4⟩ | ⟨p1,p2,p3,p4,p5⟩
              all_goals
                go_wp2
                go_ret
                exact ⟨ret_bool (uh hn).symm,rfl⟩
        · obtain rfl:k=s.size:=by omega
          go_wp2
          go_ret
          exact ⟨ret_bool (name_yes (by omega) (by omega) (uh Hl (by omega)) (uh Hz)).symm,rfl⟩

end Go.Proofs.YtimklglliffpcaaGreat
namespace Go.Proofs.YtimklglliffpcaaGreat
open Go.RowKit

inductive Nd where
  | mk (kind:Int) (attr:ByteArray) (ints:List Int) (words:List ByteArray) (lo hi op:Int) (kids:List Nd)
namespace Nd
def kids:Nd→List Nd
  | .mk _ _ _ _ _ _ _ ks=>ks
theorem ind {P:Nd→Prop} (h:∀ kind attr ints words lo hi op kids,(∀ x ∈ kids,P x)→P (.mk kind attr ints words lo hi op kids)) (t:Nd):P t :=
  Nd.rec (motive_1:=P) (motive_2:=fun l=>∀ x ∈ l,P x) (fun kind attr ints words lo hi op kids ih=>h kind attr ints words lo hi op kids ih)
    (fun x hx=>by simp at hx) (fun x xs hx hxs y hy=>by
      rcases List.mem_cons.1 hy with rfl | hy
      · exact hx
      · exact hxs y hy) t
end Nd
/-- The value of a node. -/
def Nv.val (v:Nv):Value:=.agg #[.int .i64 v.kind,.string v.attr,.slice v.qi v.ni v.ci,.slice v.qw v.nw v.cw,.int .i64 v.lo,.int .i64 v.hi,.int .i64 v.op,.slice v.qk v.nk v.ck]
/-- The tree of the node v lies in memory. -/
inductive NdIn (w:World):Nv→Nd→Prop
  | mk {kind:Int} {attr:ByteArray} {ints:List Int} {words:List ByteArray} {lo hi op:Int} {kids:List Nd} {qi:Option Addr} {ci:Nat} {qw:Option Addr} {cw:Nat} {qk:Option Addr} {ck:Nat} {vs:List Nv} :
      SlOf encI 1 w qi ci ints→SlOf encS 1 w qw cw words→SlOf encV 8 w qk ck vs→vs.length=kids.length→(∀ (j:Nat) (v:Nv) (x:Nd),vs[j]? = some v→kids[j]? = some x→NdIn w v x) →
      NdIn w ⟨kind,attr,qi,ints.length,ci,qw,words.length,cw,lo,hi,op,qk,kids.length,ck⟩ (.mk kind attr ints words lo hi op kids)
theorem NdIn.keep {w w':World} {v:Nv} {t:Nd} (h:NdIn w v t) (hb:Below w.heap.size w w'):NdIn w' v t:=by
  induction h with
  | mk hi hw hk hl hr ih=>exact .mk (hi.below hb) (hw.below hb) (hk.below hb) hl fun j v x hj hx=>ih j v x hj hx
/-- A list of nodes in memory. -/
def NdsOf (w:World) (q:Option Addr) (c:Nat) (l:List Nd):Prop:=∃ vs,SlOf encV 8 w q c vs∧vs.length=l.length∧∀ (j:Nat) (v:Nv) (x:Nd),vs[j]? = some v→l[j]? = some x→NdIn w v x
theorem NdsOf.below {w w':World} {q:Option Addr} {c:Nat} {l:List Nd} (h:NdsOf w q c l) (hb:Below w.heap.size w w'):NdsOf w' q c l:=by
  obtain ⟨vs,h1,h2,h3⟩:=h
  exact ⟨vs,h1.below hb,h2,fun j v x hj hx=>(h3 j v x hj hx).keep hb⟩
theorem NdIn.parts {w:World} {v:Nv} {kind:Int} {attr:ByteArray} {ints:List Int} {words:List ByteArray} {lo hi op:Int} {kids:List Nd} (h:NdIn w v (.mk kind attr ints words lo hi op kids)) :
    ∃ qi ci qw cw qk ck,v=⟨kind,attr,qi,ints.length,ci,qw,words.length,cw,lo,hi,op,qk,kids.length,ck⟩∧SlOf encI 1 w qi ci ints∧SlOf encS 1 w qw cw words∧NdsOf w qk ck kids:=by
  cases h with
  | mk hi hw hk hl hr=>exact ⟨_,_,_,_,_,_,rfl,hi,hw,_,hk,hl,hr⟩
theorem NdIn.make {w:World} {kind:Int} {attr:ByteArray} {ints:List Int} {words:List ByteArray} {lo hi op:Int} {kids:List Nd} {qi:Option Addr} {ci:Nat} {qw:Option Addr} {cw:Nat} {qk:Option Addr} {ck:Nat}
    (h1:SlOf encI 1 w qi ci ints) (h2:SlOf encS 1 w qw cw words) (h3:NdsOf w qk ck kids):NdIn w ⟨kind,attr,qi,ints.length,ci,qw,words.length,cw,lo,hi,op,qk,kids.length,ck⟩ (.mk kind attr ints words lo hi op kids):=by
  obtain ⟨vs,k1,k2,k3⟩:=h3
  exact .mk h1 h2 k1 k2 k3
/-- The j-th kid: its cells, and its tree. -/
theorem NdsOf.at {w:World} {q:Option Addr} {c:Nat} {l:List Nd} {j:Nat} {x:Nd} (h:NdsOf w q c l) (hj:l[j]? = some x) :
    ∃ b off v,q=some ⟨b,off,none⟩∧b < w.heap.size∧NdIn w v x∧w.cell? ⟨b,off + j * 8,none⟩=some (.int .i64 v.kind)∧w.cell? ⟨b,off + j * 8 + 1,none⟩=some (.string v.attr)∧w.cell? ⟨b,off + j * 8 + 2,none⟩=some (.slice v.qi v.ni v.ci)∧w.cell? ⟨b,off + j * 8 + 3,none⟩=some (.slice v.qw v.nw v.cw)∧w.cell? ⟨b,off + j * 8 + 4,none⟩=some (.int .i64 v.lo)∧w.cell? ⟨b,off + j * 8 + 5,none⟩=some (.int .i64 v.hi)∧w.cell? ⟨b,off + j * 8 + 6,none⟩=some (.int .i64 v.op)∧w.cell? ⟨b,off + j * 8 + 7,none⟩=some (.slice v.qk v.nk v.ck):=by
  obtain ⟨vs,h1,h2,h3⟩:=h
  have hl:j < l.length:=(List.getElem?_eq_some_iff.1 hj).1
  obtain ⟨v,hv,_⟩:=get_at (l:=vs) (k:=j) (by omega)
  obtain ⟨b,off,hq,hb,hc⟩:=h1.2.2.2.at hv
  exact ⟨b,off,v,hq,hb,h3 j v x hv hj,cells8 hc⟩
/-- The same, seen from a later world. -/
theorem NdsOf.on {w wr:World} {q:Option Addr} {c:Nat} {l:List Nd} {j:Nat} {x:Nd} (h:NdsOf w q c l) (hj:l[j]? = some x) (hbel:Below w.heap.size w wr) :
    ∃ b off v,q=some ⟨b,off,none⟩∧NdIn wr v x∧wr.cell? ⟨b,off + j * 8,none⟩=some (.int .i64 v.kind)∧wr.cell? ⟨b,off + j * 8 + 1,none⟩=some (.string v.attr)∧wr.cell? ⟨b,off + j * 8 + 2,none⟩=some (.slice v.qi v.ni v.ci)∧wr.cell? ⟨b,off + j * 8 + 3,none⟩=some (.slice v.qw v.nw v.cw)∧wr.cell? ⟨b,off + j * 8 + 4,none⟩=some (.int .i64 v.lo)∧wr.cell? ⟨b,off + j * 8 + 5,none⟩=some (.int .i64 v.hi)∧wr.cell? ⟨b,off + j * 8 + 6,none⟩=some (.int .i64 v.op)∧wr.cell? ⟨b,off + j * 8 + 7,none⟩=some (.slice v.qk v.nk v.ck):=by
  obtain ⟨b,off,v,hq,hb,hin,c⟩:=(h.below hbel).at hj
  exact ⟨b,off,v,hq,hin,c⟩
theorem intsAt {w:World} {q:Option Addr} {c:Nat} {l:List Int} {j:Nat} {x:Int} (h:SlOf encI 1 w q c l) (hj:l[j]? = some x):∃ b off,q=some ⟨b,off,none⟩∧b < w.heap.size∧w.cell? ⟨b,off + j,none⟩=some (.int .i64 x):=by
  obtain ⟨b,off,hq,hb,hc⟩:=h.2.2.2.at hj
  exact ⟨b,off,hq,hb,by have:=hc 0 (by omega);rw [Nat.mul_one] at this;exact this⟩
theorem wordsAt {w:World} {q:Option Addr} {c:Nat} {l:List ByteArray} {j:Nat} {x:ByteArray} (h:SlOf encS 1 w q c l) (hj:l[j]? = some x):∃ b off,q=some ⟨b,off,none⟩∧b < w.heap.size∧w.cell? ⟨b,off + j,none⟩=some (.string x):=by
  obtain ⟨b,off,hq,hb,hc⟩:=h.2.2.2.at hj
  exact ⟨b,off,hq,hb,by have:=hc 0 (by omega);rw [Nat.mul_one] at this;exact this⟩

mutual
/-- How many nodes. -/
def sizeN:Nd→Nat
  | .mk _ _ _ _ _ _ _ ks=>1 + sizeL ks
def sizeL:List Nd→Nat
  | []=>0
  | x :: xs=>sizeN x + sizeL xs
end
def wordsWt:List ByteArray→Nat
  | []=>0
  | x :: xs=>1 + x.size + wordsWt xs
mutual
/-- How much a tree holds. -/
def wtN:Nd→Nat
  | .mk _ attr ints words _ _ _ ks=>1 + attr.size + ints.length + wordsWt words + wtL ks
def wtL:List Nd→Nat
  | []=>0
  | x :: xs=>wtN x + wtL xs
end
theorem wtL_mem {x:Nd} {l:List Nd} (h:x ∈ l):wtN x≤wtL l:=by
  induction l with
  | nil=>simp at h
  | cons y l ih =>
    rcases List.mem_cons.1 h with rfl | h
    · simp [wtL]
    · have:=ih h;simp only [wtL];omega
theorem words_len (l:List ByteArray):l.length≤wordsWt l:=by
  induction l with
  | nil=>simp [wordsWt]
  | cons x l ih=>simp only [wordsWt,List.length_cons];omega
theorem size_wt:∀ t,sizeN t≤wtN t:=by
  apply Nd.ind
  intro kind attr ints words lo hi op kids ih
  have:sizeL kids≤wtL kids:=by
    clear kind attr ints words lo hi op
    induction kids with
    | nil=>simp [sizeL]
    | cons x xs ih2 =>
      have h1:=ih x List.mem_cons_self
      have h2:=ih2 fun y hy=>ih y (List.mem_cons_of_mem _ hy)
      simp only [wtL,sizeL];omega
  simp only [wtN,sizeN];omega
theorem sizeL_wt (l:List Nd):sizeL l≤wtL l:=by
  induction l with
  | nil=>simp [sizeL]
  | cons x l ih=>have:=size_wt x;simp only [wtL,sizeL];omega
theorem take_snoc_of {α:Type} {l:List α} {k:Nat} {x:α} (h:l[k]? = some x):l.take (k + 1)=l.take k ++ [x]:=by
  rw [List.take_add_one,h];rfl
end Go.Proofs.YtimklglliffpcaaGreat
namespace Go.Proofs.YtimklglliffpcaaGreat
open Go.RowKit

/-- What the listed variables of the library hold. -/
def G (w:World):Prop:=Lib.TabIs Tryz.prog w "internal/strconv.uint64pow10" .u64 Lib.pow10Tab
theorem below_sub {a b c:World} (h:Below a.heap.size a b) (h2:Below b.heap.size b c):Below a.heap.size a c:=h.trans (h2.mono h.size)

theorem bcell {W w1:World} (hb:Below W.heap.size W w1):(∀ b o,b < W.heap.size→w1.cell? ⟨b,o,none⟩=W.cell? ⟨b,o,none⟩)∧(∀ b o,b < W.heap.size→w1.frozen? ⟨b,o,none⟩=W.frozen? ⟨b,o,none⟩) :=
  ⟨fun b o h=>hb.cell (p:=⟨b,o,none⟩) h,fun b o h=>hb.frozen (p:=⟨b,o,none⟩) h⟩

theorem toList_ne {a b:ByteArray} (h:a ≠ b):(a.toList == b.toList)=false:=by
  rw [beq_eq_false_iff_ne]
  intro h2
  rw [ByteArray.toList_eq,ByteArray.toList_eq] at h2
  exact h (WideShapes.bytes_inj h2)

end Go.Proofs.YtimklglliffpcaaGreat
namespace Go.Proofs.YtimklglliffpcaaGreat
open Go.RowKit

def numOk (n:Int):Bool:=decide (-2147483648≤n) && decide (n≤2147483647)
def wordOk (s:ByteArray):Bool:=decide (s.size≤64)
theorem chk_num (n:Int):chkV 1 n ⟨#[]⟩=if numOk n then 0 else 1:=by
  cases h:numOk n with
  | true =>
    unfold numOk at h
    simp only [Bool.and_eq_true,decide_eq_true_eq] at h
    rw [if_pos rfl];exact chk_yes1 rfl h.1 h.2 ((empty_iff _).2 rfl)
  | false =>
    unfold numOk at h
    rw [if_neg (by simp)]
    refine chk_no1 rfl fun h2=>?_
    simp only [Bool.and_eq_false_iff,decide_eq_false_iff_not] at h
    omega
theorem chk_word (s:ByteArray):chkV 2 0 s=if wordOk s then 0 else 1:=by
  cases h:wordOk s with
  | true =>
    unfold wordOk at h
    simp only [decide_eq_true_eq] at h
    rw [if_pos rfl];exact chk_yes2 rfl rfl (by omega)
  | false =>
    unfold wordOk at h
    rw [if_neg (by simp)]
    refine chk_no2 rfl fun h2=>?_
    simp only [decide_eq_false_iff_not] at h
    omega
set_option maxHeartbeats 400000 in
theorem number_any (n:Int) (w:World):Calls Tryz.prog 156 #[.int .i64 n] w fun e w'=>e=.returned (.agg #[.int .i64 1,.int .i64 n,.string ⟨#[]⟩])∧Below w.heap.size w w':=by
  go_enter Tryz.func156,Tryz.ntmps156
  go_wp2
  refine bodyPost_ret (v:=.agg #[.int .i64 1,.int .i64 n,.string ⟨#[]⟩]) (by simp [results,Tryz.results156,go_sem]) rfl ⟨rfl, ?_⟩
  exact (Below.refl _ _).alloc (Nat.le_refl _) _
set_option maxHeartbeats 400000 in
theorem word_any (s:ByteArray) (w:World):Calls Tryz.prog 157 #[.string s] w fun e w'=>e=.returned (.agg #[.int .i64 2,.int .i64 0,.string s])∧Below w.heap.size w w':=by
  go_enter Tryz.func157,Tryz.ntmps157
  go_wp2
  refine bodyPost_ret (v:=.agg #[.int .i64 2,.int .i64 0,.string s]) (by simp [results,Tryz.results157,go_sem]) rfl ⟨rfl, ?_⟩
  exact (Below.refl _ _).alloc (Nat.le_refl _) _
set_option maxHeartbeats 400000 in
theorem isNumber_any (n:Int) (w:World):Calls Tryz.prog 112 #[.int .i64 n] w fun e w'=>e=.returned (.bool (numOk n))∧Below w.heap.size w w':=by
  have hc:=fun w=>check_any 1 n ⟨#[]⟩ w
  rw [chk_num] at hc
  cases h:numOk n
  all_goals
    simp only [h,if_true,Bool.false_eq_true,if_false] at hc
    clear h
    go_enter Tryz.func112,Tryz.ntmps112
    go_wp2_with (first
      | (go_at_call 156;refine (number_any n _).mono ?_;rintro e w1 ⟨rfl,b1⟩)
      | (go_at_call 87;refine (hc _).mono ?_;rintro e w2 ⟨rfl,b2⟩))
    go_ret
    exact ⟨rfl,below_sub b1 b2⟩
set_option maxHeartbeats 400000 in
theorem isWord_any (s:ByteArray) (w:World):Calls Tryz.prog 114 #[.string s] w fun e w'=>e=.returned (.bool (wordOk s))∧Below w.heap.size w w':=by
  have hc:=fun w=>check_any 2 0 s w
  rw [chk_word] at hc
  cases h:wordOk s
  all_goals
    simp only [h,if_true,Bool.false_eq_true,if_false] at hc
    clear h
    go_enter Tryz.func114,Tryz.ntmps114
    go_wp2_with (first
      | (go_at_call 157;refine (word_any s _).mono ?_;rintro e w1 ⟨rfl,b1⟩)
      | (go_at_call 87;refine (hc _).mono ?_;rintro e w2 ⟨rfl,b2⟩))
    go_ret
    exact ⟨rfl,below_sub b1 b2⟩
/-- One member at least, no more than m, and each good. -/
def memB {α:Type} (ok:α→Bool) (l:List α) (m:Int):Bool:=l.all ok && (decide (1≤l.length) && decide ((l.length:Int)≤m))
theorem all_no {α:Type} {ok:α→Bool} {l:List α} {k:Nat} {x:α} (hx:l[k]? = some x) (h:ok x=false) (m:Int):memB ok l m=false:=by
  unfold memB
  have:l.all ok=false:=by
    rw [List.all_eq_false];exact ⟨x,List.mem_of_getElem? hx,by simp [h]⟩
  rw [this];rfl
theorem all_yes {α:Type} {ok:α→Bool} {l:List α} (h:∀ (j:Nat) (x:α),j < l.length→l[j]? = some x→ok x=true) (m:Int):memB ok l m=(decide (1≤l.length) && decide ((l.length:Int)≤m)):=by
  unfold memB
  have:l.all ok=true:=by
    rw [List.all_eq_true];intro x hx
    obtain ⟨j,hj⟩:=List.getElem?_of_mem hx
    exact h j x (List.getElem?_eq_some_iff.1 hj).1 hj
  rw [this];rfl
set_option maxHeartbeats 1000000 in
theorem membersI (q:Option Addr) (c:Nat) (l:List Int) (m:Int) (w:World) (h:SlOf encI 1 w q c l) (hl:l.length≤1000000000000000000) :
    Calls Tryz.prog 111 #[.slice q l.length c,.int .i64 m,.func (.func 112) #[] #[]] w fun e w'=>e=.returned (.bool (memB numOk l m))∧Below w.heap.size w w':=by
  have HA:=hide h
  have a0:(l.length:Int)≤1000000000000000000:=by omega
  clear h
  go_enter Tryz.func111,Tryz.ntmps111
  go_wp2
  go_loopw [11] (fun i wr=>∃ k:Nat,k≤l.length∧i=.int .i64 k∧(∀ (j:Nat) (x:Int),j < k→l[j]? = some x→numOk x=true)∧Below w.heap.size w wr) (fun i _=>l.length - (intOf i).toNat)
  case atStart=>exact ⟨0,by omega,rfl,fun j x h=>absurd h (by omega),Below.refl _ _⟩
  case round =>
    obtain ⟨k,hk,rfl,hall,hbel⟩:=hrel
    have HALL:=hide hall
    have HB:=hide hbel
    by_cases hlt:k < l.length
    · obtain ⟨x,hx,hxd⟩:=get_at hlt
      obtain ⟨b,off,hq,hb,hc⟩:=intsAt (uh HA) hx
      subst hq
      have g:=(hbel.cell (p:=⟨b,off + k,none⟩) hb).trans hc
      have ki0:(0:Int)≤(k:Int):=by omega
      have ki1:(k:Int) < (l.length:Int):=by omega
      have hn:=fun w=>isNumber_any x w
      cases hok:numOk x with
      | true =>
        rw [hok] at hn
        have HN:=hide (show ∀ (j:Nat) (y:Int),j < k + 1→l[j]? = some y→numOk y=true from fun j y hj hy=>by
          by_cases e:j=k
          · subst e;rw [hx] at hy;cases hy;exact hok
          · exact hall j y (by omega) hy)
        clear hall hbel hxd hx hc hok
        go_wp2_with (go_at_call 112;refine (hn _).mono ?_;rintro e w1 ⟨rfl,b1⟩)
        exact ⟨⟨k + 1,by omega,by go_num,uh HN,below_sub (uh HB) b1⟩,by simp [intOf];omega⟩
      | false =>
        rw [hok] at hn
        have HN:=hide (all_no hx hok m)
        clear hall hbel hxd hx hc hok
        go_wp2_with (go_at_call 112;refine (hn _).mono ?_;rintro e w1 ⟨rfl,b1⟩)
        go_ret
        exact ⟨ret_bool (uh HN).symm,below_sub (uh HB) b1⟩
    · have ki1:¬ (k:Int) < (l.length:Int):=by omega
      have HN:=hide (all_yes (ok:=numOk) (l:=l) (fun j x hj hx=>hall j x (by omega) hx) m)
      clear hall hbel
      by_cases h1:1≤l.length <;> by_cases h2:(l.length:Int)≤m
      all_goals
        have h3:decide ((1:Int)≤(l.length:Int))=decide (1≤l.length):=by simp;omega
        go_wp2
        go_ret
        exact ⟨ret_bool (by rw [uh HN];simp [h1,h2]),uh HB⟩
set_option maxHeartbeats 1000000 in
theorem membersW (q:Option Addr) (c:Nat) (l:List ByteArray) (m:Int) (w:World) (h:SlOf encS 1 w q c l) (hl:l.length≤1000000000000000000) :
    Calls Tryz.prog 113 #[.slice q l.length c,.int .i64 m,.func (.func 114) #[] #[]] w fun e w'=>e=.returned (.bool (memB wordOk l m))∧Below w.heap.size w w':=by
  have HA:=hide h
  have a0:(l.length:Int)≤1000000000000000000:=by omega
  clear h
  go_enter Tryz.func113,Tryz.ntmps113
  go_wp2
  go_loopw [11] (fun i wr=>∃ k:Nat,k≤l.length∧i=.int .i64 k∧(∀ (j:Nat) (x:ByteArray),j < k→l[j]? = some x→wordOk x=true)∧Below w.heap.size w wr) (fun i _=>l.length - (intOf i).toNat)
  case atStart=>exact ⟨0,by omega,rfl,fun j x h=>absurd h (by omega),Below.refl _ _⟩
  case round =>
    obtain ⟨k,hk,rfl,hall,hbel⟩:=hrel
    have HALL:=hide hall
    have HB:=hide hbel
    by_cases hlt:k < l.length
    · obtain ⟨x,hx,hxd⟩:=get_at hlt
      obtain ⟨b,off,hq,hb,hc⟩:=wordsAt (uh HA) hx
      subst hq
      have g:=(hbel.cell (p:=⟨b,off + k,none⟩) hb).trans hc
      have ki0:(0:Int)≤(k:Int):=by omega
      have ki1:(k:Int) < (l.length:Int):=by omega
      have hn:=fun w=>isWord_any x w
      cases hok:wordOk x with
      | true =>
        rw [hok] at hn
        have HN:=hide (show ∀ (j:Nat) (y:ByteArray),j < k + 1→l[j]? = some y→wordOk y=true from fun j y hj hy=>by
          by_cases e:j=k
          · subst e;rw [hx] at hy;cases hy;exact hok
          · exact hall j y (by omega) hy)
        clear hall hbel hxd hx hc hok
        go_wp2_with (go_at_call 114;refine (hn _).mono ?_;rintro e w1 ⟨rfl,b1⟩)
        exact ⟨⟨k + 1,by omega,by go_num,uh HN,below_sub (uh HB) b1⟩,by simp [intOf];omega⟩
      | false =>
        rw [hok] at hn
        have HN:=hide (all_no hx hok m)
        clear hall hbel hxd hx hc hok
        go_wp2_with (go_at_call 114;refine (hn _).mono ?_;rintro e w1 ⟨rfl,b1⟩)
        go_ret
        exact ⟨ret_bool (uh HN).symm,below_sub (uh HB) b1⟩
    · have ki1:¬ (k:Int) < (l.length:Int):=by omega
      have HN:=hide (all_yes (ok:=wordOk) (l:=l) (fun j x hj hx=>hall j x (by omega) hx) m)
      clear hall hbel
      by_cases h1:1≤l.length <;> by_cases h2:(l.length:Int)≤m
      all_goals
        have h3:decide ((1:Int)≤(l.length:Int))=decide (1≤l.length):=by simp;omega
        go_wp2
        go_ret
        exact ⟨ret_bool (by rw [uh HN];simp [h1,h2]),uh HB⟩
def emptyB (ni nw:Nat) (lo hi:Int):Bool:=decide (ni=0) && (decide (nw=0) && (decide (lo=0) && decide (hi=0)))
set_option maxHeartbeats 1000000 in
theorem empty_any (kind:Int) (attr:ByteArray) (qi:Option Addr) (ni ci:Nat) (qw:Option Addr) (nw cw:Nat) (lo hi:Int) (w:World) :
    Calls Tryz.prog 115 #[.agg #[.int .i64 kind,.string attr,.slice qi ni ci,.slice qw nw cw,.int .i64 lo,.int .i64 hi]] w fun e w'=>e=.returned (.bool (emptyB ni nw lo hi))∧Below w.heap.size w w':=by
  by_cases h1:ni=0 <;> by_cases h2:nw=0 <;> by_cases h3:lo=0 <;> by_cases h4:hi=0
  all_goals
    have i1:=h1;have i2:=h2;have i3:=h3;have i4:=h4
    try subst h1
    try subst h2
    try subst h3
    try subst h4
    go_enter Tryz.func115,Tryz.ntmps115
    go_wp2
    go_ret
    exact ⟨ret_bool (by simp [emptyB, *]),(Below.refl _ _).alloc (Nat.le_refl _) _⟩
end Go.Proofs.YtimklglliffpcaaGreat
namespace Go.Proofs.YtimklglliffpcaaGreat
open Go.RowKit

/-- Is the predicate in form? -/
def predB (kind:Int) (attr:ByteArray) (ints:List Int) (words:List ByteArray) (lo hi:Int):Bool :=
  nameOk attr && (if kind=1 then memB numOk ints 64 && emptyB 0 words.length lo hi else if kind=2 then memB wordOk words 64 && emptyB ints.length 0 lo hi else if kind=3 then (numOk lo && numOk hi) && emptyB ints.length words.length 0 0 else if kind=4 then memB wordOk words 1 && emptyB ints.length 0 lo hi else false)
theorem bytes_of_size {s:ByteArray} (h:s.size=0):s=⟨#[]⟩:=WideShapes.bytes_inj (List.length_eq_zero_iff.1 (by simpa using h))
def code (b:Bool):Int:=if b then 0 else 1
/-- The box of a predicate, behind calls. -/
theorem box6 {w w1:World} {kind:Int} {attr:ByteArray} {qi:Option Addr} {ni ci:Nat} {qw:Option Addr} {nw cw:Nat} {lo hi:Int} (hb:Below (w.alloc (.cells #[.int .i64 kind,.string attr,.slice qi ni ci,.slice qw nw cw,.int .i64 lo,.int .i64 hi] 26)).heap.size (w.alloc (.cells #[.int .i64 kind,.string attr,.slice qi ni ci,.slice qw nw cw,.int .i64 lo,.int .i64 hi] 26)) w1) :
    w.heap.size < w1.heap.size∧(w1.cell? ⟨w.heap.size,0,none⟩=some (.int .i64 kind)∧w1.cell? ⟨w.heap.size,1,none⟩=some (.string attr)∧w1.cell? ⟨w.heap.size,2,none⟩=some (.slice qi ni ci)∧w1.cell? ⟨w.heap.size,3,none⟩=some (.slice qw nw cw)∧w1.cell? ⟨w.heap.size,4,none⟩=some (.int .i64 lo)∧w1.cell? ⟨w.heap.size,5,none⟩=some (.int .i64 hi))∧(w1.frozen? ⟨w.heap.size,2,none⟩=false∧w1.frozen? ⟨w.heap.size,3,none⟩=false∧w1.frozen? ⟨w.heap.size,4,none⟩=false∧w1.frozen? ⟨w.heap.size,5,none⟩=false):=by
  have hs:=hb.size
  obtain ⟨hc,hf⟩:=bcell hb
  have hlt:w.heap.size < (w.alloc (.cells #[.int .i64 kind,.string attr,.slice qi ni ci,.slice qw nw cw,.int .i64 lo,.int .i64 hi] 26)).heap.size:=by simp
  refine ⟨by simp at hs;omega,⟨?_, ?_, ?_, ?_, ?_, ?_⟩,⟨?_, ?_, ?_, ?_⟩⟩
  iterate 6 (rw [hc _ _ hlt];go_simp)
  iterate 4 (rw [hf _ _ hlt];go_simp)
set_option maxHeartbeats 1000000 in
theorem zero_any (kind:Int) (attr:ByteArray) (qi:Option Addr) (ni ci:Nat) (qw:Option Addr) (nw cw:Nat) (lo hi:Int) (w:World) :
    Calls Tryz.prog 144 #[.agg #[.int .i64 kind,.string attr,.slice qi ni ci,.slice qw nw cw,.int .i64 lo,.int .i64 hi]] w fun e w'=>e=.returned (.bool (decide (kind=0) && (decide (attr.size=0) && emptyB ni nw lo hi)))∧Below w.heap.size w w':=by
  by_cases h1:kind=0
  · subst h1
    cases h2:attr.toList.isEmpty with
    | true =>
      have h3:attr.size=0:=(empty_iff attr).1 h2
      obtain rfl:=bytes_of_size h3
      clear h2 h3
      go_enter Tryz.func144,Tryz.ntmps144
      go_wp2_with (go_at_call 115;refine (empty_any 0 ⟨#[]⟩ qi ni ci qw nw cw lo hi _).mono ?_;rintro e w1 ⟨rfl,b1⟩)
      go_ret
      exact ⟨ret_bool (by rw [show decide ((⟨#[]⟩:ByteArray).size=0)=true from rfl];simp),below_sub ((Below.refl _ _).alloc (Nat.le_refl _) _) b1⟩
    | false =>
      have h3:¬ attr.size=0:=fun h=>by rw [(empty_iff attr).2 h] at h2;cases h2
      go_enter Tryz.func144,Tryz.ntmps144
      go_wp2
      go_ret
      exact ⟨ret_bool (by simp [h3]),(Below.refl _ _).alloc (Nat.le_refl _) _⟩
  · have h2:(kind == 0)=false:=by simpa using h1
    go_enter Tryz.func144,Tryz.ntmps144
    go_wp2
    go_ret
    exact ⟨ret_bool (by simp [h1]),(Below.refl _ _).alloc (Nat.le_refl _) _⟩
set_option maxHeartbeats 2000000 in
theorem pred_k1 (attr:ByteArray) (qi:Option Addr) (ci:Nat) (ints:List Int) (qw:Option Addr) (cw:Nat) (words:List ByteArray) (lo hi:Int) (w:World) (h1:SlOf encI 1 w qi ci ints) (l1:ints.length≤1000000000000000000) (hn:nameOk attr=true) :
    Calls Tryz.prog 54 #[.agg #[.int .i64 1,.string attr,.slice qi ints.length ci,.slice qw words.length cw,.int .i64 lo,.int .i64 hi]] w fun e w'=>e=.returned (.int .i64 (code (memB numOk ints 64 && emptyB 0 words.length lo hi)))∧Below w.heap.size w w':=by
  have hnm:=fun w=>name_any attr w
  rw [hn] at hnm
  have B0:=hide ((Below.refl w.heap.size w).alloc (Nat.le_refl _) (.cells #[.int .i64 1,.string attr,.slice qi ints.length ci,.slice qw words.length cw,.int .i64 lo,.int .i64 hi] 26))
  have hmm:=membersI qi ci ints 64 _ (h1.below (uh B0)) l1
  have hem:=fun w=>empty_any 1 attr none 0 0 qw words.length cw lo hi w
  clear h1 hn
  cases hg:memB numOk ints 64 with
  | true =>
    cases he:emptyB 0 words.length lo hi
    all_goals
      rw [hg] at hmm
      rw [he] at hem
      clear hg he
      go_enter Tryz.func54,Tryz.ntmps54
      go_wp2_with (first
        | (go_at_call 110;refine (hnm _).mono ?_;rintro e w' ⟨rfl,hw⟩;obtain rfl:=hw.symm;clear hw)
        | (go_at_call 111;refine (hmm).mono ?_;rintro e w1 ⟨rfl,b1⟩;obtain ⟨z1,⟨d0,d1,d2,d3,d4,d5⟩,⟨f2,f3,f4,f5⟩⟩:=box6 b1;have B1:=hide b1;clear b1)
        | (go_at_call 115;refine (hem _).mono ?_;rintro e w2 ⟨rfl,b2⟩))
      go_ret
      exact ⟨rfl,below_sub ((below_sub (uh B0) (uh B1)).setCell (Nat.le_refl _) _) b2⟩
  | false =>
    rw [hg] at hmm
    clear hg hem
    go_enter Tryz.func54,Tryz.ntmps54
    go_wp2_with (first
      | (go_at_call 110;refine (hnm _).mono ?_;rintro e w' ⟨rfl,hw⟩;obtain rfl:=hw.symm;clear hw)
      | (go_at_call 111;refine (hmm).mono ?_;rintro e w1 ⟨rfl,b1⟩;obtain ⟨z1,⟨d0,d1,d2,d3,d4,d5⟩,⟨f2,f3,f4,f5⟩⟩:=box6 b1;have B1:=hide b1;clear b1))
    go_ret
    exact ⟨rfl,(below_sub (uh B0) (uh B1)).setCell (Nat.le_refl _) _⟩
set_option maxHeartbeats 2000000 in
theorem pred_k2 (attr:ByteArray) (qi:Option Addr) (ci:Nat) (ints:List Int) (qw:Option Addr) (cw:Nat) (words:List ByteArray) (lo hi:Int) (w:World) (h2:SlOf encS 1 w qw cw words) (l2:words.length≤1000000000000000000) (hn:nameOk attr=true) :
    Calls Tryz.prog 54 #[.agg #[.int .i64 2,.string attr,.slice qi ints.length ci,.slice qw words.length cw,.int .i64 lo,.int .i64 hi]] w fun e w'=>e=.returned (.int .i64 (code (memB wordOk words 64 && emptyB ints.length 0 lo hi)))∧Below w.heap.size w w':=by
  have hnm:=fun w=>name_any attr w
  rw [hn] at hnm
  have B0:=hide ((Below.refl w.heap.size w).alloc (Nat.le_refl _) (.cells #[.int .i64 2,.string attr,.slice qi ints.length ci,.slice qw words.length cw,.int .i64 lo,.int .i64 hi] 26))
  have hmm:=membersW qw cw words 64 _ (h2.below (uh B0)) l2
  have hem:=fun w=>empty_any 2 attr qi ints.length ci none 0 0 lo hi w
  clear h2 hn
  cases hg:memB wordOk words 64 with
  | true =>
    cases he:emptyB ints.length 0 lo hi
    all_goals
      rw [hg] at hmm
      rw [he] at hem
      clear hg he
      go_enter Tryz.func54,Tryz.ntmps54
      go_wp2_with (first
        | (go_at_call 110;refine (hnm _).mono ?_;rintro e w' ⟨rfl,hw⟩;obtain rfl:=hw.symm;clear hw)
        | (go_at_call 113;refine (hmm).mono ?_;rintro e w1 ⟨rfl,b1⟩;obtain ⟨z1,⟨d0,d1,d2,d3,d4,d5⟩,⟨f2,f3,f4,f5⟩⟩:=box6 b1;have B1:=hide b1;clear b1)
        | (go_at_call 115;refine (hem _).mono ?_;rintro e w2 ⟨rfl,b2⟩))
      go_ret
      exact ⟨rfl,below_sub ((below_sub (uh B0) (uh B1)).setCell (Nat.le_refl _) _) b2⟩
  | false =>
    rw [hg] at hmm
    clear hg hem
    go_enter Tryz.func54,Tryz.ntmps54
    go_wp2_with (first
      | (go_at_call 110;refine (hnm _).mono ?_;rintro e w' ⟨rfl,hw⟩;obtain rfl:=hw.symm;clear hw)
      | (go_at_call 113;refine (hmm).mono ?_;rintro e w1 ⟨rfl,b1⟩;obtain ⟨z1,⟨d0,d1,d2,d3,d4,d5⟩,⟨f2,f3,f4,f5⟩⟩:=box6 b1;have B1:=hide b1;clear b1))
    go_ret
    exact ⟨rfl,(below_sub (uh B0) (uh B1)).setCell (Nat.le_refl _) _⟩
set_option maxHeartbeats 2000000 in
theorem pred_k4 (attr:ByteArray) (qi:Option Addr) (ci:Nat) (ints:List Int) (qw:Option Addr) (cw:Nat) (words:List ByteArray) (lo hi:Int) (w:World) (h2:SlOf encS 1 w qw cw words) (l2:words.length≤1000000000000000000) (hn:nameOk attr=true) :
    Calls Tryz.prog 54 #[.agg #[.int .i64 4,.string attr,.slice qi ints.length ci,.slice qw words.length cw,.int .i64 lo,.int .i64 hi]] w fun e w'=>e=.returned (.int .i64 (code (memB wordOk words 1 && emptyB ints.length 0 lo hi)))∧Below w.heap.size w w':=by
  have hnm:=fun w=>name_any attr w
  rw [hn] at hnm
  have B0:=hide ((Below.refl w.heap.size w).alloc (Nat.le_refl _) (.cells #[.int .i64 4,.string attr,.slice qi ints.length ci,.slice qw words.length cw,.int .i64 lo,.int .i64 hi] 26))
  have hmm:=membersW qw cw words 1 _ (h2.below (uh B0)) l2
  have hem:=fun w=>empty_any 4 attr qi ints.length ci none 0 0 lo hi w
  clear h2 hn
  cases hg:memB wordOk words 1 with
  | true =>
    cases he:emptyB ints.length 0 lo hi
    all_goals
      rw [hg] at hmm
      rw [he] at hem
      clear hg he
      go_enter Tryz.func54,Tryz.ntmps54
      go_wp2_with (first
        | (go_at_call 110;refine (hnm _).mono ?_;rintro e w' ⟨rfl,hw⟩;obtain rfl:=hw.symm;clear hw)
        | (go_at_call 113;refine (hmm).mono ?_;rintro e w1 ⟨rfl,b1⟩;obtain ⟨z1,⟨d0,d1,d2,d3,d4,d5⟩,⟨f2,f3,f4,f5⟩⟩:=box6 b1;have B1:=hide b1;clear b1)
        | (go_at_call 115;refine (hem _).mono ?_;rintro e w2 ⟨rfl,b2⟩))
      go_ret
      exact ⟨rfl,below_sub ((below_sub (uh B0) (uh B1)).setCell (Nat.le_refl _) _) b2⟩
  | false =>
    rw [hg] at hmm
    clear hg hem
    go_enter Tryz.func54,Tryz.ntmps54
    go_wp2_with (first
      | (go_at_call 110;refine (hnm _).mono ?_;rintro e w' ⟨rfl,hw⟩;obtain rfl:=hw.symm;clear hw)
      | (go_at_call 113;refine (hmm).mono ?_;rintro e w1 ⟨rfl,b1⟩;obtain ⟨z1,⟨d0,d1,d2,d3,d4,d5⟩,⟨f2,f3,f4,f5⟩⟩:=box6 b1;have B1:=hide b1;clear b1))
    go_ret
    exact ⟨rfl,(below_sub (uh B0) (uh B1)).setCell (Nat.le_refl _) _⟩
set_option maxHeartbeats 2000000 in
theorem pred_k3 (attr:ByteArray) (qi:Option Addr) (ni ci:Nat) (qw:Option Addr) (nw cw:Nat) (lo hi:Int) (w:World) (hn:nameOk attr=true) :
    Calls Tryz.prog 54 #[.agg #[.int .i64 3,.string attr,.slice qi ni ci,.slice qw nw cw,.int .i64 lo,.int .i64 hi]] w fun e w'=>e=.returned (.int .i64 (code ((numOk lo && numOk hi) && emptyB ni nw 0 0)))∧Below w.heap.size w w':=by
  have hnm:=fun w=>name_any attr w
  rw [hn] at hnm
  have B0:=hide ((Below.refl w.heap.size w).alloc (Nat.le_refl _) (.cells #[.int .i64 3,.string attr,.slice qi ni ci,.slice qw nw cw,.int .i64 lo,.int .i64 hi] 26))
  have hem:=fun w=>empty_any 3 attr qi ni ci qw nw cw 0 0 w
  have hlo:=fun w=>isNumber_any lo w
  have hhi:=fun w=>isNumber_any hi w
  clear hn
  cases h1:numOk lo with
  | true =>
    rw [h1] at hlo
    cases h2:numOk hi with
    | true =>
      rw [h2] at hhi
      cases he:emptyB ni nw 0 0
      all_goals
        rw [he] at hem
        clear h1 h2 he
        go_enter Tryz.func54,Tryz.ntmps54
        go_wp2_with (first
          | (go_at_call 110;refine (hnm _).mono ?_;rintro e w' ⟨rfl,hw⟩;obtain rfl:=hw.symm;clear hw)
          | (go_at_call 112;have hB:=uh B1;clear hB;refine (hhi _).mono ?_;rintro e w2 ⟨rfl,b2⟩;obtain ⟨z1,⟨d0,d1,d2,d3,d4,d5⟩,⟨f2,f3,f4,f5⟩⟩:=box6 (below_sub (uh B1) b2);have B2:=hide (below_sub (uh B1) b2);clear b2)
          | (go_at_call 112;refine (hlo _).mono ?_;rintro e w1 ⟨rfl,b1⟩;obtain ⟨z1,⟨d0,d1,d2,d3,d4,d5⟩,⟨f2,f3,f4,f5⟩⟩:=box6 b1;have B1:=hide b1;clear b1)
          | (go_at_call 115;refine (hem _).mono ?_;rintro e w3 ⟨rfl,b3⟩))
        go_ret
        exact ⟨rfl,below_sub (((below_sub (uh B0) (uh B2)).setCell (Nat.le_refl _) _).setCell (Nat.le_refl _) _) b3⟩
    | false =>
      rw [h2] at hhi
      clear h1 h2 hem
      go_enter Tryz.func54,Tryz.ntmps54
      go_wp2_with (first
        | (go_at_call 110;refine (hnm _).mono ?_;rintro e w' ⟨rfl,hw⟩;obtain rfl:=hw.symm;clear hw)
        | (go_at_call 112;have hB:=uh B1;clear hB;refine (hhi _).mono ?_;rintro e w2 ⟨rfl,b2⟩;obtain ⟨z1,⟨d0,d1,d2,d3,d4,d5⟩,⟨f2,f3,f4,f5⟩⟩:=box6 (below_sub (uh B1) b2);have B2:=hide (below_sub (uh B1) b2);clear b2)
        | (go_at_call 112;refine (hlo _).mono ?_;rintro e w1 ⟨rfl,b1⟩;obtain ⟨z1,⟨d0,d1,d2,d3,d4,d5⟩,⟨f2,f3,f4,f5⟩⟩:=box6 b1;have B1:=hide b1;clear b1))
      go_ret
      exact ⟨rfl,((below_sub (uh B0) (uh B2)).setCell (Nat.le_refl _) _).setCell (Nat.le_refl _) _⟩
  | false =>
    rw [h1] at hlo
    clear h1 hem hhi
    go_enter Tryz.func54,Tryz.ntmps54
    go_wp2_with (first
      | (go_at_call 110;refine (hnm _).mono ?_;rintro e w' ⟨rfl,hw⟩;obtain rfl:=hw.symm;clear hw)
      | (go_at_call 112;refine (hlo _).mono ?_;rintro e w1 ⟨rfl,b1⟩;obtain ⟨z1,⟨d0,d1,d2,d3,d4,d5⟩,⟨f2,f3,f4,f5⟩⟩:=box6 b1;have B1:=hide b1;clear b1))
    go_ret
    exact ⟨rfl,((below_sub (uh B0) (uh B1)).setCell (Nat.le_refl _) _).setCell (Nat.le_refl _) _⟩
set_option maxHeartbeats 2000000 in
theorem pred_kx (kind:Int) (attr:ByteArray) (qi:Option Addr) (ni ci:Nat) (qw:Option Addr) (nw cw:Nat) (lo hi:Int) (w:World) (hn:nameOk attr=true) (k1:¬ kind=1) (k2:¬ kind=2) (k3:¬ kind=3) (k4:¬ kind=4) :
    Calls Tryz.prog 54 #[.agg #[.int .i64 kind,.string attr,.slice qi ni ci,.slice qw nw cw,.int .i64 lo,.int .i64 hi]] w fun e w'=>e=.returned (.int .i64 (code false))∧Below w.heap.size w w':=by
  have hnm:=fun w=>name_any attr w
  rw [hn] at hnm
  have e1:(kind == 1)=false:=by simpa using k1
  have e2:(kind == 2)=false:=by simpa using k2
  have e3:(kind == 3)=false:=by simpa using k3
  have e4:(kind == 4)=false:=by simpa using k4
  clear hn
  go_enter Tryz.func54,Tryz.ntmps54
  go_wp2_with (go_at_call 110;refine (hnm _).mono ?_;rintro e w' ⟨rfl,hw⟩;obtain rfl:=hw.symm;clear hw)
  go_ret
  exact ⟨rfl,(Below.refl _ _).alloc (Nat.le_refl _) _⟩
set_option maxHeartbeats 2000000 in
theorem pred_noname (kind:Int) (attr:ByteArray) (qi:Option Addr) (ni ci:Nat) (qw:Option Addr) (nw cw:Nat) (lo hi:Int) (w:World) (hn:nameOk attr=false) :
    Calls Tryz.prog 54 #[.agg #[.int .i64 kind,.string attr,.slice qi ni ci,.slice qw nw cw,.int .i64 lo,.int .i64 hi]] w fun e w'=>e=.returned (.int .i64 (code false))∧Below w.heap.size w w':=by
  have hnm:=fun w=>name_any attr w
  rw [hn] at hnm
  clear hn
  go_enter Tryz.func54,Tryz.ntmps54
  go_wp2_with (go_at_call 110;refine (hnm _).mono ?_;rintro e w' ⟨rfl,hw⟩;obtain rfl:=hw.symm;clear hw)
  go_ret
  exact ⟨rfl,(Below.refl _ _).alloc (Nat.le_refl _) _⟩
theorem pred_any (kind:Int) (attr:ByteArray) (qi:Option Addr) (ci:Nat) (ints:List Int) (qw:Option Addr) (cw:Nat) (words:List ByteArray) (lo hi:Int) (w:World) (h1:SlOf encI 1 w qi ci ints) (h2:SlOf encS 1 w qw cw words) (l1:ints.length≤1000000000000000000) (l2:words.length≤1000000000000000000) :
    Calls Tryz.prog 54 #[.agg #[.int .i64 kind,.string attr,.slice qi ints.length ci,.slice qw words.length cw,.int .i64 lo,.int .i64 hi]] w fun e w'=>e=.returned (.int .i64 (code (predB kind attr ints words lo hi)))∧Below w.heap.size w w':=by
  unfold predB
  cases hn:nameOk attr with
  | false=>exact pred_noname kind attr qi _ ci qw _ cw lo hi w hn
  | true =>
    rw [Bool.true_and]
    by_cases k1:kind=1
    · subst k1;rw [if_pos rfl];exact pred_k1 attr qi ci ints qw cw words lo hi w h1 l1 hn
    by_cases k2:kind=2
    · subst k2;rw [if_neg k1,if_pos rfl];exact pred_k2 attr qi ci ints qw cw words lo hi w h2 l2 hn
    by_cases k3:kind=3
    · subst k3;rw [if_neg k1,if_neg k2,if_pos rfl];exact pred_k3 attr qi _ ci qw _ cw lo hi w hn
    by_cases k4:kind=4
    · subst k4;rw [if_neg k1,if_neg k2,if_neg k3,if_pos rfl];exact pred_k4 attr qi ci ints qw cw words lo hi w h2 l2 hn
    rw [if_neg k1,if_neg k2,if_neg k3,if_neg k4]
    exact pred_kx kind attr qi _ ci qw _ cw lo hi w hn k1 k2 k3 k4
end Go.Proofs.YtimklglliffpcaaGreat

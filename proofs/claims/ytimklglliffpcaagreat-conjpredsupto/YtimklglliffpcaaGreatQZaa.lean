/- What the leaf functions of package value and of its reference return, for every input. -/
import Derived.Test.YtimklglliffpcaaGreatRows
import Derived.WalkKit
import Derived.WalkSpells
import Derived.WalkLawsBesides
import Derived.Deep.RegionHeld3
import Derived.Deep.QuietTactic
import Derived.BigQuiet
import Derived.Deep.AppendLies
import Derived.Shelf.GgSortFunc.RowK
import Derived.Laws.AppendOwnNone
import Derived.Lib.SmallJoins
import Derived.Lib.AppendIntMem
namespace Go.Proofs.YtimklglliffpcaaGreat
open Go.RowKit
theorem jg {k:IntKind} {a b:Int} (h:a=b):Ending.returned (.int k a)=.returned (.int k b):=by rw [h]
theorem jb {a b:Bool} (h:a=b):Ending.returned (.bool a)=.returned (.bool b):=by rw [h]
theorem d9 {p:Prop} (h:p):Hid p:=h
theorem uh {p:Prop} (h:Hid p):p:=h.out
def kc (a b:Int):Int:=if a < b then -1 else if b < a then 1 else 0
theorem C5 {a b:Int} (h:a < b):kc a b=-1:=by unfold kc;rw [if_pos h]
theorem Ct {a b:Int} (h:b < a):kc a b=1:=by unfold kc;rw [if_neg (by omega),if_pos h]
theorem M3 {a b:Int} (h:a=b):kc a b=0:=by unfold kc;rw [if_neg (by omega),if_neg (by omega)]
def ri (a b:List UInt8):Int:=if Op.bytesLess a b then -1 else if a == b then 0 else 1
theorem qy {a b:List UInt8} (h:Op.bytesLess a b=true):ri a b=-1:=by unfold ri;rw [if_pos h]
theorem No {a b:List UInt8} (h:Op.bytesLess a b=false) (h2:(!a == b)=true):ri a b=1:=by
 unfold ri;rw [if_neg (by simp [h]),if_neg (by simpa using h2)]
/-- In form? 0: yes, 1: no. -/
def rx (k n:Int) (s:ByteArray):Int :=
  if (k=1/\-2147483648<=n/\n<=2147483647/\s.size=0) ∨ (k=2/\n=0/\s.size<=64) then 0 else 1
theorem yz (s:ByteArray):s.toList.length=s.size:=by rw [ByteArray.toList_eq];simp
theorem nx (s:ByteArray):s.toList.isEmpty=true ↔ s.size=0:=by
 rw [List.isEmpty_iff,<- List.length_eq_zero_iff,yz]
theorem Ce {k n:Int} {s:ByteArray} (h0:(k == 1)=true) (h1:-2147483648<=n) (h2:n<=2147483647) (h3:s.toList.isEmpty=true):rx k n s=0:=by
 unfold rx;rw [if_pos (Or.inl ⟨by simpa using h0,h1,h2,(nx s).1 h3⟩)]
theorem Cc {k n:Int} {s:ByteArray} (h0:(k == 2)=true) (h1:n=0) (h2:(s.size:Int)<=64):rx k n s=0:=by
 unfold rx;rw [if_pos (Or.inr ⟨by simpa using h0,h1,by omega⟩)]
theorem va {k n:Int} {s:ByteArray} (h0:(k == 1)=true) (h:¬ (-2147483648<=n/\n<=2147483647/\s.size=0)):rx k n s=1:=by
 have:k=1:=by simpa using h0
 unfold rx;rw [if_neg];rintro (⟨_,h'⟩ | ⟨h',_⟩);exact h h';omega
theorem xu {k n:Int} {s:ByteArray} (h0:(k == 1)=false) (h:¬ (k=2/\n=0/\s.size<=64)):rx k n s=1:=by
 have:k ≠ 1:=by simpa using h0
 unfold rx;rw [if_neg];rintro (⟨h',_⟩ | h');omega;exact h h'
set_option maxHeartbeats 400000 in
theorem lh (k n:Int) (s:ByteArray) (w:World) :
  Calls Tryz.prog 87 #[.agg #[.int .i64 k,.int .i64 n,.string s]] w fun e w'=>e=.returned (.int .i64 (rx k n s))/\Below w.heap.size w w':=by
 go_enter Tryz.func87,Tryz.ntmps87
 go_wp2
 all_goals (go_ret;refine ⟨jg ?_,(Below.refl _ _).alloc (Nat.le_refl _) _⟩)
 ·exact (Ce (by assumption) (by assumption) (by assumption) (by assumption)).symm
 ·exact (va (by assumption) (by rw [<- nx];simp [*])).symm
 ·exact (va (by assumption) (by omega)).symm
 ·exact (va (by assumption) (by omega)).symm
 ·exact (Cc (by assumption) (by assumption) (by assumption)).symm
 ·exact (xu (by assumption) (by omega)).symm
 ·exact (xu (by assumption) (by omega)).symm
 ·rename_i h
  have:k ≠ 2:=by simpa using h
  exact (xu (by assumption) (by omega)).symm
theorem cells3 {w:World} {b:Nat} {x y z:Int} (h0:w.cell? ⟨b,0,none⟩=some (.int .i64 x)) (h1:w.cell? ⟨b,1,none⟩=some (.int .i64 y)) (h2:w.cell? ⟨b,2,none⟩=some (.int .i64 z)) :
  ∀ j,j < 3->w.cell? ⟨b,j,none⟩=some (.int .i64 ((fun j=>if j=0 then x else if j=1 then y else z) j)):=by
 intro j hj
 obtain rfl | rfl | rfl:j=0 ∨ j=1 ∨ j=2:=by omega
 ·simpa using h0
 ·simpa using h1
 ·simpa using h2
end Go.Proofs.YtimklglliffpcaaGreat
namespace Go.Proofs.YtimklglliffpcaaGreat
open Go.RowKit
/-- A byte as a cell. -/
def bv (b:UInt8):Value:=.int .u8 (b.toNat:Int)
end Go.Proofs.YtimklglliffpcaaGreat
namespace Go.Proofs.YtimklglliffpcaaGreat
open Go.RowKit Go.Sort
theorem gy {w:World} {g o:Nat} {cur:Array Value} {e:TypeId} (h:w.heap[g]? = some (.cells cur e (0,0))):w.frozen? ⟨g,o,none⟩=false:=by
 unfold World.frozen?;simp [h]
/-- A row that is the call's own, as the sort's kit says it. -/
theorem E9 {α:Type} [Inhabited α] {enc:α->List Value} {k:Nat} {w:World} {B:Nat} {e:TypeId} {v:Value} {d:Array α} (hv:v ≠ .slice none 0 0) (h:w.ownsRow B e k v d.size (flatK enc k d).toList) :
    ∃ g cap,v=.slice (some ⟨g,0,none⟩) d.size cap/\B<=g/\g < w.heap.size/\HoldsK enc k w g 0 d/\d.size<=cap/\cap<=maxLen:=by
  rcases h.2 with ⟨h0,_⟩ | ⟨g,cap,cur,rfl,hB,hblk,hc,hm,_,_⟩
  · exact absurd h0 hv
  · refine ⟨g,cap,rfl,hB,(Array.getElem?_eq_some_iff.1 hblk).1,fun t ht=>⟨?_,gy hblk⟩,hc,hm⟩
    rw [Nat.zero_add,h.cellAt t (by simpa using ht)]
    have ht':t < (flatK enc k d).size:=ht
    rw [Array.getElem?_toList,Array.getElem?_eq_getElem ht',getElem!_pos _ t ht']
    rfl
theorem De {α:Type} [Inhabited α] {l:List α} {j:Nat} {x:α} (h:l[j]? = some x):l.toArray[j]! = x:=by
 have hj:j < l.length:=(List.getElem?_eq_some_iff.1 h).1
 rw [getElem!_pos _ j (by simpa using hj)]
 simpa [List.getElem?_eq_getElem hj] using h
theorem ma {α:Type} [Inhabited α] (enc:α->List Value) (k:Nat) (hk:0 < k) (l m:List α):(flatK enc k (l ++ m).toArray).toList=(flatK enc k l.toArray).toList ++ (flatK enc k m.toArray).toList:=by
 unfold flatK
 simp only [Array.toList_map,Array.toList_range,List.size_toArray,List.length_append,Nat.add_mul]
 rw [List.range_add,List.map_append,List.map_map]
 congr 1
 ·apply List.map_congr_left
  intro t ht
  have ht':t < l.length * k:=by simpa using ht
  have hq:t / k < l.length:=(Nat.div_lt_iff_lt_mul hk).2 ht'
  rw [getElem!_pos _ (t / k) (by simp;omega),getElem!_pos _ (t / k) (by simpa using hq)]
  simp [List.getElem_append_left hq]
 ·apply List.map_congr_left
  intro t ht
  have ht':t < m.length * k:=by simpa using ht
  have hq:t / k < m.length:=(Nat.div_lt_iff_lt_mul hk).2 ht'
  have e1:(l.length * k + t) / k=l.length + t / k:=by rw [Nat.mul_comm,Nat.mul_add_div hk]
  have e2:(l.length * k + t) % k=t % k:=by rw [Nat.mul_comm,Nat.mul_add_mod]
  simp only [Function.comp_apply,e1,e2]
  rw [getElem!_pos _ (l.length + t / k) (by simp;omega),getElem!_pos _ (t / k) (by simpa using hq)]
  simp
/-- The slice q of the call's own, in memory from B on, holds the list l. -/
def OwnK {α:Type} [Inhabited α] (enc:α->List Value) (e:TypeId) (k B:Nat) (w:World) (q:Option Addr) (cap:Nat) (l:List α):Prop :=
  w.ownsRow B e k (.slice q l.length cap) l.length (flatK enc k l.toArray).toList
structure RowOf {α:Type} [Inhabited α] (enc:α->List Value) (t e:TypeId) (k bytes:Nat):Prop where
  und:Tryz.prog.underlying t=some (.slice e)
  info:∃ i0 z,Tryz.prog.info? e=some i0/\i0.zero=some z/\i0.size=k/\i0.bytes=bytes/\z.cells.size=k
  pos:0 < k
  one:∀ (l:List α),∀ u ∈ (flatK enc k l.toArray).toList,u.oneCell'=true
theorem vm {α:Type} [Inhabited α] {enc:α->List Value} {k:Nat} (h:∀ (x:α) (c:Nat),c < k->((enc x)[c]!).oneCell'=true) (hk:0 < k) (l:List α):∀ u ∈ (flatK enc k l.toArray).toList,u.oneCell'=true:=by
 intro u hu
 rw [Array.mem_toList_iff] at hu
 obtain ⟨j,hj,rfl⟩:=Array.mem_iff_getElem.1 hu
 have hg:=get_flatK enc k l.toArray j (by simpa using hj)
 rw [getElem!_pos _ j hj] at hg
 rw [hg]
 exact h _ _ (Nat.mod_lt _ hk)
/-- What is appended. -/
def Cg {α:Type} [Inhabited α] (enc:α->List Value) (k:Nat) (w:World) (p:Option Addr) (c:Nat) (l:List α):Prop :=
  (p=none->l.length=0/\c=0)/\∀ ad,p=some ad->∀ (j:Nat) (u:Value),(flatK enc k l.toArray).toList[j]? = some u->w.cell? (ad.add j)=some u
theorem nz (b o j:Nat):(⟨b,o,none⟩:Addr).add j=⟨b,o + j,none⟩:=by unfold Addr.add;split <;> simp_all
theorem OwnK.shape {w:World} {B:Nat} {e:TypeId} {k:Nat} {v:Value} {n:Nat} {xs:List Value} (h:w.ownsRow B e k v n xs):∃ q cap,v=.slice q n cap/\(q=none->v=.slice none 0 0):=by
 rcases h.2 with ⟨rfl,rfl⟩ | ⟨g,cap,_,rfl,_⟩
 ·exact ⟨none,0,rfl,fun _=>rfl⟩
 ·exact ⟨_,cap,rfl,fun h=>by cases h⟩
section
variable {α : Type} [Inhabited α] {enc : α -> List Value} {t e : TypeId} {k bytes : Nat}
theorem Yf (R:RowOf enc t e k bytes) (ty:TypeId) (w:World) (B:Nat) (q:Option Addr) (cap:Nat) (l:List α) (p:Option Addr) (c:Nat) (m:List α) (hown:OwnK enc e k B w q cap l) (hs:Cg enc k w p c m) (hm:l.length + m.length<=maxLen) (hb:(l.length + m.length) * bytes<=140737488355328) (hB:B<=w.heap.size) :
    ∃ q' cap' w',(Builtin.append_ #[t,t] ty #[.slice q l.length cap,.slice p m.length c]).run Tryz.prog w=.ok (.slice q' (l.length + m.length) cap') w'/\OwnK enc e k B w' q' cap' (l ++ m)/\Below B w w'/\(q ≠ none->q' ≠ none)/\w.grownBy w' (Value.slice q l.length cap).ownBlock:=by
  obtain ⟨i0,z,hi,hz,hsz,hby,hzs⟩:=R.info
  cases p with
  | none =>
    obtain ⟨h0,rfl⟩:=hs.1 rfl
    obtain rfl:m=[]:=List.length_eq_zero_iff.1 h0
    have hr:=run_append_owned_none (P:=Tryz.prog) (w:=w) B t ty e i0 k R.und hi _ _ _ hown
    exact ⟨q,cap,w,hr,by simpa using hown,Below.refl _ _,id,⟨rfl,rfl,rfl,Nat.le_refl _,fun _ _ _=>rfl⟩⟩
  | some ad =>
    obtain ⟨v',w',hr,ho,hg,hnil,_⟩:=run_append_own_at (P:=Tryz.prog) w B t ty e i0 z k bytes R.und hi hz hsz hby hzs R.pos _ _ _ hown ad m.length c (flatK enc k m.toArray).toList (by simp) (hs.2 ad rfl) (R.one m) hm hb hB
    obtain ⟨q',cap',rfl,hq⟩:=OwnK.shape ho
    refine ⟨q',cap',w',hr, ?_, ?_, ?_,hg⟩
    · unfold OwnK
      rw [ma enc k R.pos,List.length_append]
      exact ho
    · exact (Below.refl _ _).grown hg hB fun j hj=>(World.ownsRow.lt hown j hj).1
    · intro hne he
      have:=(hnil.1 (hq he)).1
      injection this with h0
      exact hne h0
theorem Zv (R:RowOf enc t e k bytes) {o:Oper} {a:Act} {w:World} {K:Act->World->Prop} {Q:Exit->Act->World->Prop} (s x:Operand)
    (ho:o.op=.call { callee:=.builtin .append,args:=#[s,x],argTypes:=#[t,t] }) (B:Nat) (q:Option Addr) (cap:Nat) (l:List α) (p:Option Addr) (c:Nat) (m:List α)
    (es:a.eval s=.slice q l.length cap) (ex:a.eval x=.slice p m.length c) (hown:OwnK enc e k B w q cap l) (hs:Cg enc k w p c m) (hm:l.length + m.length<=maxLen) (hb:(l.length + m.length) * bytes<=140737488355328) (hB:B<=w.heap.size)
    (h:∀ q' cap' w',OwnK enc e k B w' q' cap' (l ++ m)->Below B w w'->(q ≠ none->q' ≠ none)->w.grownBy w' (Value.slice q l.length cap).ownBlock->K (a.put o.dst (.slice q' (l.length + m.length) cap')) w'):o.wp Tryz.prog a w K Q:=by
  obtain ⟨q',cap',w',hr,h2,h3,h4,h5⟩:=Yf R o.type w B q cap l p c m hown hs hm hb hB
  unfold Oper.wp execOp
  simp only [ho,resolve,invoke,builtin,Sem.run_bind,Sem.run_pure,Result.andThen_ok,List.map_toArray,List.map_cons,List.map_nil,es,ex,hr]
  exact h q' cap' w' h2 h3 h4 h5
theorem Xl (R:RowOf enc t e k bytes) {o:Oper} {a:Act} {w:World} {K:Act->World->Prop} {Q:Exit->Act->World->Prop} (s x:Operand)
    (ho:o.op=.call { callee:=.builtin .append,args:=#[s,x],argTypes:=#[t,t] }) (B:Nat) (q:Option Addr) (cap:Nat) (l:List α) (p:Option Addr) (c:Nat) (m:List α) (n n' N:Nat) (hn:l.length=n) (hn':m.length=n') (hN:n + n'=N)
    (es:a.eval s=.slice q n cap) (ex:a.eval x=.slice p n' c) (hown:OwnK enc e k B w q cap l) (hs:Cg enc k w p c m) (hm:N<=maxLen) (hb:N * bytes<=140737488355328) (hB:B<=w.heap.size)
    (h:∀ q' cap' w',OwnK enc e k B w' q' cap' (l ++ m)->Below B w w'->(q ≠ none->q' ≠ none)->w.grownBy w' (Value.slice q n cap).ownBlock->K (a.put o.dst (.slice q' N cap')) w'):o.wp Tryz.prog a w K Q:=by
  subst hn hn' hN
  exact Zv R s x ho B q cap l p c m es ex hown hs hm hb hB h
theorem jm (R:RowOf enc t e k bytes) {ops:Array Oper} {rest:List Oper} {o:Oper} {a:Act} {w:World} {Q:Exit->Act->World->Prop} (hgd:o.guard=none) (s x:Operand)
    (ho:o.op=.call { callee:=.builtin .append,args:=#[s,x],argTypes:=#[t,t] }) (B:Nat) (q:Option Addr) (cap:Nat) (l:List α) (p:Option Addr) (c:Nat) (m:List α) (n n' N:Nat) (hn:l.length=n) (hn':m.length=n') (hN:n + n'=N)
    (es:a.eval s=.slice q n cap) (ex:a.eval x=.slice p n' c) (hown:OwnK enc e k B w q cap l) (hs:Cg enc k w p c m) (hm:N<=maxLen) (hb:N * bytes<=140737488355328) (hB:B<=w.heap.size)
    (h:∀ q' cap' w',OwnK enc e k B w' q' cap' (l ++ m)->Below B w w'->(q ≠ none->q' ≠ none)->w.grownBy w' (Value.slice q n cap).ownBlock->wpList Tryz.prog ops Q rest (a.put o.dst (.slice q' N cap')) w'):wpList Tryz.prog ops Q (o :: rest) a w :=
  wpList_plain hgd fun _ hK=>Xl R s x ho B q cap l p c m n n' N hn hn' hN es ex hown hs hm hb hB fun q' cap' w' h2 h3 h4 h5=>hK _ _ (h q' cap' w' h2 h3 h4 h5)
theorem Hk (R:RowOf enc t e k bytes) {ops:Array Oper} {o:Oper} {a:Act} {w:World} {K:Act->World->Prop} {Q:Exit->Act->World->Prop} {E:Prop} (hgd:o.guard=none) (s x:Operand)
    (ho:o.op=.call { callee:=.builtin .append,args:=#[s,x],argTypes:=#[t,t] }) (B:Nat) (q:Option Addr) (cap:Nat) (l:List α) (p:Option Addr) (c:Nat) (m:List α) (n n' N:Nat) (hn:l.length=n) (hn':m.length=n') (hN:n + n'=N)
    (es:a.eval s=.slice q n cap) (ex:a.eval x=.slice p n' c) (hown:OwnK enc e k B w q cap l) (hs:Cg enc k w p c m) (hm:N<=maxLen) (hb:N * bytes<=140737488355328) (hB:B<=w.heap.size)
    (h:∀ q' cap' w',OwnK enc e k B w' q' cap' (l ++ m)->Below B w w'->(q ≠ none->q' ≠ none)->w.grownBy w' (Value.slice q n cap).ownBlock->K (a.put o.dst (.slice q' N cap')) w') :
    if Region.wanted o (yielded ops a.tmps)=true then Oper.wp Tryz.prog o a w K Q else E:=by
  have hw:Region.wanted o (yielded ops a.tmps)=true:=by simp [Region.wanted,hgd]
  rw [if_pos hw]
  exact Xl R s x ho B q cap l p c m n n' N hn hn' hN es ex hown hs hm hb hB h
theorem OwnK.below {B:Nat} {w w':World} {q:Option Addr} {cap:Nat} {l:List α} (h:OwnK enc e k B w q cap l) (hb:Below w.heap.size w w'):OwnK enc e k B w' q cap l:=by
 refine ⟨h.1, ?_⟩
 rcases h.2 with h0 | ⟨g,cp,cur,hv,hB,hblk,hr⟩
 ·exact Or.inl h0
 ·have hg:g < w.heap.size:=(Array.getElem?_eq_some_iff.1 hblk).1
  exact Or.inr ⟨g,cp,cur,hv,hB,(hb.block g hg).trans hblk,hr⟩
theorem OwnK.mono {B B':Nat} {w:World} {q:Option Addr} {cap:Nat} {l:List α} (h:OwnK enc e k B w q cap l) (hb:B'<=B):OwnK enc e k B' w q cap l:=by
 refine ⟨h.1, ?_⟩
 rcases h.2 with h0 | ⟨g,cp,cur,hv,hB,hr⟩
 ·exact Or.inl h0
 ·exact Or.inr ⟨g,cp,cur,hv,Nat.le_trans hb hB,hr⟩
theorem OwnK.nil (B:Nat) (w:World):OwnK enc e k B w none 0 ([]:List α):=by
 have:(flatK enc k ([]:List α).toArray).toList=[]:=by simp [flatK]
 unfold OwnK;rw [this];exact World.ownsRow_nil w B e k
theorem OwnK.made (B:Nat) (w:World) (hB:B<=w.heap.size):OwnK enc e k B (w.alloc (.cells #[] e)) (some ⟨w.heap.size,0,none⟩) 0 ([]:List α):=by
 have:(flatK enc k ([]:List α).toArray).toList=[]:=by simp [flatK]
 unfold OwnK;rw [this];exact World.ownsRow_made w #[] 0 hB (Nat.zero_le _) (by simp)
end
theorem je {α:Type} {l:List α} {k:Nat} (h:k < l.length):∃ x,l[k]? = some x/\l.drop k=x :: l.drop (k + 1):=⟨l[k],List.getElem?_eq_getElem h,List.drop_eq_getElem_cons h⟩
/-- The slice q of capacity c holds the list l. -/
def LsOf {α:Type} [Inhabited α] (enc:α->List Value) (k:Nat) (w:World) (q:Option Addr) (l:List α):Prop :=
  0 < l.length->∃ b off,q=some ⟨b,off,none⟩/\b < w.heap.size/\∀ (j:Nat) (u:Value),(flatK enc k l.toArray).toList[j]? = some u->w.cell? ⟨b,off + j,none⟩=some u
def SlOf {α:Type} [Inhabited α] (enc:α->List Value) (k:Nat) (w:World) (q:Option Addr) (c:Nat) (l:List α):Prop :=
 (q=none->l.length=0/\c=0)/\l.length<=c/\c<=maxLen/\LsOf enc k w q l
section
variable {α : Type} [Inhabited α] {enc : α -> List Value} {k : Nat}
theorem LsOf.nil (w:World) (q:Option Addr):LsOf enc k w q ([]:List α):=fun h=>absurd h (by simp)
theorem SlOf.none (w:World):SlOf enc k w Option.none 0 ([]:List α):=⟨fun _=>⟨rfl,rfl⟩,Nat.le_refl _,Nat.zero_le _,LsOf.nil _ _⟩
theorem LsOf.below {w w':World} {q:Option Addr} {l:List α} (h:LsOf enc k w q l) (hb:Below w.heap.size w w'):LsOf enc k w' q l:=fun h0=>by
 obtain ⟨b,off,rfl,hB,hA⟩:=h h0
 exact ⟨b,off,rfl,Nat.lt_of_lt_of_le hB hb.size,fun j u hj=>(hb.cell (p:=⟨b,off + j,Option.none⟩) hB).trans (hA j u hj)⟩
theorem SlOf.below {w w':World} {q:Option Addr} {c:Nat} {l:List α} (h:SlOf enc k w q c l) (hb:Below w.heap.size w w'):SlOf enc k w' q c l:=⟨h.1,h.2.1,h.2.2.1,h.2.2.2.below hb⟩
theorem LsOf.src {w:World} {q:Option Addr} {c:Nat} {l:List α} (hp:q=Option.none->l.length=0/\c=0) (h:LsOf enc k w q l):Cg enc k w q c l:=by
 refine ⟨hp,fun ad e j u hj=>?_⟩
 have h0:0 < l.length:=by
  rw [Array.getElem?_toList] at hj
  obtain ⟨hs,_⟩:=Array.getElem?_eq_some_iff.1 hj
  simp at hs
  cases l with
  | nil=>simp at hs
  | cons=>simp
 obtain ⟨b,off,hq,_,hAt⟩:=h h0
 rw [e] at hq
 cases hq
 rw [nz]
 exact hAt j u hj
theorem SlOf.src {w:World} {q:Option Addr} {c:Nat} {l:List α} (h:SlOf enc k w q c l):Cg enc k w q c l:=LsOf.src h.1 h.2.2.2
/-- What the cells of the j-th element hold. -/
theorem lj {l:List α} {j:Nat} {x:α} (hj:l[j]? = some x) (c:Nat) (hc:c < k):(flatK enc k l.toArray).toList[j * k + c]? = some ((enc x)[c]!):=by
  have hl:j < l.length:=(List.getElem?_eq_some_iff.1 hj).1
  have hlt:j * k + c < l.toArray.size * k:=by
    have:(j + 1) * k<=l.length * k:=Nat.mul_le_mul_right k hl
    simp only [List.size_toArray]
    have h2:(j + 1) * k=j * k + k:=by rw [Nat.add_mul,Nat.one_mul]
    omega
  have hs:j * k + c < (flatK enc k l.toArray).size:=by simpa using hlt
  have hg:=get_flatK enc k l.toArray (j * k + c) hlt
  have e1:(j * k + c) / k=j:=by rw [Nat.mul_comm,Nat.mul_add_div (by omega),Nat.div_eq_of_lt hc];omega
  have e2:(j * k + c) % k=c:=by rw [Nat.mul_comm,Nat.mul_add_mod];exact Nat.mod_eq_of_lt hc
  rw [e1,e2,De hj,getElem!_pos (flatK enc k l.toArray) (j * k + c) hs] at hg
  rw [Array.getElem?_toList,Array.getElem?_eq_getElem hs,hg]
theorem LsOf.at {w:World} {q:Option Addr} {l:List α} {j:Nat} {x:α} (h:LsOf enc k w q l) (hj:l[j]? = some x):∃ b off,q=some ⟨b,off,Option.none⟩/\b < w.heap.size/\∀ c,c < k->w.cell? ⟨b,off + j * k + c,Option.none⟩=some ((enc x)[c]!):=by
 have hl:j < l.length:=(List.getElem?_eq_some_iff.1 hj).1
 obtain ⟨b,off,hq,hb,hA⟩:=h (by omega)
 exact ⟨b,off,hq,hb,fun c hc=>by rw [Nat.add_assoc];exact hA _ _ (lj hj c hc)⟩
theorem OwnK.ls {B:Nat} {e:TypeId} {w:World} {q:Option Addr} {cap:Nat} {l:List α} (h:OwnK enc e k B w q cap l):SlOf enc k w q cap l:=by
 by_cases hv:(Value.slice q l.length cap)=.slice Option.none 0 0
 ·cases q with
  | none =>
   injection hv with _ h1 h2
   rw [List.length_eq_zero_iff.1 h1,h2]
   exact SlOf.none _
  | some a=>injection hv with h0;cases h0
 ·obtain ⟨g,cap',hv',hB,hg,hH,hc,hm⟩:=E9 (d:=l.toArray) (enc:=enc) hv (by simpa [OwnK] using h)
  injection hv' with h0 h1 h2
  subst h0
  subst h2
  simp only [List.size_toArray] at hc
  refine ⟨(fun h=>by cases h),hc,hm,fun _=>⟨g,0,rfl,hg,fun j u hj=>?_⟩⟩
  rw [Array.getElem?_toList] at hj
  obtain ⟨hs,hu⟩:=Array.getElem?_eq_some_iff.1 hj
  exact (hH j hs).1.trans (by rw [getElem!_pos (flatK enc k l.toArray) j hs,hu];rfl)
/-- New cells that hold one element. -/
theorem LsOf.one {w:World} {b:Nat} {x:α} (hb:b < w.heap.size) (h:∀ c,c < k->w.cell? ⟨b,c,Option.none⟩=some ((enc x)[c]!)):LsOf enc k w (some ⟨b,0,Option.none⟩) [x]:=fun _ =>
  ⟨b,0,rfl,hb,fun j u hj=>by
    rw [Array.getElem?_toList] at hj
    obtain ⟨hs,hu⟩:=Array.getElem?_eq_some_iff.1 hj
    have hlt:j < k:=by simpa using hs
    have h2:=lj (enc:=enc) (k:=k) (l:=[x]) (j:=0) (x:=x) rfl j hlt
    rw [Array.getElem?_toList,Nat.zero_mul,Nat.zero_add,Array.getElem?_eq_getElem hs,hu] at h2
    rw [Nat.zero_add,h j hlt,<- h2]⟩
end
def jq (x:Int):List Value:=[.int .i64 x]
def jy (x:ByteArray):List Value:=[.string x]
theorem Tryz.info3:(Tryz.prog.info? 3).map (fun i=>(i.zero,i.size,i.bytes))=some (some (.int .i64 0),1,8):=by kernel_rfl
theorem Tryz.info9:(Tryz.prog.info? 9).map (fun i=>(i.zero,i.size,i.bytes))=some (some (.string ⟨#[]⟩),1,16):=by kernel_rfl
theorem Tryz.info56:(Tryz.prog.info? 56).map (fun i=>(i.zero,i.size,i.bytes))=some (some (.agg #[.int .i64 0,.string ⟨#[]⟩,.slice none 0 0,.slice none 0 0,.int .i64 0,.int .i64 0,.int .i64 0,.slice none 0 0]),8,120):=by kernel_rfl
theorem Kf:RowOf jq 23 3 1 8 where
  und:=Tryz.underlying23
  info:=by
    obtain ⟨i0,hi,hz0,hz1,hz2⟩:=info_parts Tryz.info3
    exact ⟨i0,_,hi,hz0,hz1,hz2,rfl⟩
  pos:=by decide
  one := vm (fun x c hc => by obtain rfl : c = 0 := by omega
                              rfl) (by decide)
instance:Inhabited ByteArray:=⟨⟨#[]⟩⟩
theorem Ju:RowOf jy 24 9 1 16 where
  und:=Tryz.underlying24
  info:=by
    obtain ⟨i0,hi,hz0,hz1,hz2⟩:=info_parts Tryz.info9
    exact ⟨i0,_,hi,hz0,hz1,hz2,rfl⟩
  pos:=by decide
  one := vm (fun x c hc => by obtain rfl : c = 0 := by omega
                              rfl) (by decide)
/-- A node as it lies in memory. -/
structure Nv where
  kind:Int
  attr:ByteArray
  qi:Option Addr
  ni:Nat
  ci:Nat
  qw:Option Addr
  nw:Nat
  cw:Nat
  lo:Int
  hi:Int
  op:Int
  qk:Option Addr
  nk:Nat
  ck:Nat
instance:Inhabited Nv:=⟨⟨0,⟨#[]⟩,none,0,0,none,0,0,0,0,0,none,0,0⟩⟩
def rb (v:Nv):List Value:=[.int .i64 v.kind,.string v.attr,.slice v.qi v.ni v.ci,.slice v.qw v.nw v.cw,.int .i64 v.lo,.int .i64 v.hi,.int .i64 v.op,.slice v.qk v.nk v.ck]
theorem Zo:RowOf rb 54 56 8 120 where
 und:=Tryz.underlying54
 info:=by
  obtain ⟨i0,hi,hz0,hz1,hz2⟩:=info_parts Tryz.info56
  exact ⟨i0,_,hi,hz0,hz1,hz2,rfl⟩
 pos:=by decide
 one:=vm (fun x c hc=>by
  have hm:c=0 ∨ c=1 ∨ c=2 ∨ c=3 ∨ c=4 ∨ c=5 ∨ c=6 ∨ c=7:=by omega
  rcases hm with e | e | e | e | e | e | e | e <;> rw [e] <;> rfl) (by decide)
theorem zan {w:World} {b off j:Nat} {v:Nv} (h:∀ c,c < 8->w.cell? ⟨b,off + j * 8 + c,none⟩=some ((rb v)[c]!)) :
  w.cell? ⟨b,off + j * 8,none⟩=some (.int .i64 v.kind)/\w.cell? ⟨b,off + j * 8 + 1,none⟩=some (.string v.attr)/\w.cell? ⟨b,off + j * 8 + 2,none⟩=some (.slice v.qi v.ni v.ci)/\w.cell? ⟨b,off + j * 8 + 3,none⟩=some (.slice v.qw v.nw v.cw)/\w.cell? ⟨b,off + j * 8 + 4,none⟩=some (.int .i64 v.lo)/\w.cell? ⟨b,off + j * 8 + 5,none⟩=some (.int .i64 v.hi)/\w.cell? ⟨b,off + j * 8 + 6,none⟩=some (.int .i64 v.op)/\w.cell? ⟨b,off + j * 8 + 7,none⟩=some (.slice v.qk v.nk v.ck) :=
 ⟨h 0 (by omega),h 1 (by omega),h 2 (by omega),h 3 (by omega),h 4 (by omega),h 5 (by omega),h 6 (by omega),h 7 (by omega)⟩
end Go.Proofs.YtimklglliffpcaaGreat
namespace Go.Proofs.YtimklglliffpcaaGreat
open Go.RowKit
def rq (c:Int):Bool:=decide (97<=c) && decide (c<=122)
def Ax (c:Int):Bool:=decide (48<=c) && decide (c<=57)
def okB (c:Int):Bool:=rq c || Ax c || c == 95
def ve (s:ByteArray) (i:Nat):Int:=if h:i < s.size then (s[i].toNat:Int) else 0
theorem Cb {s:ByteArray} {i:Nat} (h:i < s.size):ve s i=(s[i].toNat:Int):=by unfold ve;rw [dif_pos h]
/-- Is it a name? -/
def ko (s:ByteArray):Bool:=decide (1<=s.size) && decide (s.size<=32) && rq (ve s 0) && (List.range s.size).all fun i=>okB (ve s i)
theorem Gk {s:ByteArray} (h:s.size < 1):ko s=false:=by unfold ko;simp;omega
theorem D6 {s:ByteArray} (h:32 < s.size):ko s=false:=by unfold ko;simp;omega
theorem Hp {s:ByteArray} (h:rq (ve s 0)=false):ko s=false:=by unfold ko;simp [h]
theorem Jk {s:ByteArray} {i:Nat} (hi:i < s.size) (h:okB (ve s i)=false):ko s=false:=by
 unfold ko
 rw [Bool.and_eq_false_iff]
 right
 rw [Bool.eq_false_iff]
 intro hall
 rw [List.all_eq_true] at hall
 have:=hall i (by simpa using hi)
 rw [h] at this;cases this
theorem Gr {s:ByteArray} (h1:1<=s.size) (h2:s.size<=32) (h3:rq (ve s 0)=true) (h:∀ j,j < s.size->okB (ve s j)=true):ko s=true:=by
 unfold ko
 rw [h3]
 simp only [Bool.and_eq_true,decide_eq_true_eq,List.all_eq_true,List.mem_range]
 exact ⟨⟨⟨h1,h2⟩,trivial⟩,h⟩
set_option maxHeartbeats 400000 in
theorem Lb (c:Int) (w:World) :
  Calls Tryz.prog 154 #[.int .u8 c] w fun e w'=>e=.returned (.bool (rq c))/\w'=w:=by
 by_cases h1:97<=c <;> by_cases h2:c<=122
 all_goals
  go_enter Tryz.func154,Tryz.ntmps154
  go_wp2
  go_ret
  exact ⟨jb (by simp [rq,h1,h2]),rfl⟩
set_option maxHeartbeats 400000 in
theorem K8 (c:Int) (w:World) :
  Calls Tryz.prog 155 #[.int .u8 c] w fun e w'=>e=.returned (.bool (Ax c))/\w'=w:=by
 by_cases h1:48<=c <;> by_cases h2:c<=57
 all_goals
  go_enter Tryz.func155,Tryz.ntmps155
  go_wp2
  go_ret
  exact ⟨jb (by simp [Ax,h1,h2]),rfl⟩
set_option maxHeartbeats 1000000 in
theorem ti (s:ByteArray) (w:World) :
  Calls Tryz.prog 110 #[.string s] w fun e w'=>e=.returned (.bool (ko s))/\w'=w:=by
 by_cases h1:s.size < 1
 ·have hn:=d9 (Gk h1)
  have i1:(s.size:Int) < 1:=by omega
  go_enter Tryz.func110,Tryz.ntmps110
  go_wp2
  go_ret
  exact ⟨jb (uh hn).symm,rfl⟩
 ·by_cases h2:32 < s.size
  ·have hn:=d9 (D6 h2)
   have i1:¬ (s.size:Int) < 1:=by omega
   have i2:(32:Int) < (s.size:Int):=by omega
   go_enter Tryz.func110,Tryz.ntmps110
   go_wp2
   go_ret
   exact ⟨jb (uh hn).symm,rfl⟩
  ·have i1:¬ (s.size:Int) < 1:=by omega
   have i2:¬ (32:Int) < (s.size:Int):=by omega
   have hb0:=Cb (s:=s) (i:=0) (by omega)
   have hlt:=fun (c:Int) (W:World)=>Lb c W
   have hdg:=fun (c:Int) (W:World)=>K8 c W
   cases hl:rq (ve s 0) with
   | false =>
    have hn:=d9 (Hp hl)
    rw [hb0] at hl
    clear hb0
    have i0:(0:Int) < (s.size:Int):=by omega
    go_enter Tryz.func110,Tryz.ntmps110
    go_wp2_with (first | (go_at_call 154;refine (hlt _ _).mono ?_;rintro e w' ⟨rfl,rfl⟩))
    go_ret
    exact ⟨jb (uh hn).symm,rfl⟩
   | true =>
    have Hl:=d9 hl
    rw [hb0] at hl
    clear hb0
    have i0:(0:Int) < (s.size:Int):=by omega
    go_enter Tryz.func110,Tryz.ntmps110
    go_wp2_with (first | (go_at_call 154;refine (hlt _ _).mono ?_;rintro e w' ⟨rfl,rfl⟩))
    go_loop [20] (fun i=>∃ k:Nat,k<=s.size/\i=.int .i64 k/\∀ j,j < k->okB (ve s j)=true) (fun i=>s.size - (intOf i).toNat)
    case atStart=>exact ⟨0,by omega,rfl,fun j hj=>by omega⟩
    case round =>
     obtain ⟨k,hk,rfl,hz⟩:=hrel
     have Hz:=d9 hz
     clear hz
     by_cases hkl:k < s.size
     ·have ki0:(0:Int)<=(k:Int):=by omega
      have ki1:(k:Int) < (s.size:Int):=by omega
      have hbk:=Cb hkl
      cases hok:okB (ve s k) with
      | true =>
       have Hok:=d9 hok
       rw [hbk] at hok
       have hparts:(rq (s[k].toNat:Int)=true) ∨ (rq (s[k].toNat:Int)=false/\Ax (s[k].toNat:Int)=true) ∨ (rq (s[k].toNat:Int)=false/\Ax (s[k].toNat:Int)=false/\((s[k].toNat:Int) != 95)=false):=by
        revert hok;unfold okB
        cases rq (s[k].toNat:Int) <;> cases Ax (s[k].toNat:Int) <;> simp
       clear hok hbk
       rcases hparts with p1 | ⟨p1,p2⟩ | ⟨p1,p2,p3⟩
       all_goals
        go_wp2_with (first | (go_at_call 154;refine (hlt _ _).mono ?_;rintro e w' ⟨rfl,rfl⟩) | (go_at_call 155;refine (hdg _ _).mono ?_;rintro e w' ⟨rfl,rfl⟩))
        go_round
        case rel=>exact ⟨k + 1,by omega,by go_num,fun j hj=>by
         by_cases e:j=k
         ·rw [e];exact uh Hok
         ·exact uh Hz j (by omega)⟩
        case measure=>simp [intOf];omega
      | false =>
       have hn:=d9 (Jk hkl hok)
       rw [hbk] at hok
       have hparts:rq (s[k].toNat:Int)=false/\Ax (s[k].toNat:Int)=false/\((s[k].toNat:Int) != 95)=true:=by
        revert hok;unfold okB
        cases rq (s[k].toNat:Int) <;> cases Ax (s[k].toNat:Int) <;> simp
       obtain ⟨p1,p2,p3⟩:=hparts
       clear hok hbk
       go_wp2_with (first | (go_at_call 154;refine (hlt _ _).mono ?_;rintro e w' ⟨rfl,rfl⟩) | (go_at_call 155;refine (hdg _ _).mono ?_;rintro e w' ⟨rfl,rfl⟩))
       go_ret
       exact ⟨jb (uh hn).symm,rfl⟩
     ·obtain rfl:k=s.size:=by omega
      go_wp2
      go_ret
      exact ⟨jb (Gr (by omega) (by omega) (uh Hl) (uh Hz)).symm,rfl⟩
set_option maxHeartbeats 1000000 in
theorem yy (s:ByteArray) (w:World) :
  Calls Tryz.prog 107 #[.string s] w fun e w'=>e=.returned (.bool (ko s))/\w'=w:=by
 by_cases h1:s.size < 1
 ·have hn:=d9 (Gk h1)
  have he:s.toList.isEmpty=true:=(nx s).2 (by omega)
  go_enter Tryz.func107,Tryz.ntmps107
  go_wp2
  go_ret
  exact ⟨jb (uh hn).symm,rfl⟩
 ·have he:s.toList.isEmpty=false:=by
   cases h:s.toList.isEmpty with
   | false=>rfl
   | true=>have:=(nx s).1 h;omega
  by_cases h2:32 < s.size
  ·have hn:=d9 (D6 h2)
   have i2:(32:Int) < (s.size:Int):=by omega
   go_enter Tryz.func107,Tryz.ntmps107
   go_wp2
   go_ret
   exact ⟨jb (uh hn).symm,rfl⟩
  ·have i2:¬ (32:Int) < (s.size:Int):=by omega
   go_enter Tryz.func107,Tryz.ntmps107
   go_wp2
   go_loop [3] (fun i=>∃ k:Nat,k<=s.size/\i=.int .i64 k/\(0 < k->rq (ve s 0)=true)/\∀ j,j < k->okB (ve s j)=true) (fun i=>s.size - (intOf i).toNat)
   case atStart=>exact ⟨0,by omega,rfl,fun h=>by omega,fun j hj=>by omega⟩
   case round =>
    obtain ⟨k,hk,rfl,hl,hz⟩:=hrel
    have Hz:=d9 hz
    have Hl:=d9 hl
    clear hz hl
    by_cases hkl:k < s.size
    ·have ki0:(0:Int)<=(k:Int):=by omega
     have ki1:(k:Int) < (s.size:Int):=by omega
     have hbk:=d9 (Cb hkl)
     by_cases k0:k=0
     ·subst k0
      by_cases a:(97:Int)<=(s[0].toNat:Int)/\(s[0].toNat:Int)<=122
      ·obtain ⟨a1,a2⟩:=a
       have hL:rq (ve s 0)=true:=by rw [uh hbk];simp [rq,a1,a2]
       have HL:=d9 hL
       clear hL
       go_wp2
       go_round
       case rel=>exact ⟨0 + 1,by omega,by go_num,fun _=>uh HL,fun j hj=>by
         obtain rfl:j=0:=by omega
         simp [okB,uh HL]⟩
       case measure=>simp [intOf];omega
      ·have hN:=d9 (Hp (s:=s) (by rw [uh hbk];simp [rq];omega))
       by_cases a1:(97:Int)<=(s[0].toNat:Int)
       ·have a2:¬ (s[0].toNat:Int)<=122:=fun h=>a ⟨a1,h⟩
        clear a
        go_wp2
        go_ret
        exact ⟨jb (uh hN).symm,rfl⟩
       ·clear a
        go_wp2
        go_ret
        exact ⟨jb (uh hN).symm,rfl⟩
     ·have kd:((k:Int) == 0)=false:=by simp;omega
      cases hok:okB (ve s k) with
      | true =>
       have Hok:=d9 hok
       rw [uh hbk] at hok
       have hparts:((97:Int)<=(s[k].toNat:Int)/\(s[k].toNat:Int)<=122) ∨ (¬ (97:Int)<=(s[k].toNat:Int)/\¬ (s[k].toNat:Int) < 48/\¬ (57:Int) < (s[k].toNat:Int)) ∨ (¬ (97:Int)<=(s[k].toNat:Int)/\¬ (s[k].toNat:Int) < 48/\(57:Int) < (s[k].toNat:Int)/\((s[k].toNat:Int) != 95)=false):=by
        revert hok;unfold okB rq Ax;simp;omega
       clear hok
       rcases hparts with ⟨p1,p2⟩ | ⟨p1,p2,p3⟩ | ⟨p1,p2,p3,p4⟩
       all_goals
        go_wp2
        go_round
        case rel=>exact ⟨k + 1,by omega,by go_num,fun _=>uh Hl (by omega),fun j hj=>by
         by_cases e:j=k
         ·rw [e];exact uh Hok
         ·exact uh Hz j (by omega)⟩
        case measure=>simp [intOf];omega
      | false =>
       have hn:=d9 (Jk hkl hok)
       rw [uh hbk] at hok
       have hparts:(¬ (97:Int)<=(s[k].toNat:Int)/\(s[k].toNat:Int) < 48/\((s[k].toNat:Int) != 95)=true) ∨ (¬ (97:Int)<=(s[k].toNat:Int)/\¬ (s[k].toNat:Int) < 48/\(57:Int) < (s[k].toNat:Int)/\((s[k].toNat:Int) != 95)=true) ∨ ((97:Int)<=(s[k].toNat:Int)/\¬ (s[k].toNat:Int)<=122/\¬ (s[k].toNat:Int) < 48/\(57:Int) < (s[k].toNat:Int)/\((s[k].toNat:Int) != 95)=true):=by
        revert hok;unfold okB rq Ax;simp;omega
       clear hok
       rcases hparts with ⟨p1,p2,p3⟩ | ⟨p1,p2,p3,p4⟩ | ⟨p1,p2,p3,p4,p5⟩
       all_goals
        go_wp2
        go_ret
        exact ⟨jb (uh hn).symm,rfl⟩
    ·obtain rfl:k=s.size:=by omega
     go_wp2
     go_ret
     exact ⟨jb (Gr (by omega) (by omega) (uh Hl (by omega)) (uh Hz)).symm,rfl⟩
end Go.Proofs.YtimklglliffpcaaGreat
namespace Go.Proofs.YtimklglliffpcaaGreat
open Go.RowKit
inductive Nd where
 | mk (kind:Int) (attr:ByteArray) (ints:List Int) (words:List ByteArray) (lo hi op:Int) (kids:List Nd)
namespace Nd
def kids:Nd->List Nd
 | .mk _ _ _ _ _ _ _ ks=>ks
theorem ind {P:Nd->Prop} (h:∀ kind attr ints words lo hi op kids,(∀ x ∈ kids,P x)->P (.mk kind attr ints words lo hi op kids)) (t:Nd):P t :=
  Nd.rec (motive_1:=P) (motive_2:=fun l=>∀ x ∈ l,P x) (fun kind attr ints words lo hi op kids ih=>h kind attr ints words lo hi op kids ih)
    (fun x hx=>by simp at hx) (fun x xs hx hxs y hy=>by
      rcases List.mem_cons.1 hy with rfl | hy
      · exact hx
      · exact hxs y hy) t
end Nd
/-- The value of a node. -/
def Nv.val (v:Nv):Value:=.agg #[.int .i64 v.kind,.string v.attr,.slice v.qi v.ni v.ci,.slice v.qw v.nw v.cw,.int .i64 v.lo,.int .i64 v.hi,.int .i64 v.op,.slice v.qk v.nk v.ck]
/-- The tree of the node v lies in memory. -/
inductive NdIn (w:World):Nv->Nd->Prop
  | mk {kind:Int} {attr:ByteArray} {ints:List Int} {words:List ByteArray} {lo hi op:Int} {kids:List Nd} {qi:Option Addr} {ci:Nat} {qw:Option Addr} {cw:Nat} {qk:Option Addr} {ck:Nat} {vs:List Nv} :
      SlOf jq 1 w qi ci ints->SlOf jy 1 w qw cw words->SlOf rb 8 w qk ck vs->vs.length=kids.length->(∀ (j:Nat) (v:Nv) (x:Nd),vs[j]? = some v->kids[j]? = some x->NdIn w v x) ->
      NdIn w ⟨kind,attr,qi,ints.length,ci,qw,words.length,cw,lo,hi,op,qk,kids.length,ck⟩ (.mk kind attr ints words lo hi op kids)
theorem NdIn.keep {w w':World} {v:Nv} {t:Nd} (h:NdIn w v t) (hb:Below w.heap.size w w'):NdIn w' v t:=by
 induction h with
 | mk hi hw hk hl hr ih=>exact .mk (hi.below hb) (hw.below hb) (hk.below hb) hl fun j v x hj hx=>ih j v x hj hx
/-- A list of nodes in memory. -/
def NdsOf (w:World) (q:Option Addr) (c:Nat) (l:List Nd):Prop:=∃ vs,SlOf rb 8 w q c vs/\vs.length=l.length/\∀ (j:Nat) (v:Nv) (x:Nd),vs[j]? = some v->l[j]? = some x->NdIn w v x
theorem NdsOf.below {w w':World} {q:Option Addr} {c:Nat} {l:List Nd} (h:NdsOf w q c l) (hb:Below w.heap.size w w'):NdsOf w' q c l:=by
 obtain ⟨vs,h1,h2,h3⟩:=h
 exact ⟨vs,h1.below hb,h2,fun j v x hj hx=>(h3 j v x hj hx).keep hb⟩
theorem NdIn.parts {w:World} {v:Nv} {kind:Int} {attr:ByteArray} {ints:List Int} {words:List ByteArray} {lo hi op:Int} {kids:List Nd} (h:NdIn w v (.mk kind attr ints words lo hi op kids)) :
  ∃ qi ci qw cw qk ck,v=⟨kind,attr,qi,ints.length,ci,qw,words.length,cw,lo,hi,op,qk,kids.length,ck⟩/\SlOf jq 1 w qi ci ints/\SlOf jy 1 w qw cw words/\NdsOf w qk ck kids:=by
 cases h with
 | mk hi hw hk hl hr=>exact ⟨_,_,_,_,_,_,rfl,hi,hw,_,hk,hl,hr⟩
theorem NdIn.make {w:World} {kind:Int} {attr:ByteArray} {ints:List Int} {words:List ByteArray} {lo hi op:Int} {kids:List Nd} {qi:Option Addr} {ci:Nat} {qw:Option Addr} {cw:Nat} {qk:Option Addr} {ck:Nat}
  (h1:SlOf jq 1 w qi ci ints) (h2:SlOf jy 1 w qw cw words) (h3:NdsOf w qk ck kids):NdIn w ⟨kind,attr,qi,ints.length,ci,qw,words.length,cw,lo,hi,op,qk,kids.length,ck⟩ (.mk kind attr ints words lo hi op kids):=by
 obtain ⟨vs,k1,k2,k3⟩:=h3
 exact .mk h1 h2 k1 k2 k3
/-- The j-th kid: its cells, and its tree. -/
theorem NdsOf.at {w:World} {q:Option Addr} {c:Nat} {l:List Nd} {j:Nat} {x:Nd} (h:NdsOf w q c l) (hj:l[j]? = some x) :
    ∃ b off v,q=some ⟨b,off,none⟩/\b < w.heap.size/\NdIn w v x/\w.cell? ⟨b,off + j * 8,none⟩=some (.int .i64 v.kind)/\w.cell? ⟨b,off + j * 8 + 1,none⟩=some (.string v.attr)/\w.cell? ⟨b,off + j * 8 + 2,none⟩=some (.slice v.qi v.ni v.ci)/\w.cell? ⟨b,off + j * 8 + 3,none⟩=some (.slice v.qw v.nw v.cw)/\w.cell? ⟨b,off + j * 8 + 4,none⟩=some (.int .i64 v.lo)/\w.cell? ⟨b,off + j * 8 + 5,none⟩=some (.int .i64 v.hi)/\w.cell? ⟨b,off + j * 8 + 6,none⟩=some (.int .i64 v.op)/\w.cell? ⟨b,off + j * 8 + 7,none⟩=some (.slice v.qk v.nk v.ck):=by
  obtain ⟨vs,h1,h2,h3⟩:=h
  have hl:j < l.length:=(List.getElem?_eq_some_iff.1 hj).1
  obtain ⟨v,hv,_⟩:=je (l:=vs) (k:=j) (by omega)
  obtain ⟨b,off,hq,hb,hc⟩:=h1.2.2.2.at hv
  exact ⟨b,off,v,hq,hb,h3 j v x hv hj,zan hc⟩
/-- The same, seen from a later world. -/
theorem NdsOf.on {w wr:World} {q:Option Addr} {c:Nat} {l:List Nd} {j:Nat} {x:Nd} (h:NdsOf w q c l) (hj:l[j]? = some x) (hbel:Below w.heap.size w wr) :
    ∃ b off v,q=some ⟨b,off,none⟩/\NdIn wr v x/\wr.cell? ⟨b,off + j * 8,none⟩=some (.int .i64 v.kind)/\wr.cell? ⟨b,off + j * 8 + 1,none⟩=some (.string v.attr)/\wr.cell? ⟨b,off + j * 8 + 2,none⟩=some (.slice v.qi v.ni v.ci)/\wr.cell? ⟨b,off + j * 8 + 3,none⟩=some (.slice v.qw v.nw v.cw)/\wr.cell? ⟨b,off + j * 8 + 4,none⟩=some (.int .i64 v.lo)/\wr.cell? ⟨b,off + j * 8 + 5,none⟩=some (.int .i64 v.hi)/\wr.cell? ⟨b,off + j * 8 + 6,none⟩=some (.int .i64 v.op)/\wr.cell? ⟨b,off + j * 8 + 7,none⟩=some (.slice v.qk v.nk v.ck):=by
  obtain ⟨b,off,v,hq,hb,hin,c⟩:=(h.below hbel).at hj
  exact ⟨b,off,v,hq,hin,c⟩
theorem mh {w:World} {q:Option Addr} {c:Nat} {l:List Int} {j:Nat} {x:Int} (h:SlOf jq 1 w q c l) (hj:l[j]? = some x):∃ b off,q=some ⟨b,off,none⟩/\b < w.heap.size/\w.cell? ⟨b,off + j,none⟩=some (.int .i64 x):=by
 obtain ⟨b,off,hq,hb,hc⟩:=h.2.2.2.at hj
 exact ⟨b,off,hq,hb,by have:=hc 0 (by omega);rw [Nat.mul_one] at this;exact this⟩
theorem j6 {w:World} {q:Option Addr} {c:Nat} {l:List ByteArray} {j:Nat} {x:ByteArray} (h:SlOf jy 1 w q c l) (hj:l[j]? = some x):∃ b off,q=some ⟨b,off,none⟩/\b < w.heap.size/\w.cell? ⟨b,off + j,none⟩=some (.string x):=by
 obtain ⟨b,off,hq,hb,hc⟩:=h.2.2.2.at hj
 exact ⟨b,off,hq,hb,by have:=hc 0 (by omega);rw [Nat.mul_one] at this;exact this⟩
mutual
/-- How many nodes. -/
def Md:Nd->Nat
  | .mk _ _ _ _ _ _ _ ks=>1 + Aw ks
def Aw:List Nd->Nat
 | []=>0
 | x :: xs=>Md x + Aw xs
end
def mn:List ByteArray->Nat
 | []=>0
 | x :: xs=>1 + x.size + mn xs
mutual
/-- How much a tree holds. -/
def wtN:Nd->Nat
  | .mk _ attr ints words _ _ _ ks=>1 + attr.size + ints.length + mn words + wtL ks
def wtL:List Nd->Nat
 | []=>0
 | x :: xs=>wtN x + wtL xs
end
theorem qc {x:Nd} {l:List Nd} (h:x ∈ l):wtN x<=wtL l:=by
 induction l with
 | nil=>simp at h
 | cons y l ih =>
  rcases List.mem_cons.1 h with rfl | h
  ·simp [wtL]
  ·have:=ih h;simp only [wtL];omega
theorem pz (l:List ByteArray):l.length<=mn l:=by
 induction l with
 | nil=>simp [mn]
 | cons x l ih=>simp only [mn,List.length_cons];omega
theorem Xx:∀ t,Md t<=wtN t:=by
 apply Nd.ind
 intro kind attr ints words lo hi op kids ih
 have:Aw kids<=wtL kids:=by
  clear kind attr ints words lo hi op
  induction kids with
  | nil=>simp [Aw]
  | cons x xs ih2 =>
   have h1:=ih x List.mem_cons_self
   have h2:=ih2 fun y hy=>ih y (List.mem_cons_of_mem _ hy)
   simp only [wtL,Aw];omega
 simp only [wtN,Md];omega
theorem po (l:List Nd):Aw l<=wtL l:=by
 induction l with
 | nil=>simp [Aw]
 | cons x l ih=>have:=Xx x;simp only [wtL,Aw];omega
theorem jh {α:Type} {l:List α} {k:Nat} {x:α} (h:l[k]? = some x):l.take (k + 1)=l.take k ++ [x]:=by
 rw [List.take_add_one,h];rfl
end Go.Proofs.YtimklglliffpcaaGreat
namespace Go.Proofs.YtimklglliffpcaaGreat
open Go.RowKit
/-- What the listed variables of the library hold. -/
def G (w:World):Prop:=Lib.TabIs Tryz.prog w "internal/strconv.uint64pow10" .u64 Lib.pow10Tab
theorem d8 {a b c:World} (h:Below a.heap.size a b) (h2:Below b.heap.size b c):Below a.heap.size a c:=h.trans (h2.mono h.size)
theorem Gi {W w1:World} (hb:Below W.heap.size W w1):(∀ b o,b < W.heap.size->w1.cell? ⟨b,o,none⟩=W.cell? ⟨b,o,none⟩)/\(∀ b o,b < W.heap.size->w1.frozen? ⟨b,o,none⟩=W.frozen? ⟨b,o,none⟩) :=
 ⟨fun b o h=>hb.cell (p:=⟨b,o,none⟩) h,fun b o h=>hb.frozen (p:=⟨b,o,none⟩) h⟩
theorem mg {a b:ByteArray} (h:a ≠ b):(a.toList == b.toList)=false:=by
 rw [beq_eq_false_iff_ne]
 intro h2
 rw [ByteArray.toList_eq,ByteArray.toList_eq] at h2
 exact h (WideShapes.bytes_inj h2)
end Go.Proofs.YtimklglliffpcaaGreat
namespace Go.Proofs.YtimklglliffpcaaGreat
open Go.RowKit Go.Sort
structure Pr where
 name:ByteArray
 kind:Int
 int:Int
 word:ByteArray
instance:Inhabited Pr:=⟨⟨⟨#[]⟩,0,0,⟨#[]⟩⟩⟩
def yq (x:Pr):List Value:=[.string x.name,.int .i64 x.kind,.int .i64 x.int,.string x.word]
theorem zat {w:World} {q:Option Addr} {c:Nat} {l:List Pr} {j:Nat} {x:Pr} (h:SlOf yq 4 w q c l) (hj:l[j]? = some x):∃ b off,q=some ⟨b,off,none⟩/\b < w.heap.size/\w.cell? ⟨b,off + j * 4,none⟩=some (.string x.name)/\w.cell? ⟨b,off + j * 4 + 1,none⟩=some (.int .i64 x.kind)/\w.cell? ⟨b,off + j * 4 + 2,none⟩=some (.int .i64 x.int)/\w.cell? ⟨b,off + j * 4 + 3,none⟩=some (.string x.word):=by
 obtain ⟨b,off,hq,hb,hc⟩:=h.2.2.2.at hj
 exact ⟨b,off,hq,hb,hc 0 (by decide),hc 1 (by decide),hc 2 (by decide),hc 3 (by decide)⟩
/-- The first pair of that name. -/
def qr (s:ByteArray):List Pr->Option Pr
  | []=>none
  | x :: xs=>if x.name.toList == s.toList then some x else qr s xs
theorem Lw {l:List Pr} {s:ByteArray} {k:Nat} {x:Pr} (h:qr s l=qr s (l.drop k)) (hd:l.drop k=x :: l.drop (k + 1)) (hq:(x.name.toList == s.toList)=true):qr s l=some x:=by rw [h,hd];simp [qr,hq]
theorem Vy {l:List Pr} {s:ByteArray} {k:Nat} {x:Pr} (h:qr s l=qr s (l.drop k)) (hd:l.drop k=x :: l.drop (k + 1)) (hq:(x.name.toList == s.toList)=false):qr s l=qr s (l.drop (k + 1)):=by rw [h,hd];simp [qr,hq]
theorem Pe {l:List Pr} {s:ByteArray} {k:Nat} (h:qr s l=qr s (l.drop k)) (hk:¬ k < l.length):qr s l=none:=by rw [h,List.drop_eq_nil_of_le (by omega)];rfl
def Gj (o:Option Pr):Value :=
 match o with
 | some y=>.tuple #[.agg #[.int .i64 y.kind,.int .i64 y.int,.string y.word],.bool true]
 | none=>.tuple #[.agg #[.int .i64 0,.int .i64 0,.string ⟨#[]⟩],.bool false]
/-- The block b holds one value, and may be written. -/
def Box (w:World) (b:Nat) (x:Int × Int × ByteArray):Prop :=
  w.cell? ⟨b,0,none⟩=some (.int .i64 x.1)/\w.cell? ⟨b,1,none⟩=some (.int .i64 x.2.1)/\w.cell? ⟨b,2,none⟩=some (.string x.2.2)/\(∀ o,w.frozen? ⟨b,o,none⟩=false)/\b < w.heap.size
theorem Box.below {w w':World} {b:Nat} {x:Int × Int × ByteArray} (h:Box w b x) (hb:Below w.heap.size w w'):Box w' b x:=by
 obtain ⟨h1,h2,h3,h4,h5⟩:=h
 exact ⟨(hb.cell (by exact h5)).trans h1,(hb.cell (by exact h5)).trans h2,(hb.cell (by exact h5)).trans h3,fun o=>(hb.frozen (by exact h5)).trans (h4 o),Nat.lt_of_lt_of_le h5 hb.size⟩
def Zn (w:World) (b:Nat) (y:Int × Int × ByteArray):World:=((w.setCell ⟨b,0,none⟩ (.int .i64 y.1)).setCell ⟨b,1,none⟩ (.int .i64 y.2.1)).setCell ⟨b,2,none⟩ (.string y.2.2)
theorem tk {B:Nat} (w:World) (b:Nat) (y:Int × Int × ByteArray) (h:B<=b):Below B w (Zn w b y) :=
 (((Below.refl _ _).setCell h _).setCell h _).setCell h _
theorem Box.put {w:World} {b:Nat} {x:Int × Int × ByteArray} (h:Box w b x) (y:Int × Int × ByteArray):Box (Zn w b y) b y:=by
 obtain ⟨h1,h2,h3,h4,h5⟩:=h
 unfold Zn
 refine ⟨?_, ?_, ?_,fun o=>?_, ?_⟩
 ·go_simp
 ·go_simp
 ·go_simp
 ·go_simp
 ·simpa [World.setCell] using h5
theorem Box.new (w:World) (x:Int × Int × ByteArray) (t:TypeId):Box (w.alloc (.cells #[.int .i64 x.1,.int .i64 x.2.1,.string x.2.2] t)) w.heap.size x:=by
 refine ⟨?_, ?_, ?_,fun o=>?_,by simp⟩ <;> simp
theorem Box.alloc {w:World} {b:Nat} {x:Int × Int × ByteArray} (h:Box w b x) (o:Obj):Box (w.alloc o) b x:=h.below ((Below.refl _ _).alloc (Nat.le_refl _) _)
set_option maxHeartbeats 1000000 in
theorem pf (p:Option Addr) (cap:Nat) (l:List Pr) (s:ByteArray) (w:World) (hm:l.length<=140737488355328) (hA:SlOf yq 4 w p cap l) :
  Calls Tryz.prog 86 #[.slice p l.length cap,.string s] w fun e w'=>e=.returned (Gj (qr s l))/\Below w.heap.size w w':=by
 have HA:=d9 hA
 clear hA
 go_enter Tryz.func86,Tryz.ntmps86
 go_wp2
 go_loopw [10] (fun i wr=>∃ k:Nat,k<=l.length/\i=.int .i64 k/\Below w.heap.size w wr/\Box wr w.heap.size (0,0,⟨#[]⟩)/\qr s l=qr s (l.drop k)) (fun i _=>l.length - (intOf i).toNat)
 case atStart=>exact ⟨0,by omega,rfl,(Below.refl _ _).alloc (Nat.le_refl _) _,Box.new w (0,0,⟨#[]⟩) 84,by simp⟩
 case round =>
  obtain ⟨k,hk,rfl,hbel,hbox,heq⟩:=hrel
  have Heq:=d9 heq
  clear heq
  by_cases hlt:k < l.length
  ·obtain ⟨x,hx,hd⟩:=je hlt
   obtain ⟨bb,off,rfl,hbb,g0,g1,g2,g3⟩:=zat ((uh HA).below hbel) hx
   have Hd:=d9 hd
   clear hd
   have ki0:(0:Int)<=(k:Int):=by omega
   have ki1:(k:Int) < (l.length:Int):=by omega
   have Hx:=d9 hx
   clear hx
   cases hq:(x.name.toList == s.toList) with
   | true =>
    have Hy:=d9 (Lw (uh Heq) (uh Hd) hq)
    have Hb:=d9 hbox
    obtain ⟨r0,r1,r2,fr0,sz0⟩:=hbox
    simp only at r0 r1 r2
    go_wp2
    obtain ⟨z0,z1,z2,_,_⟩:=((uh Hb).put (x.kind,x.int,x.word)).alloc (.cells #[.string x.name,.int .i64 x.kind,.int .i64 x.int,.string x.word] 86)
    unfold Zn at z0 z1 z2
    refine bodyPost_ret (v:=.tuple #[.agg #[.int .i64 x.kind,.int .i64 x.int,.string x.word],.bool true]) (by simp [results,Tryz.results86,go_sem,z0,z1,z2]) rfl ⟨by rw [uh Hy];rfl, ?_⟩
    have hq2:=hbel.trans (tk wr w.heap.size (x.kind,x.int,x.word) (Nat.le_refl _))
    exact hq2.alloc hq2.size _
   | false =>
    have Hy:=d9 (Vy (uh Heq) (uh Hd) hq)
    have Hb:=d9 (hbox.alloc (.cells #[.string x.name,.int .i64 x.kind,.int .i64 x.int,.string x.word] 86))
    clear hbox
    go_wp2
    go_roundw
    case rel=>exact ⟨k + 1,by omega,by go_num,hbel.alloc hbel.size _,uh Hb,uh Hy⟩
    case measure=>simp [intOf];omega
  ·obtain rfl:k=l.length:=by omega
   have Hy:=d9 (Pe (uh Heq) hlt)
   have Hb:=d9 hbox
   obtain ⟨r0,r1,r2,fr0,sz0⟩:=hbox
   simp only at r0 r1 r2
   go_wp2
   have hb3:=(uh Hb).put (0,0,⟨#[]⟩)
   obtain ⟨z0,z1,z2,_,_⟩:=hb3
   unfold Zn at z0 z1 z2
   refine bodyPost_ret (v:=.tuple #[.agg #[.int .i64 0,.int .i64 0,.string ⟨#[]⟩],.bool false]) (by simp [results,Tryz.results86,go_sem,r0,r1,r2]) rfl ⟨by rw [uh Hy];rfl, ?_⟩
   exact hbel.trans (tk _ w.heap.size (0,0,⟨#[]⟩) (Nat.le_refl _))
/-- Is it among them? -/
def Cm (v:Int) (l:List Int):Bool:=l.any (fun x=>v == x)
def vx (v:ByteArray) (l:List ByteArray):Bool:=l.any (fun x=>v.toList == x.toList)
theorem Dh {α:Type} {f:α->Bool} {l:List α} {k:Nat} {x:α} (hx:l[k]? = some x) (h:f x=true):l.any f=true:=List.any_eq_true.2 ⟨x,List.mem_of_getElem? hx,h⟩
theorem Cr {α:Type} {f:α->Bool} {l:List α} (h:∀ (j:Nat) (x:α),j < l.length->l[j]? = some x->f x=false):l.any f=false:=by
 apply List.any_eq_false.2
 intro x hx
 obtain ⟨j,hj,rfl⟩:=List.getElem_of_mem hx
 simp [h j _ hj (List.getElem?_eq_getElem hj)]
set_option maxRecDepth 100000 in
set_option maxHeartbeats 1000000 in
theorem za7 (q:Option Addr) (c:Nat) (l:List Int) (v:Int) (w:World) (hl:l.length<=140737488355328) (h:SlOf jq 1 w q c l) :
  Calls Tryz.prog 141 #[.slice q l.length c,.int .i64 v] w fun e w'=>(∃ n:Int,e=.returned (.int .i64 n)/\decide (0<=n)=Cm v l)/\Below w.heap.size w w':=by
 have HA:=d9 h
 clear h
 go_enter Tryz.func141,Tryz.ntmps141
 go_wp2
 go_loopw [8] (fun i wr=>∃ k:Nat,k<=l.length/\i=.int .i64 k/\Below w.heap.size w wr/\(∀ (j:Nat) (x:Int),j < k->l[j]? = some x->(v == x)=false)) (fun i _=>l.length - (intOf i).toNat)
 case atStart=>exact ⟨0,by omega,rfl,Below.refl _ _,fun j x hj=>by omega⟩
 case round =>
  obtain ⟨k,hk,rfl,hbel,hno⟩:=hrel
  have HNo:=d9 hno
  clear hno
  by_cases hlt:k < l.length
  ·obtain ⟨x,hx,hd⟩:=je hlt
   clear hd
   obtain ⟨bb,off,rfl,hbb,g0⟩:=mh ((uh HA).below hbel) hx
   have ki0:(0:Int)<=(k:Int):=by omega
   have ki1:(k:Int) < (l.length:Int):=by omega
   have Hx:=d9 hx
   clear hx
   cases hq:(v == x) with
   | true =>
    go_wp2
    go_ret
    exact ⟨⟨_,rfl,by rw [show Cm v l=true from Dh (uh Hx) hq];simp⟩,hbel⟩
   | false =>
    have HN2:Hid (∀ (j:Nat) (y:Int),j < k + 1->l[j]? = some y->(v == y)=false):=d9 (fun j y hj hy=>by
     by_cases e:j=k
     ·subst e;rw [uh Hx] at hy;cases hy;exact hq
     ·exact uh HNo j y (by omega) hy)
    go_wp2
    go_roundw
    case rel=>exact ⟨k + 1,by omega,by go_num,hbel,uh HN2⟩
    case measure=>simp [intOf];omega
  ·have ki1:¬ (k:Int) < (l.length:Int):=by omega
   have HE:=d9 (show Cm v l=false from Cr (fun j x hj hx=>uh HNo j x (by omega) hx))
   go_wp2
   go_ret
   exact ⟨⟨_,rfl,by rw [uh HE];decide⟩,hbel⟩
theorem Nn (q:Option Addr) (c:Nat) (l:List Int) (v:Int) (w:World) (hl:l.length<=140737488355328) (h:SlOf jq 1 w q c l) :
  Calls Tryz.prog 88 #[.slice q l.length c,.int .i64 v] w fun e w'=>e=.returned (.bool (Cm v l))/\Below w.heap.size w w':=by
 have hi:=za7 q c l v w hl h
 clear h
 go_enter Tryz.func88,Tryz.ntmps88
 go_wp2_with (go_at_call 141;refine hi.mono ?_;rintro e w1 ⟨⟨n,rfl,hn⟩,b1⟩;have HN:=d9 hn;have B1:=d9 b1;clear hn b1)
 all_goals
  go_ret
  exact ⟨jb (by rw [<- uh HN]),uh B1⟩
set_option maxRecDepth 100000 in
set_option maxHeartbeats 1000000 in
theorem zbi (q:Option Addr) (c:Nat) (l:List ByteArray) (v:ByteArray) (w:World) (hl:l.length<=140737488355328) (h:SlOf jy 1 w q c l) :
  Calls Tryz.prog 142 #[.slice q l.length c,.string v] w fun e w'=>(∃ n:Int,e=.returned (.int .i64 n)/\decide (0<=n)=vx v l)/\Below w.heap.size w w':=by
 have HA:=d9 h
 clear h
 go_enter Tryz.func142,Tryz.ntmps142
 go_wp2
 go_loopw [8] (fun i wr=>∃ k:Nat,k<=l.length/\i=.int .i64 k/\Below w.heap.size w wr/\(∀ (j:Nat) (x:ByteArray),j < k->l[j]? = some x->(v.toList == x.toList)=false)) (fun i _=>l.length - (intOf i).toNat)
 case atStart=>exact ⟨0,by omega,rfl,Below.refl _ _,fun j x hj=>by omega⟩
 case round =>
  obtain ⟨k,hk,rfl,hbel,hno⟩:=hrel
  have HNo:=d9 hno
  clear hno
  by_cases hlt:k < l.length
  ·obtain ⟨x,hx,hd⟩:=je hlt
   clear hd
   obtain ⟨bb,off,rfl,hbb,g0⟩:=j6 ((uh HA).below hbel) hx
   have ki0:(0:Int)<=(k:Int):=by omega
   have ki1:(k:Int) < (l.length:Int):=by omega
   have Hx:=d9 hx
   clear hx
   cases hq:(v.toList == x.toList) with
   | true =>
    go_wp2
    go_ret
    exact ⟨⟨_,rfl,by rw [show vx v l=true from Dh (uh Hx) hq];simp⟩,hbel⟩
   | false =>
    have HN2:Hid (∀ (j:Nat) (y:ByteArray),j < k + 1->l[j]? = some y->(v.toList == y.toList)=false):=d9 (fun j y hj hy=>by
     by_cases e:j=k
     ·subst e;rw [uh Hx] at hy;cases hy;exact hq
     ·exact uh HNo j y (by omega) hy)
    go_wp2
    go_roundw
    case rel=>exact ⟨k + 1,by omega,by go_num,hbel,uh HN2⟩
    case measure=>simp [intOf];omega
  ·have ki1:¬ (k:Int) < (l.length:Int):=by omega
   have HE:=d9 (show vx v l=false from Cr (fun j x hj hx=>uh HNo j x (by omega) hx))
   go_wp2
   go_ret
   exact ⟨⟨_,rfl,by rw [uh HE];decide⟩,hbel⟩
theorem Pt (q:Option Addr) (c:Nat) (l:List ByteArray) (v:ByteArray) (w:World) (hl:l.length<=140737488355328) (h:SlOf jy 1 w q c l) :
  Calls Tryz.prog 89 #[.slice q l.length c,.string v] w fun e w'=>e=.returned (.bool (vx v l))/\Below w.heap.size w w':=by
 have hi:=zbi q c l v w hl h
 clear h
 go_enter Tryz.func89,Tryz.ntmps89
 go_wp2_with (go_at_call 142;refine hi.mono ?_;rintro e w1 ⟨⟨n,rfl,hn⟩,b1⟩;have HN:=d9 hn;have B1:=d9 b1;clear hn b1)
 all_goals
  go_ret
  exact ⟨jb (by rw [<- uh HN]),uh B1⟩
def ll (s p:ByteArray):Bool:=decide (p.size<=s.size) && ((s.extract 0 p.size).toList == p.toList)
set_option maxHeartbeats 1000000 in
theorem Au (s p:ByteArray) (w:World):Calls Tryz.prog 143 #[.string s,.string p] w fun e w'=>e=.returned (.bool (ll s p))/\Below w.heap.size w w':=by
 by_cases hl:p.size<=s.size
 ·have h1:(p.size:Int)<=(s.size:Int):=by omega
  go_enter Tryz.func143,Tryz.ntmps143
  go_wp2
  go_ret
  exact ⟨jb (by simp [ll,hl]),Below.refl _ _⟩
 ·have h1:¬ (p.size:Int)<=(s.size:Int):=by omega
  go_enter Tryz.func143,Tryz.ntmps143
  go_wp2
  go_ret
  exact ⟨jb (by simp [ll,hl]),Below.refl _ _⟩
theorem lu (s p:ByteArray) (w:World):Calls Tryz.prog 90 #[.string s,.string p] w fun e w'=>e=.returned (.bool (ll s p))/\Below w.heap.size w w':=by
 have hi:=Au s p w
 generalize ll s p=r at hi ⊢
 go_enter Tryz.func90,Tryz.ntmps90
 go_wp2_with (go_at_call 143;refine hi.mono ?_;rintro e w1 ⟨rfl,b1⟩;have B1:=d9 b1;clear b1)
 go_ret
 exact ⟨rfl,uh B1⟩
end Go.Proofs.YtimklglliffpcaaGreat

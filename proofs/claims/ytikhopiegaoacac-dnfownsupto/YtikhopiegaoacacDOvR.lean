/- Rows that are written over: what stays. -/
import Derived.Test.YtikhopiegaoacacDZac
import Derived.Laws.CopyOwn
namespace Go.Proofs.Ytikhopiegaoacac
open Go.RowKit Go.Sort

theorem blk_lt {w:World} {b:Nat} {o:Obj} (h:w.heap[b]? = some o):b < w.heap.size:=(Array.getElem?_eq_some_iff.1 h).1
/-- A row in the blocks from B up to B', whatever it holds. -/
def Raw (e:TypeId) (k B B':Nat) (w:World) (q:Option Addr) (n c:Nat):Prop :=
 (q=none∧n=0∧c=0) ∨ ∃ (g:Nat) (cur:Array Value),q=some ⟨g,0,none⟩∧B≤g∧g < B'∧w.heap[g]? = some (.cells cur e (0,0))∧n≤c∧c≤maxLen∧cur.size=c * k
/-- A block of e. -/
def At (e:TypeId) (g:Nat) (w:World):Prop:=∃ cur:Array Value,w.heap[g]? = some (.cells cur e (0,0))
/-- Blocks of the types S between B and B' have been written over; all else stays. -/
structure Wr (S:List TypeId) (B B':Nat) (w w':World):Prop where
 os:w'.os=w.os
 tape:w'.tape=w.tape
 output:w'.output=w.output
 size:w.heap.size≤w'.heap.size
 past:∀ k,k < w.heap.size→(k < B ∨ B'≤k)→w'.heap[k]? = w.heap[k]?
 shape:∀ (g:Nat) (cur:Array Value) (t:TypeId),w.heap[g]? = some (.cells cur t (0,0))→∃ cur':Array Value,w'.heap[g]? = some (.cells cur' t (0,0))∧cur'.size=cur.size∧(t ∉ S→cur'=cur)
theorem Wr.refl (S:List TypeId) (B B':Nat) (w:World):Wr S B B' w w:=⟨rfl,rfl,rfl,Nat.le_refl _,fun _ _ _=>rfl,fun _ cur _ h=>⟨cur,h,rfl,fun _=>rfl⟩⟩
theorem Wr.trans {S:List TypeId} {B B':Nat} {a b c:World} (h:Wr S B B' a b) (h2:Wr S B B' b c):Wr S B B' a c :=
 ⟨h2.os.trans h.os,h2.tape.trans h.tape,h2.output.trans h.output,Nat.le_trans h.size h2.size,fun k hk hn=>(h2.past k (Nat.lt_of_lt_of_le hk h.size) hn).trans (h.past k hk hn),fun g cur t hg=>by
  obtain ⟨c1,h3,h4,h5⟩:=h.shape g cur t hg
  obtain ⟨c2,h6,h7,h8⟩:=h2.shape g c1 t h3
  exact ⟨c2,h6,h7.trans h4,fun ht=>(h8 ht).trans (h5 ht)⟩⟩
theorem Wr.mono {S T:List TypeId} {B B':Nat} {a b:World} (h:Wr S B B' a b) (hs:∀ t ∈ S,t ∈ T):Wr T B B' a b :=
 ⟨h.os,h.tape,h.output,h.size,h.past,fun g cur t hg=>by
  obtain ⟨c1,h3,h4,h5⟩:=h.shape g cur t hg
  exact ⟨c1,h3,h4,fun ht=>h5 (fun h6=>ht (hs t h6))⟩⟩
theorem Wr.of_below {w w':World} (S:List TypeId) (B B':Nat) (h:Below w.heap.size w w'):Wr S B B' w w' :=
 ⟨h.os,h.tape,h.output,h.size,fun k hk _=>h.block k hk,fun _ cur _ hg=>⟨cur,(h.block _ (blk_lt hg)).trans hg,rfl,fun _=>rfl⟩⟩
theorem Wr.alloc {S:List TypeId} {B B':Nat} {w w':World} (h:Wr S B B' w w') (o:Obj):Wr S B B' w (w'.alloc o):=h.trans (Wr.of_below S B B' ((Below.refl _ _).alloc (Nat.le_refl _) o))
/-- What lies from B' on stays; so does what lay ahead of B. -/
theorem Wr.below {S:List TypeId} {B B':Nat} {w w':World} (h:Wr S B B' w w') (hb:B≤w.heap.size):Below B w w':=⟨h.os,h.tape,h.output,h.size,fun k hk=>h.past k (by omega) (Or.inl hk)⟩
theorem set_at {w:World} {g:Nat} {cur:Array Value} {t:TypeId} (h:w.heap[g]? = some (.cells cur t (0,0))) (o:Nat) (v:Value):∃ cur':Array Value,(w.setCell ⟨g,o,none⟩ v).heap[g]? = some (.cells cur' t (0,0))∧cur'.size=cur.size:=by
 simp [World.setCell,Array.getElem?_modify,h]
theorem At.set {e:TypeId} {g:Nat} {w:World} (h:At e g w) (g' o:Nat) (v:Value):At e g (w.setCell ⟨g',o,none⟩ v):=by
 obtain ⟨cur,h⟩:=h
 by_cases hg:g=g'
 ·subst hg
  obtain ⟨c',h1,_⟩:=set_at h o v
  exact ⟨c',h1⟩
 ·exact ⟨cur,(Below.heap_setCell _ _ _ _ hg).trans h⟩
theorem Wr.set {S:List TypeId} {B B':Nat} {w w1:World} {e:TypeId} {g:Nat} (h:Wr S B B' w w1) (ha:At e g w1) (he:e ∈ S) (hg:(B≤g∧g < B') ∨ w.heap.size≤g) (o:Nat) (v:Value):Wr S B B' w (w1.setCell ⟨g,o,none⟩ v):=by
 have hb:=(Below.refl 0 w1).setCell (p:=⟨g,o,none⟩) (Nat.zero_le _) v
 refine ⟨hb.os.trans h.os,hb.tape.trans h.tape,hb.output.trans h.output,Nat.le_trans h.size hb.size,fun k hk hn=>(Below.heap_setCell _ _ _ _ (fun e=>by
  simp only at e
  omega)).trans (h.past k hk hn),fun k cur t hk=>?_⟩
 obtain ⟨c1,h3,h4,h5⟩:=h.shape k cur t hk
 by_cases hkg:k=g
 ·subst hkg
  obtain ⟨c0,h6⟩:=ha
  rw [h3] at h6
  injection h6 with h6
  injection h6 with _ h7 _
  subst h7
  obtain ⟨c2,h8,h9⟩:=set_at h3 o v
  exact ⟨c2,h8,h9.trans h4,fun ht=>absurd he ht⟩
 ·exact ⟨c1,(Below.heap_setCell _ _ _ _ hkg).trans h3,h4,h5⟩
theorem Raw.wr {S:List TypeId} {e:TypeId} {k B B' C C':Nat} {w w':World} {q:Option Addr} {n c:Nat} (h:Raw e k B B' w q n c) (hw:Wr S C C' w w'):Raw e k B B' w' q n c:=by
 rcases h with h | ⟨g,cur,h1,h2,h3,h4,h5,h6,h7⟩
 ·exact Or.inl h
 ·obtain ⟨c',h8,h9,_⟩:=hw.shape g cur e h4
  exact Or.inr ⟨g,c',h1,h2,h3,h8,h5,h6,h9.trans h7⟩
theorem Raw.at {e:TypeId} {k B B':Nat} {w:World} {q:Option Addr} {n c:Nat} (h:Raw e k B B' w q n c) (hn:0 < n):∃ g,q=some ⟨g,0,none⟩∧B≤g∧g < B'∧At e g w∧(∀ j,j < n * k→∃ v,w.cell? ⟨g,j,none⟩=some v)∧∀ o,w.frozen? ⟨g,o,none⟩=false:=by
 rcases h with ⟨_,h,_⟩ | ⟨g,cur,h1,h2,h3,h4,h5,h6,h7⟩
 ·omega
 ·refine ⟨g,h1,h2,h3,⟨cur,h4⟩,fun j hj=>?_,fun o=>frozen_free h4⟩
  have hlt:j < cur.size:=by rw [h7];exact Nat.lt_of_lt_of_le hj (Nat.mul_le_mul_right _ h5)
  exact ⟨cur[j],by rw [cell_of_row w g j cur e (0,0) h4];exact Array.getElem?_eq_getElem hlt⟩
theorem OwnK.raw {α:Type} [Inhabited α] {enc:α→List Value} {e:TypeId} {k B B':Nat} {w w':World} {q:Option Addr} {c:Nat} {l:List α} (h:OwnK enc e k B w q c l) (hb:w.heap.size≤B') {S:List TypeId} {C C':Nat} (hw:Wr S C C' w w'):Raw e k B B' w' q l.length c:=by
 have h0:Raw e k B B' w q l.length c:=by
  rcases h.2 with ⟨h1,h2⟩ | ⟨g,cap,cur,h1,h2,h3,h4,h5,h6,_⟩
  ·injection h1 with h1 h3 h4
   exact Or.inl ⟨h1,h2,h4⟩
  ·injection h1 with h1 _ h7
   subst h7
   exact Or.inr ⟨g,cur,h1,h2,Nat.lt_of_lt_of_le (blk_lt h3) hb,h3,h4,h5,h6⟩
 exact h0.wr hw
/-- A row from B' on stays. -/
theorem OwnK.past {α:Type} [Inhabited α] {enc:α→List Value} {e:TypeId} {k B B':Nat} {w w':World} {q:Option Addr} {c:Nat} {l:List α} {S:List TypeId} (h:OwnK enc e k B' w q c l) (hw:Wr S B B' w w'):OwnK enc e k B' w' q c l:=by
 refine ⟨h.1, ?_⟩
 rcases h.2 with h0 | ⟨g,cap,cur,h1,h2,h3,h4⟩
 ·exact Or.inl h0
 ·exact Or.inr ⟨g,cap,cur,h1,h2,(hw.past g (blk_lt h3) (Or.inr h2)).trans h3,h4⟩
theorem splice_at {cur news:List Value} {a:Nat} (ha:a + news.length≤cur.length) (o:Nat):(cur.take a ++ news ++ cur.drop (a + news.length))[o]? = if o < a then cur[o]? else if o < a + news.length then news[o - a]? else cur[o]?:=by
 have hl:(cur.take a).length=a:=by rw [List.length_take];omega
 by_cases h1:o < a
 ·rw [if_pos h1,List.append_assoc,List.getElem?_append_left (by omega),List.getElem?_take_of_lt h1]
 ·rw [if_neg h1]
  by_cases h2:o < a + news.length
  ·rw [if_pos h2,List.append_assoc,List.getElem?_append_right (by omega),hl,List.getElem?_append_left (by omega)]
  ·rw [if_neg h2,List.getElem?_append_right (by rw [List.length_append,hl];omega),List.length_append,hl,List.getElem?_drop]
   congr 1
   omega
/-- What becomes of the elements behind an append: each is as it was, or one of the new. -/
def El (e:TypeId) (k m:Nat) (news:List Value) (w w':World):Prop:=∀ g i:Nat,At e g w→(∀ c,c < k→w'.cell? ⟨g,i * k + c,none⟩=w.cell? ⟨g,i * k + c,none⟩) ∨ ∃ j,j < m∧∀ c,c < k→w'.cell? ⟨g,i * k + c,none⟩=news[j * k + c]?
theorem El.of_below {e:TypeId} {k m:Nat} {news:List Value} {w w':World} (h:Below w.heap.size w w'):El e k m news w w':=fun g i ha=>Or.inl fun c _=>by
 obtain ⟨cur,ha⟩:=ha
 exact World.cell?_of_block (h.block g (blk_lt ha))
section
variable {α : Type} [Inhabited α] {enc : α → List Value} {t e : TypeId} {k bytes : Nat}
set_option maxRecDepth 100000 in
theorem run_raw (R:RowOf enc t e k bytes) (ty:TypeId) (w:World) {B B':Nat} {q:Option Addr} {n c:Nat} (hR:Raw e k B B' w q n c) (a:Addr) (m cc:Nat) (news:List Value) (hl:news.length=m * k) (hnews:∀ j u,news[j]? = some u→w.cell? (a.add j)=some u) (h1:∀ u ∈ news,u.oneCell'=true) (hm0:0 < m) (hm:n + m≤maxLen) (hb:(n + m) * bytes≤140737488355328) :
  ∃ g c' w',(Builtin.append_ #[t,t] ty #[.slice q n c,.slice (some a) m cc]).run Try.prog w=.ok (.slice (some ⟨g,0,none⟩) (n + m) c') w'∧Wr [e] B B' w w'∧(∃ cur:Array Value,w'.heap[g]? = some (.cells cur e (0,0))∧(n + m) * k≤cur.size)∧((B≤g∧g < B') ∨ w.heap.size≤g)∧n + m≤c'∧El e k m news w w':=by
 obtain ⟨i0,z,hi,hz,hsz,hby,hzs⟩:=R.info
 subst hsz;subst hby
 have hml:n + m≤9223372036854775807:=by simp only [maxLen] at hm;omega
 have new:∀ (old:Nat) (xs:List Value),xs.length=n * i0.size→Wr [e] B B' w (w.drew.alloc (.cells (xs.toArray ++ news.toArray ++ Builtin.zeroCells z.cells (grownCap w (n + m) old e - (n + m))) e))∧(∃ cur:Array Value,(w.drew.alloc (.cells (xs.toArray ++ news.toArray ++ Builtin.zeroCells z.cells (grownCap w (n + m) old e - (n + m))) e)).heap[w.heap.size]? = some (.cells cur e (0,0))∧(n + m) * i0.size≤cur.size):=by
  intro old xs hx
  refine ⟨Wr.of_below _ _ _ ((Below.drew (Below.refl _ _)).alloc (Nat.le_refl _) _),_,heap_alloc_new w.drew _, ?_⟩
  simp only [Array.size_append,List.size_toArray,hx,hl,← Nat.add_mul]
  omega
 rcases hR with ⟨rfl,rfl,rfl⟩ | ⟨g,cur,rfl,h2,h3,h4,h5,h6,h7⟩
 ·have hr:=run_append_nil (P:=Try.prog) w t ty e i0 z R.und hi hz a m cc news hl hnews hm0 (by omega) (by have hb:=hb;simp only [Nat.zero_add] at hb;omega)
  obtain ⟨n1,n2⟩:=new 0 [] (by simp)
  simp only [Nat.zero_add,Array.empty_append] at n1 n2 ⊢
  exact ⟨_,_,_,hr,n1,n2,Or.inr (Nat.le_refl _),grownCap_ge w m 0 e,El.of_below ((Below.drew (Below.refl _ _)).alloc (Nat.le_refl _) _)⟩
 ·by_cases hroom:n + m≤c
  ·have hfit:n * i0.size + news.length≤cur.size:=by rw [hl,h7,← Nat.add_mul];exact Nat.mul_le_mul_right _ hroom
   have hr:=run_append_room (P:=Try.prog) w t ty e i0 R.und hi g n c cur h4 a m cc news hl hnews h1 hroom hfit
   have hsz:(cur.toList.take (n * i0.size) ++ news ++ cur.toList.drop (n * i0.size + news.length)).toArray.size=cur.size:=by
    simp only [List.size_toArray,List.length_append,List.length_take,List.length_drop,Array.length_toList]
    omega
   have hel:El e i0.size m news w (w.setRow g (cur.toList.take (n * i0.size) ++ news ++ cur.toList.drop (n * i0.size + news.length)).toArray):=by
    intro g' i ha
    by_cases hg:g'=g
    ·subst hg
     have hcell:∀ o,(w.setRow g' (cur.toList.take (n * i0.size) ++ news ++ cur.toList.drop (n * i0.size + news.length)).toArray).cell? ⟨g',o,none⟩=if o < n * i0.size then cur[o]? else if o < n * i0.size + news.length then news[o - n * i0.size]? else cur[o]?:=fun o=>by
      rw [cell_of_row _ g' o _ e (0,0) (setRow_heap w g' cur _ e _ h4),List.getElem?_toArray,splice_at (by rw [Array.length_toList];exact hfit),Array.getElem?_toList]
     have hold:∀ o,w.cell? ⟨g',o,none⟩=cur[o]?:=fun o=>cell_of_row w g' o cur e (0,0) h4
     by_cases h8:i < n
     ·refine Or.inl fun d hd=>?_
      have:i * i0.size + d < n * i0.size:=Nat.lt_of_lt_of_le (by rw [Nat.add_mul,Nat.one_mul];omega:i * i0.size + d < (i + 1) * i0.size) (Nat.mul_le_mul_right _ h8)
      rw [hcell,if_pos this,hold]
     ·by_cases h9:i < n + m
      ·refine Or.inr ⟨i - n,by omega,fun d hd=>?_⟩
       have e1:i * i0.size=n * i0.size + (i - n) * i0.size:=by rw [← Nat.add_mul];congr 1;omega
       have e2:(i - n) * i0.size + i0.size≤m * i0.size:=by
        have:=Nat.mul_le_mul_right i0.size (show i - n + 1≤m by omega)
        rwa [Nat.add_mul,Nat.one_mul] at this
       rw [hcell,if_neg (by omega),if_pos (by omega)]
       congr 1
       omega
      ·refine Or.inl fun d hd=>?_
       have e1:(n + m) * i0.size≤i * i0.size:=Nat.mul_le_mul_right _ (by omega)
       rw [Nat.add_mul] at e1
       rw [hcell,if_neg (by omega),if_neg (by omega),hold]
    ·exact Or.inl fun d _=>World.cell?_of_block (setRow_other w g g' _ hg)
   refine ⟨_,_,_,hr,⟨rfl,rfl,rfl,by simp [World.setRow],fun j hj hn=>setRow_other w g j _ (by omega),fun j cur2 t2 hj=>?_⟩,⟨_,setRow_heap w g cur _ e _ h4,by rw [hsz,h7];exact Nat.mul_le_mul_right _ hroom⟩,Or.inl ⟨h2,h3⟩,hroom,hel⟩
   by_cases hjg:j=g
   ·subst hjg
    rw [h4] at hj
    injection hj with hj
    injection hj with e1 e2 _
    subst e1 e2
    exact ⟨_,setRow_heap w j cur _ e _ h4,hsz,fun ht=>absurd (List.mem_singleton.2 rfl) ht⟩
   ·exact ⟨cur2,(setRow_other w g j _ hjg).trans hj,rfl,fun _=>rfl⟩
  ·have hxl:(cur.toList.take (n * i0.size)).length=n * i0.size:=by
    rw [List.length_take,Array.length_toList,h7]
    exact Nat.min_eq_left (Nat.mul_le_mul_right _ h5)
   have holds:∀ j u,(cur.toList.take (n * i0.size))[j]? = some u→w.cell? ((⟨g,0,none⟩:Addr).add j)=some u:=by
    intro j u hu
    rw [add_plain,Nat.zero_add,cell_of_row w g j cur e (0,0) h4]
    rw [List.getElem?_take] at hu
    split at hu
    ·simpa using hu
    ·cases hu
   have hr:=run_append_grow (P:=Try.prog) w t ty e i0 z R.und hi hz ⟨g,0,none⟩ n c _ hxl holds a m cc news hl hnews (by omega) (by omega) (growslice_fits (by omega) hb)
   obtain ⟨n1,n2⟩:=new c _ hxl
   exact ⟨_,_,_,hr,n1,n2,Or.inr (Nat.le_refl _),grownCap_ge w (n + m) c e,El.of_below ((Below.drew (Below.refl _ _)).alloc (Nat.le_refl _) _)⟩
set_option maxRecDepth 100000 in
theorem wpList_raw (R:RowOf enc t e k bytes) {ops:Array Oper} {rest:List Oper} {o:Oper} {a:Act} {w:World} {Q:Exit→Act→World→Prop} (hgd:o.guard=none) (s x:Operand)
  (ho:o.op=.call { callee:=.builtin .append,args:=#[s,x],argTypes:=#[t,t] }) {B B':Nat} (q:Option Addr) (n c:Nat) (hR:Raw e k B B' w q n c) (ad:Addr) (m cc:Nat) (news:List Value) (hl:news.length=m * k) (hnews:∀ j u,news[j]? = some u→w.cell? (ad.add j)=some u) (h1:∀ u ∈ news,u.oneCell'=true) (hm0:0 < m) (M:Nat) (hM:n + m=M)
  (es:a.eval s=.slice q n c) (ex:a.eval x=.slice (some ad) m cc) (hm:M≤maxLen) (hb:M * bytes≤140737488355328)
  (h:∀ g c' w',Wr [e] B B' w w'→(∃ cur:Array Value,w'.heap[g]? = some (.cells cur e (0,0))∧M * k≤cur.size)→((B≤g∧g < B') ∨ w.heap.size≤g)→M≤c'→El e k m news w w'→wpList Try.prog ops Q rest (a.put o.dst (.slice (some ⟨g,0,none⟩) M c')) w'):wpList Try.prog ops Q (o :: rest) a w:=by
 subst hM
 obtain ⟨g,c',w',hr,h2,h3,h4,h5,h6⟩:=run_raw R o.type w hR ad m cc news hl hnews h1 hm0 hm hb
 refine wpList_plain hgd fun _ hK=>?_
 unfold Oper.wp execOp
 simp only [ho,resolve,invoke,builtin,Sem.run_bind,Sem.run_pure,Result.andThen_ok,List.map_toArray,List.map_cons,List.map_nil,es,ex,hr]
 exact hK _ _ (h g c' w' h2 h3 h4 h5 h6)
end
end Go.Proofs.Ytikhopiegaoacac

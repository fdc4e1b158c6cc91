/- Rows that are written over: what stays. -/
import Derived.Test.YtdgoibnndfibnaaGreatDoorRZas
import Derived.Test.YtdgoibnndfibnaaGreatDoorRS28
namespace Go.Proofs.YtdgoibnndfibnaaGreatDoor
open Go.RowKit Go.Sort
/-- A row in the blocks from B up to B', whatever it holds. -/
def Raw (e:TypeId) (k B B':Nat) (w:World) (q:Option Addr) (n c:Nat):Prop :=
 (q=none/\n=0/\c=0) ∨ ∃ (g:Nat) (cur:Array Value),q=some ⟨g,0,none⟩/\B<=g/\g < B'/\w.heap[g]? = some (.cells cur e (0,0))/\n<=c/\c<=maxLen/\cur.size=c * k
/-- A block of e. -/
def At (e:TypeId) (g:Nat) (w:World):Prop:=∃ cur:Array Value,w.heap[g]? = some (.cells cur e (0,0))
/-- Blocks of the types S between B and B' have been written over; all else stays. -/
structure Wr (S:List TypeId) (B B':Nat) (w w':World):Prop where
 os:w'.os=w.os
 tape:w'.tape=w.tape
 output:w'.output=w.output
 size:w.heap.size<=w'.heap.size
 past:∀ k,k < w.heap.size->(k < B ∨ B'<=k)->w'.heap[k]? = w.heap[k]?
 shape:∀ (g:Nat) (cur:Array Value) (t:TypeId),w.heap[g]? = some (.cells cur t (0,0))->∃ cur':Array Value,w'.heap[g]? = some (.cells cur' t (0,0))/\cur'.size=cur.size/\(t ∉ S->cur'=cur)
theorem Wr.refl (S:List TypeId) (B B':Nat) (w:World):Wr S B B' w w:=⟨rfl,rfl,rfl,Nat.le_refl _,fun _ _ _=>rfl,fun _ cur _ h=>⟨cur,h,rfl,fun _=>rfl⟩⟩
theorem Wr.trans {S:List TypeId} {B B':Nat} {a b c:World} (h:Wr S B B' a b) (h2:Wr S B B' b c):Wr S B B' a c :=
 ⟨h2.os.trans h.os,h2.tape.trans h.tape,h2.output.trans h.output,Nat.le_trans h.size h2.size,fun k hk hn=>(h2.past k (Nat.lt_of_lt_of_le hk h.size) hn).trans (h.past k hk hn),fun g cur t hg=>by
  obtain ⟨c1,h3,h4,h5⟩:=h.shape g cur t hg
  obtain ⟨c2,h6,h7,h8⟩:=h2.shape g c1 t h3
  exact ⟨c2,h6,h7.trans h4,fun ht=>(h8 ht).trans (h5 ht)⟩⟩
theorem Wr.mono {S T:List TypeId} {B B':Nat} {a b:World} (h:Wr S B B' a b) (hs:∀ t ∈ S,t ∈ T):Wr T B B' a b :=
 ⟨h.os,h.tape,h.output,h.size,h.past,fun g cur t hg=>by
  obtain ⟨c1,h3,h4,h5⟩:=h.shape g cur t hg
  exact ⟨c1,h3,h4,fun ht=>h5 (fun h6=>ht (hs t h6))⟩⟩
theorem Wr.of_below {w w':World} (S:List TypeId) (B B':Nat) (h:Below w.heap.size w w'):Wr S B B' w w' :=
 ⟨h.os,h.tape,h.output,h.size,fun k hk _=>h.block k hk,fun _ cur _ hg=>⟨cur,blk_onS hg h,rfl,fun _=>rfl⟩⟩
theorem Wr.alloc {S:List TypeId} {B B':Nat} {w w':World} (h:Wr S B B' w w') (o:Obj):Wr S B B' w (w'.alloc o):=h.trans (Wr.of_below S B B' ((Below.refl _ _).alloc (Nat.le_refl _) o))
theorem Wr.above {S:List TypeId} {B B':Nat} {w w':World} (h:Wr S B B' w w') (hb:B'<=B):Below w.heap.size w w':=⟨h.os,h.tape,h.output,h.size,fun k hk=>h.past k hk (by omega)⟩
/-- What lies from B' on stays; so does what lay ahead of B. -/
theorem Wr.below {S:List TypeId} {B B':Nat} {w w':World} (h:Wr S B B' w w') (hb:B<=w.heap.size):Below B w w':=⟨h.os,h.tape,h.output,h.size,fun k hk=>h.past k (by omega) (Or.inl hk)⟩
theorem set_at {w:World} {g:Nat} {cur:Array Value} {t:TypeId} (h:w.heap[g]? = some (.cells cur t (0,0))) (o:Nat) (v:Value):∃ cur':Array Value,(w.setCell ⟨g,o,none⟩ v).heap[g]? = some (.cells cur' t (0,0))/\cur'.size=cur.size:=by
 simp [World.setCell,Array.getElem?_modify,h]
theorem At.set {e:TypeId} {g:Nat} {w:World} (h:At e g w) (g' o:Nat) (v:Value):At e g (w.setCell ⟨g',o,none⟩ v):=by
 obtain ⟨cur,h⟩:=h
 by_cases hg:g=g'
 ·subst hg
  obtain ⟨c',h1,_⟩:=set_at h o v
  exact ⟨c',h1⟩
 ·exact ⟨cur,(Below.heap_setCell _ _ _ _ hg).trans h⟩
theorem Wr.set {S:List TypeId} {B B':Nat} {w w1:World} {e:TypeId} {g:Nat} (h:Wr S B B' w w1) (ha:At e g w1) (he:e ∈ S) (hg:(B<=g/\g < B') ∨ w.heap.size<=g) (o:Nat) (v:Value):Wr S B B' w (w1.setCell ⟨g,o,none⟩ v):=by
 have hb:=(Below.refl 0 w1).setCell (p:=⟨g,o,none⟩) (Nat.zero_le _) v
 refine ⟨hb.os.trans h.os,hb.tape.trans h.tape,hb.output.trans h.output,Nat.le_trans h.size hb.size,fun k hk hn=>(Below.heap_setCell _ _ _ _ (fun e=>by
  simp only at e
  omega)).trans (h.past k hk hn),fun k cur t hk=>?_⟩
 obtain ⟨c1,h3,h4,h5⟩:=h.shape k cur t hk
 by_cases hkg:k=g
 ·subst hkg
  obtain ⟨c0,h6⟩:=ha
  rw [h3] at h6
  injection h6 with h6
  injection h6 with _ h7 _
  subst h7
  obtain ⟨c2,h8,h9⟩:=set_at h3 o v
  exact ⟨c2,h8,h9.trans h4,fun ht=>absurd he ht⟩
 ·exact ⟨c1,(Below.heap_setCell _ _ _ _ hkg).trans h3,h4,h5⟩
theorem Raw.wr {S:List TypeId} {e:TypeId} {k B B' C C':Nat} {w w':World} {q:Option Addr} {n c:Nat} (h:Raw e k B B' w q n c) (hw:Wr S C C' w w'):Raw e k B B' w' q n c:=by
 rcases h with h | ⟨g,cur,h1,h2,h3,h4,h5,h6,h7⟩
 ·exact Or.inl h
 ·obtain ⟨c',h8,h9,_⟩:=hw.shape g cur e h4
  exact Or.inr ⟨g,c',h1,h2,h3,h8,h5,h6,h9.trans h7⟩
theorem Raw.at {e:TypeId} {k B B':Nat} {w:World} {q:Option Addr} {n c:Nat} (h:Raw e k B B' w q n c) (hn:0 < n):∃ g,q=some ⟨g,0,none⟩/\B<=g/\g < B'/\At e g w/\(∀ j,j < n * k->∃ v,w.cell? ⟨g,j,none⟩=some v)/\∀ o,w.frozen? ⟨g,o,none⟩=false:=by
 rcases h with ⟨_,h,_⟩ | ⟨g,cur,h1,h2,h3,h4,h5,h6,h7⟩
 ·omega
 ·refine ⟨g,h1,h2,h3,⟨cur,h4⟩,fun j hj=>?_,fun o=>frozen_free h4⟩
  have hlt:j < cur.size:=by rw [h7];exact Nat.lt_of_lt_of_le hj (Nat.mul_le_mul_right _ h5)
  exact ⟨cur[j],by rw [cell_of_row w g j cur e (0,0) h4];exact Array.getElem?_eq_getElem hlt⟩
theorem OwnK.raw {α:Type} [Inhabited α] {enc:α->List Value} {e:TypeId} {k B B':Nat} {w w':World} {q:Option Addr} {c:Nat} {l:List α} (h:OwnK enc e k B w q c l) (hb:w.heap.size<=B') {S:List TypeId} {C C':Nat} (hw:Wr S C C' w w'):Raw e k B B' w' q l.length c:=by
 have h0:Raw e k B B' w q l.length c:=by
  rcases h.2 with ⟨h1,h2⟩ | ⟨g,cap,cur,h1,h2,h3,h4,h5,h6,_⟩
  ·injection h1 with h1 h3 h4
   exact Or.inl ⟨h1,h2,h4⟩
  ·injection h1 with h1 _ h7
   subst h7
   exact Or.inr ⟨g,cur,h1,h2,Nat.lt_of_lt_of_le (heap_lt h3) hb,h3,h4,h5,h6⟩
 exact h0.wr hw
/-- A row from B' on stays. -/
theorem OwnK.past {α:Type} [Inhabited α] {enc:α->List Value} {e:TypeId} {k B B':Nat} {w w':World} {q:Option Addr} {c:Nat} {l:List α} {S:List TypeId} (h:OwnK enc e k B' w q c l) (hw:Wr S B B' w w'):OwnK enc e k B' w' q c l:=by
 refine ⟨h.1, ?_⟩
 rcases h.2 with h0 | ⟨g,cap,cur,h1,h2,h3,h4⟩
 ·exact Or.inl h0
 ·exact Or.inr ⟨g,cap,cur,h1,h2,(hw.past g (heap_lt h3) (Or.inr h2)).trans h3,h4⟩
theorem OpOwn.past {B B':Nat} {w w':World} {u:Ou} {o:Sop} {S:List TypeId} (h:OpOwn B' w u o) (hw:Wr S B B' w w'):OpOwn B' w' u o:=⟨h.1,h.2,h.3,h.4,h.5,h.6,h.7,h.8.past hw,h.9.past hw⟩
theorem Rows.past {B B':Nat} {w w':World} {qa:Option Addr} {ca:Nat} {qo:Option Addr} {co:Nat} {us:List Ou} {s:Scr} {S:List TypeId} (h:Rows B' w qa ca qo co us s) (hw:Wr S B B' w w'):Rows B' w' qa ca qo co us s:=⟨h.1.past hw,h.2.past hw,h.3.map fun _ _ h=>h.past hw⟩
section
variable {α : Type} [Inhabited α] {enc : α -> List Value} {t e : TypeId} {k bytes : Nat}
theorem run_raw (R:RowOf enc t e k bytes) (ty:TypeId) (w:World) {B B':Nat} {q:Option Addr} {n c:Nat} (hR:Raw e k B B' w q n c) (a:Addr) (m cc:Nat) (news:List Value) (hl:news.length=m * k) (hnews:∀ j u,news[j]? = some u->w.cell? (a.add j)=some u) (h1:∀ u ∈ news,u.oneCell'=true) (hm0:0 < m) (hm:n + m<=maxLen) (hb:(n + m) * bytes<=140737488355328) :
  ∃ g c' w',(Builtin.append_ #[t,t] ty #[.slice q n c,.slice (some a) m cc]).run Tryz.prog w=.ok (.slice (some ⟨g,0,none⟩) (n + m) c') w'/\Wr [e] B B' w w'/\(∃ cur:Array Value,w'.heap[g]? = some (.cells cur e (0,0))/\(n + m) * k<=cur.size)/\((B<=g/\g < B') ∨ w.heap.size<=g)/\n + m<=c':=by
 obtain ⟨i0,z,hi,hz,hsz,hby,hzs⟩:=R.info
 subst hsz;subst hby
 have hml:n + m<=9223372036854775807:=by simp only [maxLen] at hm;omega
 have new:∀ (old:Nat) (xs:List Value),xs.length=n * i0.size->Wr [e] B B' w (w.drew.alloc (.cells (xs.toArray ++ news.toArray ++ Builtin.zeroCells z.cells (grownCap w (n + m) old e - (n + m))) e))/\(∃ cur:Array Value,(w.drew.alloc (.cells (xs.toArray ++ news.toArray ++ Builtin.zeroCells z.cells (grownCap w (n + m) old e - (n + m))) e)).heap[w.heap.size]? = some (.cells cur e (0,0))/\(n + m) * i0.size<=cur.size):=by
  intro old xs hx
  refine ⟨Wr.of_below _ _ _ ((Below.drew (Below.refl _ _)).alloc (Nat.le_refl _) _),_,heap_alloc_new w.drew _, ?_⟩
  simp only [Array.size_append,List.size_toArray,hx,hl,<- Nat.add_mul]
  omega
 rcases hR with ⟨rfl,rfl,rfl⟩ | ⟨g,cur,rfl,h2,h3,h4,h5,h6,h7⟩
 ·have hr:=run_append_nil (P:=Tryz.prog) w t ty e i0 z R.und hi hz a m cc news hl hnews hm0 (by omega) (by have hb:=hb;simp only [Nat.zero_add] at hb;omega)
  obtain ⟨n1,n2⟩:=new 0 [] (by simp)
  simp only [Nat.zero_add,Array.empty_append] at n1 n2 ⊢
  exact ⟨_,_,_,hr,n1,n2,Or.inr (Nat.le_refl _),grownCap_ge w m 0 e⟩
 ·by_cases hroom:n + m<=c
  ·have hfit:n * i0.size + news.length<=cur.size:=by rw [hl,h7,<- Nat.add_mul];exact Nat.mul_le_mul_right _ hroom
   have hr:=run_append_room (P:=Tryz.prog) w t ty e i0 R.und hi g n c cur h4 a m cc news hl hnews h1 hroom hfit
   have hsz:(cur.toList.take (n * i0.size) ++ news ++ cur.toList.drop (n * i0.size + news.length)).toArray.size=cur.size:=by
    simp only [List.size_toArray,List.length_append,List.length_take,List.length_drop,Array.length_toList]
    omega
   refine ⟨_,_,_,hr,⟨rfl,rfl,rfl,by simp [World.setRow],fun j hj hn=>setRow_other w g j _ (by omega),fun j cur2 t2 hj=>?_⟩,⟨_,setRow_heap w g cur _ e _ h4,by rw [hsz,h7];exact Nat.mul_le_mul_right _ hroom⟩,Or.inl ⟨h2,h3⟩,hroom⟩
   by_cases hjg:j=g
   ·subst hjg
    rw [h4] at hj
    injection hj with hj
    injection hj with e1 e2 _
    subst e1 e2
    exact ⟨_,setRow_heap w j cur _ e _ h4,hsz,fun ht=>absurd (List.mem_singleton.2 rfl) ht⟩
   ·exact ⟨cur2,(setRow_other w g j _ hjg).trans hj,rfl,fun _=>rfl⟩
  ·have hxl:(cur.toList.take (n * i0.size)).length=n * i0.size:=by
    rw [List.length_take,Array.length_toList,h7]
    exact Nat.min_eq_left (Nat.mul_le_mul_right _ h5)
   have holds:∀ j u,(cur.toList.take (n * i0.size))[j]? = some u->w.cell? ((⟨g,0,none⟩:Addr).add j)=some u:=by
    intro j u hu
    rw [add_plain,Nat.zero_add,cell_of_row w g j cur e (0,0) h4]
    rw [List.getElem?_take] at hu
    split at hu
    ·simpa using hu
    ·cases hu
   have hr:=run_append_grow (P:=Tryz.prog) w t ty e i0 z R.und hi hz ⟨g,0,none⟩ n c _ hxl holds a m cc news hl hnews (by omega) (by omega) (growslice_fits (by omega) hb)
   obtain ⟨n1,n2⟩:=new c _ hxl
   exact ⟨_,_,_,hr,n1,n2,Or.inr (Nat.le_refl _),grownCap_ge w (n + m) c e⟩
theorem wpList_raw (R:RowOf enc t e k bytes) {ops:Array Oper} {rest:List Oper} {o:Oper} {a:Act} {w:World} {Q:Exit->Act->World->Prop} (hgd:o.guard=none) (s x:Operand)
  (ho:o.op=.call { callee:=.builtin .append,args:=#[s,x],argTypes:=#[t,t] }) {B B':Nat} (q:Option Addr) (n c:Nat) (hR:Raw e k B B' w q n c) (ad:Addr) (m cc:Nat) (news:List Value) (hl:news.length=m * k) (hnews:∀ j u,news[j]? = some u->w.cell? (ad.add j)=some u) (h1:∀ u ∈ news,u.oneCell'=true) (hm0:0 < m) (M:Nat) (hM:n + m=M)
  (es:a.eval s=.slice q n c) (ex:a.eval x=.slice (some ad) m cc) (hm:M<=maxLen) (hb:M * bytes<=140737488355328)
  (h:∀ g c' w',Wr [e] B B' w w'->(∃ cur:Array Value,w'.heap[g]? = some (.cells cur e (0,0))/\M * k<=cur.size)->((B<=g/\g < B') ∨ w.heap.size<=g)->M<=c'->wpList Tryz.prog ops Q rest (a.put o.dst (.slice (some ⟨g,0,none⟩) M c')) w'):wpList Tryz.prog ops Q (o :: rest) a w:=by
 subst hM
 obtain ⟨g,c',w',hr,h2,h3,h4,h5⟩:=run_raw R o.type w hR ad m cc news hl hnews h1 hm0 hm hb
 refine wpList_plain hgd fun _ hK=>?_
 unfold Oper.wp execOp
 simp only [ho,resolve,invoke,builtin,Sem.run_bind,Sem.run_pure,Result.andThen_ok,List.map_toArray,List.map_cons,List.map_nil,es,ex,hr]
 exact hK _ _ (h g c' w' h2 h3 h4 h5)
end
end Go.Proofs.YtdgoibnndfibnaaGreatDoor
namespace Go.Proofs.YtdgoibnndfibnaaGreatDoor
open Go.RowKit Go.Sort
def nwI:Array Value:=#[.int .i64 (-5),.int .i64 (-6)]
set_option maxHeartbeats 4000000 in
set_option maxRecDepth 100000 in
theorem over_46 (B B':Nat) (q:Option Addr) (n c:Nat) (w:World) (hl:n<=1000000000) (hR:Raw 3 1 B B' w q n c) :
  Calls Tryz.prog 46 #[.slice q n c] w fun e w'=>e=.returned (.tuple #[])/\Wr [3] B B' w w':=by
 have mixed:Tryz.prog.follows .mixedOrders=true:=by kernel_rfl
 have HR:=hide hR
 have n0:(0:Int)<=(n:Int):=by omega
 have n9:(n:Int)<=1000000000:=by omega
 clear hR
 go_enter Tryz.func46,Tryz.ntmps46
 go_wp2
 go_loopw [6] (fun i wr=>∃ k:Nat,k<=n/\i=.int .i64 k/\Hid (Wr [3] B B' w wr)) (fun i _=>n - (intOf i).toNat)
 case atStart=>exact ⟨0,by omega,rfl,hide (Wr.refl _ _ _ _)⟩
 case round =>
  obtain ⟨k,hk,rfl,Hwr⟩:=hrel
  have Hrow:=hide ((uh HR).wr (uh Hwr))
  by_cases hlt:k < n
  ·have k0:(0:Int)<=(k:Int):=by omega
   have k1:(k:Int) < (n:Int):=by omega
   obtain ⟨g,rfl,hB,hB2,hat,hcell,ff⟩:=(uh Hrow).at (by omega)
   obtain ⟨v0,e0⟩:=hcell (k) (by omega)
   have HAT:=hide hat
   clear hcell hat
   go_wp2
   exact ⟨⟨k + 1,by omega,congrArg (Value.int .i64) (by omega),hide ((uh Hwr).set (uh HAT) (by simp) (Or.inl ⟨hB,hB2⟩) _ _)⟩,by simp [intOf];omega⟩
  ·obtain rfl:k=n:=by omega
   have m1:(k:Int) < (k:Int) + 2:=by omega
   go_wp2_with (at_builtin;refine wpList_raw rowI rfl _ _ rfl (B:=B) (B':=B') q k c ((uh Hrow).wr (Wr.of_below [] 0 0 (Below.alloc (Below.refl _ _) (Nat.le_refl _) _))) ⟨wr.heap.size,0,none⟩ 2 2 nwI.toList rfl (World.news_of_block (heap_alloc_new wr _)) (by decide) (by decide) (k + 2) rfl rfl rfl (by unfold maxLen;omega) (by omega) ?_;intro g2 c2 w2 hw2 hc2 hg2 hm2;have HW2:=hide hw2;obtain ⟨cur2,hcur,hcs⟩:=hc2;have c0:w2.cell? ⟨g2,k,none⟩=some (cur2[k]'(by omega)):=(by rw [cell_of_row w2 g2 _ cur2 3 (0,0) hcur];exact Array.getElem?_eq_getElem (by omega));obtain ⟨vv,cc⟩:∃ v,w2.cell? ⟨g2,k,none⟩=some v:=⟨_,c0⟩;have ff2:∀ o,w2.frozen? ⟨g2,o,none⟩=false:=(fun o=>frozen_free hcur);have HAT:=hide (show At 3 g2 w2 from ⟨cur2,hcur⟩);have HG2:=hide hg2;clear c0 hcur hcs hw2 hg2)
   have Hend:Hid (Wr [3] B B' w (w2.setCell ⟨g2,k,none⟩ (.int .i64 (-7)))):=hide (by
    have h1:Wr [3] B B' w (wr.alloc (.cells nwI 3)):=(uh Hwr).alloc _
    refine (h1.trans (uh HW2)).set (uh HAT) (by simp) ?_ _ _
    rcases uh HG2 with h | h
    ·exact Or.inl h
    ·exact Or.inr (Nat.le_trans h1.size h))
   go_wp2
   exact bodyPost_end (v:=.tuple #[]) (by simp [results,Tryz.results46,go_sem]) rfl ⟨rfl,uh Hend⟩
def nwQ:Array Value:=#[.string ⟨#[]⟩,.int .i64 0,.int .i64 0,.string ⟨#[]⟩,.string ⟨#[]⟩,.int .i64 0,.int .i64 0,.string ⟨#[]⟩]
set_option maxHeartbeats 4000000 in
set_option maxRecDepth 100000 in
theorem over_47 (B B':Nat) (q:Option Addr) (n c:Nat) (w:World) (hl:n<=1000000000) (hR:Raw 78 4 B B' w q n c) :
  Calls Tryz.prog 47 #[.slice q n c] w fun e w'=>e=.returned (.tuple #[])/\Wr [78] B B' w w':=by
 have mixed:Tryz.prog.follows .mixedOrders=true:=by kernel_rfl
 have HR:=hide hR
 have n0:(0:Int)<=(n:Int):=by omega
 have n9:(n:Int)<=1000000000:=by omega
 clear hR
 go_enter Tryz.func47,Tryz.ntmps47
 go_wp2
 go_loopw [6] (fun i wr=>∃ k:Nat,k<=n/\i=.int .i64 k/\Hid (Wr [78] B B' w wr)) (fun i _=>n - (intOf i).toNat)
 case atStart=>exact ⟨0,by omega,rfl,hide (Wr.refl _ _ _ _)⟩
 case round =>
  obtain ⟨k,hk,rfl,Hwr⟩:=hrel
  have Hrow:=hide ((uh HR).wr (uh Hwr))
  by_cases hlt:k < n
  ·have k0:(0:Int)<=(k:Int):=by omega
   have k1:(k:Int) < (n:Int):=by omega
   obtain ⟨g,rfl,hB,hB2,hat,hcell,ff⟩:=(uh Hrow).at (by omega)
   obtain ⟨v0,e0⟩:=hcell (k * 4) (by omega)
   obtain ⟨v1,e1⟩:=hcell (k * 4 + 1) (by omega)
   obtain ⟨v2,e2⟩:=hcell (k * 4 + 2) (by omega)
   obtain ⟨v3,e3⟩:=hcell (k * 4 + 3) (by omega)
   have HAT:=hide hat
   clear hcell hat
   go_wp2
   exact ⟨⟨k + 1,by omega,congrArg (Value.int .i64) (by omega),hide (((((uh Hwr).set (uh HAT) (by simp) (Or.inl ⟨hB,hB2⟩) _ _).set ((uh HAT).set _ _ _) (by simp) (Or.inl ⟨hB,hB2⟩) _ _).set (((uh HAT).set _ _ _).set _ _ _) (by simp) (Or.inl ⟨hB,hB2⟩) _ _).set ((((uh HAT).set _ _ _).set _ _ _).set _ _ _) (by simp) (Or.inl ⟨hB,hB2⟩) _ _)⟩,by simp [intOf];omega⟩
  ·obtain rfl:k=n:=by omega
   have m1:(k:Int) < (k:Int) + 2:=by omega
   go_wp2_with (at_builtin;refine wpList_raw rowQ rfl _ _ rfl (B:=B) (B':=B') q k c ((uh Hrow).wr (Wr.of_below [] 0 0 (Below.alloc (Below.refl _ _) (Nat.le_refl _) _))) ⟨wr.heap.size,0,none⟩ 2 2 nwQ.toList rfl (World.news_of_block (heap_alloc_new wr _)) (by decide) (by decide) (k + 2) rfl rfl rfl (by unfold maxLen;omega) (by omega) ?_;intro g2 c2 w2 hw2 hc2 hg2 hm2;have HW2:=hide hw2;obtain ⟨cur2,hcur,hcs⟩:=hc2;have c0:w2.cell? ⟨g2,k * 4,none⟩=some (cur2[k * 4]'(by omega)):=(by rw [cell_of_row w2 g2 _ cur2 78 (0,0) hcur];exact Array.getElem?_eq_getElem (by omega));obtain ⟨vv,cc⟩:∃ v,w2.cell? ⟨g2,k * 4,none⟩=some v:=⟨_,c0⟩;have ff2:∀ o,w2.frozen? ⟨g2,o,none⟩=false:=(fun o=>frozen_free hcur);have HAT:=hide (show At 78 g2 w2 from ⟨cur2,hcur⟩);have HG2:=hide hg2;clear c0 hcur hcs hw2 hg2)
   have Hend:Hid (Wr [78] B B' w (w2.setCell ⟨g2,k * 4,none⟩ (.string ⟨#[103,114,111,119,110]⟩))):=hide (by
    have h1:Wr [78] B B' w (wr.alloc (.cells nwQ 78)):=(uh Hwr).alloc _
    refine (h1.trans (uh HW2)).set (uh HAT) (by simp) ?_ _ _
    rcases uh HG2 with h | h
    ·exact Or.inl h
    ·exact Or.inr (Nat.le_trans h1.size h))
   go_wp2
   exact bodyPost_end (v:=.tuple #[]) (by simp [results,Tryz.results47,go_sem]) rfl ⟨rfl,uh Hend⟩
end Go.Proofs.YtdgoibnndfibnaaGreatDoor
namespace Go.Proofs.YtdgoibnndfibnaaGreatDoor
open Go.RowKit Go.Sort
/-- The lists of a script that is written over: in the blocks from B up to B'. -/
structure OvS (B B':Nat) (w:World) (qa:Option Addr) (na ca:Nat) (qo:Option Addr) (co:Nat) (us:List Ou):Prop where
 at':Raw 62 2 B B' w qa na ca
 op:Raw 42 7 B B' w qo us.length co
 nums:∀ (j:Nat) (u:Ou),us[j]? = some u->Raw 3 1 B B' w u.qn u.nn u.cn/\u.nn<=1000000000
 ev:∀ (j:Nat) (u:Ou),us[j]? = some u->Raw 78 4 B B' w u.qe u.ne u.ce/\u.ne<=1000000000
theorem OvS.wr {B B' C C':Nat} {w w':World} {qa:Option Addr} {na ca:Nat} {qo:Option Addr} {co:Nat} {us:List Ou} {S:List TypeId} (h:OvS B B' w qa na ca qo co us) (hw:Wr S C C' w w'):OvS B B' w' qa na ca qo co us :=
 ⟨h.1.wr hw,h.2.wr hw,fun j u hu=>⟨(h.3 j u hu).1.wr hw,(h.3 j u hu).2⟩,fun j u hu=>⟨(h.4 j u hu).1.wr hw,(h.4 j u hu).2⟩⟩
/-- The lists of the ops, as the row of the ops has them. -/
def OpL (w:World) (qo:Option Addr) (us:List Ou):Prop:=∀ g,qo=some ⟨g,0,none⟩->∀ (j:Nat) (u:Ou),us[j]? = some u->w.cell? ⟨g,j * 7 + 5,none⟩=some (.slice u.qe u.ne u.ce)/\w.cell? ⟨g,j * 7 + 6,none⟩=some (.slice u.qn u.nn u.cn)
theorem OpL.wr {B B' C C':Nat} {w w':World} {qo:Option Addr} {n co:Nat} {us:List Ou} {S:List TypeId} (h:OpL w qo us) (hR:Raw 42 7 B B' w qo n co) (hw:Wr S C C' w w') (hS:42 ∉ S):OpL w' qo us:=by
 intro g hg j u hu
 obtain ⟨h5,h6⟩:=h g hg j u hu
 rcases hR with ⟨h0,_⟩ | ⟨g',cur,h1,_,_,h4,_⟩
 ·rw [h0] at hg;cases hg
 ·rw [h1] at hg
  injection hg with hg
  injection hg with hg
  subst hg
  obtain ⟨c',h7,_,h8⟩:=hw.shape _ cur 42 h4
  have he:w'.heap[g']? = w.heap[g']?:=by rw [h7,h4,h8 hS]
  exact ⟨(World.cell?_of_block he).trans h5,(World.cell?_of_block he).trans h6⟩
theorem OpL.set {w:World} {g:Nat} {us:List Ou} (h:OpL w (some ⟨g,0,none⟩) us) (k:Nat) (v:Value):OpL (w.setCell ⟨g,k * 7,none⟩ v) (some ⟨g,0,none⟩) us:=by
 intro g' hg j u hu
 injection hg with hg
 injection hg with hg
 subst hg
 obtain ⟨h5,h6⟩:=h g rfl j u hu
 constructor
 ·rw [World.cell?_setCell_other _ _ _ _ (fun e=>by injection e with _ e;omega)]
  exact h5
 ·rw [World.cell?_setCell_other _ _ _ _ (fun e=>by injection e with _ e;omega)]
  exact h6
theorem OpL.of {B:Nat} {w:World} {qo:Option Addr} {co:Nat} {us:List Ou} (h:OwnK encO 42 7 B w qo co us):OpL w qo us:=by
 intro g hg j u hu
 obtain ⟨b,off,hq,_,hc⟩:=h.ls.2.2.2.at hu
 rw [hg] at hq
 injection hq with hq
 injection hq with e1 e2
 subst e1 e2
 have h5:=hc 5 (by omega)
 have h6:=hc 6 (by omega)
 rw [Nat.zero_add] at h5 h6
 exact ⟨h5,h6⟩
set_option maxHeartbeats 8000000 in
set_option maxRecDepth 100000 in
theorem over_20 (B B':Nat) (w:World) (hB:B'<=w.heap.size) (C:Cfg) (qa:Option Addr) (na ca:Nat) (qo:Option Addr) (co:Nat) (us:List Ou) (hS:OvS B B' w qa na ca qo co us) (hL:OpL w qo us) (hna:na<=1000000000) (hno:us.length<=1000000000) :
  Calls Tryz.prog 20 #[.agg #[.int .i64 C.d,.int .i64 C.c,.int .i64 C.s,.int .i64 C.t,.int .i64 C.h,.int .i64 C.q,.int .i64 C.w,.int .i64 C.u,.slice qa na ca,.slice qo us.length co]] w fun e w'=>e=.returned (.tuple #[])/\Wr [62,3,78,42] B B' w w':=by
 have mixed:Tryz.prog.follows .mixedOrders=true:=by kernel_rfl
 obtain ⟨X,HX⟩:∃ X,w.alloc (.cells #[.int .i64 C.d,.int .i64 C.c,.int .i64 C.s,.int .i64 C.t,.int .i64 C.h,.int .i64 C.q,.int .i64 C.w,.int .i64 C.u,.slice qa na ca,.slice qo us.length co] 29)=X:=⟨_,rfl⟩
 have bX:Below w.heap.size w X:=by rw [<- HX];exact (Below.refl _ _).alloc (Nat.le_refl _) _
 have hx:X.heap[w.heap.size]? = some (.cells #[.int .i64 C.d,.int .i64 C.c,.int .i64 C.s,.int .i64 C.t,.int .i64 C.h,.int .i64 C.q,.int .i64 C.w,.int .i64 C.u,.slice qa na ca,.slice qo us.length co] 29 (0,0)):=by rw [<- HX];exact box_new _ _
 obtain ⟨c0,c1,c2,c3,c4,c5,c6,c7,c8,c9,cf⟩:=of10z hx
 have HXB:=hide hx
 have HWX:=hide (Wr.of_below [62,3,78,42] B B' bX)
 have HS:=hide (hS.wr (Wr.of_below [] B B' bX))
 have HL:=hide (hL.wr hS.op (Wr.of_below [] B B' bX) (by simp))
 have a0:(0:Int)<=(na:Int):=by omega
 have a9:(na:Int)<=1000000000:=by omega
 have o0:(0:Int)<=(us.length:Int):=by omega
 have o9:(us.length:Int)<=1000000000:=by omega
 clear bX hx hS hL
 go_enter Tryz.func20,Tryz.ntmps20
 go_wp2
 clear c0 c1 c2 c3 c4 c5 c6 c7 c8 c9 cf
 go_loopw [7] (fun i wr=>∃ k:Nat,k<=na/\i=.int .i64 k/\Hid (Wr [62] B B' X wr)) (fun i _=>na - (intOf i).toNat)
 case atStart=>exact ⟨0,by omega,rfl,hide (Wr.refl _ _ _ _)⟩
 case round =>
  obtain ⟨k,hk,rfl,Hwr⟩:=hrel
  obtain ⟨c0,c1,c2,c3,c4,c5,c6,c7,c8,c9,cf⟩:=of10z (((uh Hwr).past w.heap.size (heap_lt (uh HXB)) (Or.inr hB)).trans (uh HXB))
  by_cases hlt:k < na
  ·have k0:(0:Int)<=(k:Int):=by omega
   have k1:(k:Int) < (na:Int):=by omega
   obtain ⟨g,rfl,hB1,hB2,hat,hcell,ff⟩:=((uh HS).at'.wr (uh Hwr)).at (by omega)
   obtain ⟨v0,e0⟩:=hcell (k * 2) (by omega)
   have HAT:=hide hat
   clear hcell hat
   go_wp2
   exact ⟨⟨k + 1,by omega,congrArg (Value.int .i64) (by omega),hide ((uh Hwr).set (uh HAT) (by simp) (Or.inl ⟨hB1,hB2⟩) _ _)⟩,by simp [intOf];omega⟩
  ·obtain rfl:k=na:=by omega
   go_wp2
   clear c0 c1 c2 c3 c4 c5 c6 c7 c8 c9 cf
   go_loopw [19] (fun i wr'=>∃ k:Nat,k<=us.length/\i=.int .i64 k/\Hid (Wr [62,3,78,42] B B' X wr')/\Hid (OpL wr' qo us)) (fun i _=>us.length - (intOf i).toNat)
   case atStart=>exact ⟨0,by omega,rfl,hide ((uh Hwr).mono (by simp)),hide ((uh HL).wr (uh HS).op (uh Hwr) (by decide))⟩
   case round =>
    clear Hwr hk hlt a0 a9
    obtain ⟨k,hk,rfl,Hw2,HL2⟩:=hrel
    obtain ⟨c0,c1,c2,c3,c4,c5,c6,c7,c8,c9,cf⟩:=of10z (((uh Hw2).past w.heap.size (heap_lt (uh HXB)) (Or.inr hB)).trans (uh HXB))
    by_cases hlt:k < us.length
    ·have k0:(0:Int)<=(k:Int):=by omega
     have k1:(k:Int) < (us.length:Int):=by omega
     obtain ⟨u,hu,_⟩:=get_at hlt
     have HU:=hide hu
     obtain ⟨g,rfl,hB1,hB2,hat,hcell,ff⟩:=((uh HS).op.wr (uh Hw2)).at (by omega)
     obtain ⟨v0,e0⟩:=hcell (k * 7) (by omega)
     obtain ⟨e5,e6⟩:=(uh HL2) g rfl k u hu
     clear hcell hat hu
     go_wp2_with (first
      | (go_at_call 46;refine (over_46 B B' _ _ _ _ ((uh HS).nums k u (uh HU)).2 (((uh HS).nums k u (uh HU)).1.wr (uh Hw2))).mono ?_;rintro e w1 ⟨rfl,ho⟩;have HW3:=hide ((uh Hw2).trans (ho.mono (by simp)));have HL3:=hide ((uh HL2).wr ((uh HS).op.wr (uh Hw2)) ho (by decide));clear c0 c1 c2 c3 c4 c5 c6 c7 c8 c9 cf e5 e6 v0 e0 ff ho;obtain ⟨c0,c1,c2,c3,c4,c5,c6,c7,c8,c9,cf⟩:=of10z (((uh HW3).past w.heap.size (heap_lt (uh HXB)) (Or.inr hB)).trans (uh HXB));obtain ⟨e5,e6⟩:=(uh HL3) g rfl k u (uh HU);obtain ⟨_,qg,_,_,hat,hcell,ff⟩:=((uh HS).op.wr (uh HW3)).at (by omega);injection qg with qg;injection qg with qg;subst qg;obtain ⟨v0,e0⟩:=hcell (k * 7) (by omega);have HAT:=hide hat;clear hcell hat)
      | (go_at_call 47;refine (over_47 B B' _ _ _ _ ((uh HS).ev k u (uh HU)).2 (((uh HS).ev k u (uh HU)).1.wr (uh HW3))).mono ?_;rintro e w2 ⟨rfl,ho⟩;have HW4:=hide ((uh HW3).trans (ho.mono (by simp)));have HL4:=hide ((uh HL3).wr ((uh HS).op.wr (uh HW3)) ho (by decide));clear c0 c1 c2 c3 c4 c5 c6 c7 c8 c9 cf e5 e6 v0 e0 ff ho;obtain ⟨c0,c1,c2,c3,c4,c5,c6,c7,c8,c9,cf⟩:=of10z (((uh HW4).past w.heap.size (heap_lt (uh HXB)) (Or.inr hB)).trans (uh HXB));obtain ⟨e5,e6⟩:=(uh HL4) g rfl k u (uh HU);obtain ⟨_,qg,_,_,hat,hcell,ff⟩:=((uh HS).op.wr (uh HW4)).at (by omega);injection qg with qg;injection qg with qg;subst qg;obtain ⟨v0,e0⟩:=hcell (k * 7) (by omega);have HAT:=hide hat;clear hcell hat))
     exact ⟨⟨k + 1,by omega,congrArg (Value.int .i64) (by omega),hide ((uh HW4).set (uh HAT) (by simp) (Or.inl ⟨hB1,hB2⟩) _ _),hide ((uh HL4).set k _)⟩,by simp [intOf];omega⟩
    ·have k1:¬ (k:Int) < (us.length:Int):=by omega
     go_wp2
     exact bodyPost_end (v:=.tuple #[]) (by simp [results,Tryz.results20,go_sem]) rfl ⟨rfl,(uh HWX).trans (uh Hw2)⟩
end Go.Proofs.YtdgoibnndfibnaaGreatDoor

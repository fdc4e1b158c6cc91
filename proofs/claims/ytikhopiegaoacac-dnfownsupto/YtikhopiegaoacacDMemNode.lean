/- trommelmem.Node: a deep copy of a tree, with spare room behind each list. -/
import Derived.Test.YtikhopiegaoacacDKept
import Derived.Test.YtikhopiegaoacacDCloneTree
import Derived.Test.YtikhopiegaoacacDFixPlain
import Derived.Lib.QuietBelow
namespace Go.Proofs.Ytikhopiegaoacac
open Go.RowKit Go.Sort

def spV:Nv:=⟨0,⟨#[]⟩,none,0,0,none,0,0,0,0,77,none,0,0⟩
theorem LsOf.up {α:Type} [Inhabited α] {enc:α→List Value} {k B:Nat} {w w':World} {g:Nat} {l:List α} (h:LsOf enc k w (some ⟨g,0,none⟩) l) (hg:B≤g) (hu:SameUp B w w'):LsOf enc k w' (some ⟨g,0,none⟩) l:=fun h0=>by
  obtain ⟨b,off,hq,hB,hA⟩:=h h0
  cases hq
  exact ⟨g,0,rfl,Nat.lt_of_lt_of_le hB hu.1,fun j u hj=>(hu.cell g (0 + j) hg hB).trans (hA j u hj)⟩
/-- A row that begins at its block's head: the block is of its type, and as large as its room. -/
def LsB {α:Type} [Inhabited α] (enc:α→List Value) (e:TypeId) (k:Nat) (w:World) (g c:Nat) (l:List α):Prop:=LsOf enc k w (some ⟨g,0,none⟩) l∧∃ cur:Array Value,w.heap[g]? = some (.cells cur e (0,0))∧cur.size=c * k
section
variable {α : Type} [Inhabited α] {enc : α → List Value} {e : TypeId} {k : Nat}
theorem LsB.up {B:Nat} {w w':World} {g c:Nat} {l:List α} (h:LsB enc e k w g c l) (hg:B≤g) (hu:SameUp B w w'):LsB enc e k w' g c l:=by
  obtain ⟨h1,cur,h2,h3⟩:=h
  exact ⟨h1.up hg hu,cur,(hu.2 g hg (Array.getElem?_eq_some_iff.1 h2).1).trans h2,h3⟩
theorem LsB.below {w w':World} {g c:Nat} {l:List α} (h:LsB enc e k w g c l) (hb:Below w.heap.size w w'):LsB enc e k w' g c l:=h.up (Nat.zero_le _) (SameUp.of hb)
theorem LsB.setOther {w:World} {g c:Nat} {l:List α} (h:LsB enc e k w g c l) {b:Nat} (hb:g ≠ b) (j:Nat) (u:Value):LsB enc e k (w.setCell ⟨b,j,none⟩ u) g c l:=by
  obtain ⟨h1,cur,h2,h3⟩:=h
  have he:(w.setCell ⟨b,j,none⟩ u).heap[g]? = w.heap[g]?:=Below.heap_setCell _ _ _ _ hb
  refine ⟨fun h0=>?_,cur,he.trans h2,h3⟩
  obtain ⟨b',off,hq,hB,hA⟩:=h1 h0
  cases hq
  exact ⟨g,0,rfl,by simpa using hB,fun j' u' hj=>(World.cell?_of_block he).trans (hA j' u' hj)⟩
theorem LsB.same {w w':World} {g c:Nat} {l:List α} (h:LsB enc e k w g c l) (hs:w.heap.size≤w'.heap.size) (he:g < w.heap.size→w'.heap[g]? = w.heap[g]?):LsB enc e k w' g c l:=by
  obtain ⟨h1,cur,h2,h3⟩:=h
  have hg:=(Array.getElem?_eq_some_iff.1 h2).1
  refine ⟨fun h0=>?_,cur,(he hg).trans h2,h3⟩
  obtain ⟨b',off,hq,hB,hA⟩:=h1 h0
  cases hq
  exact ⟨g,0,rfl,Nat.lt_of_lt_of_le hB hs,fun j' u' hj=>(World.cell?_of_block (he hg)).trans (hA j' u' hj)⟩
theorem OwnK.lsb {B:Nat} {w:World} {g c:Nat} {l:List α} (h:OwnK enc e k B w (some ⟨g,0,none⟩) c l):LsB enc e k w g c l:=by
  refine ⟨h.ls.2.2.2, ?_⟩
  rcases h.2 with ⟨h0,_⟩ | ⟨g',cp,cur,h0,_,h2,_,_,h3,_⟩
  · cases h0
  · injection h0 with h4 _ h5
    cases h4
    exact ⟨cur,h2,by rw [h5];exact h3⟩
end
/-- The copy of a tree, with spare room behind each list. -/
inductive SpIn (w:World) (B:Nat):Nv→Nd→Prop
  | mk {kind:Int} {attr:ByteArray} {ints:List Int} {words:List ByteArray} {lo hi op:Int} {kids:List Nd} {g1 k1 g2 k2 g3 k3:Nat} {vs:List Nv} :
      LsB encI 3 1 w g1 k1 (ints ++ spI)→ints.length + 2≤k1→k1≤maxLen→LsB encS 9 1 w g2 k2 (words ++ spS)→words.length + 2≤k2→k2≤maxLen →
      LsB encV 28 8 w g3 k3 (vs ++ [spV])→kids.length + 1≤k3→k3≤maxLen→vs.length=kids.length→(∀ (j:Nat) (v:Nv) (x:Nd),vs[j]? = some v→kids[j]? = some x→SpIn w B v x)→B≤g1→B≤g2→B≤g3 →
      SpIn w B ⟨kind,attr,some ⟨g1,0,none⟩,ints.length,k1,some ⟨g2,0,none⟩,words.length,k2,lo,hi,op,some ⟨g3,0,none⟩,kids.length,k3⟩ (.mk kind attr ints words lo hi op kids)
theorem SpIn.up {w w':World} {B:Nat} {v:Nv} {t:Nd} (h:SpIn w B v t) (hu:SameUp B w w'):SpIn w' B v t:=by
  induction h with
  | mk a1 a2 a3 b1 b2 b3 c1 c2 c3 hl hr d1 d2 d3 ih=>exact .mk (a1.up d1 hu) a2 a3 (b1.up d2 hu) b2 b3 (c1.up d3 hu) c2 c3 hl (fun j v x hj hx=>ih j v x hj hx) d1 d2 d3
theorem SpIn.keep {w w':World} {B:Nat} {v:Nv} {t:Nd} (h:SpIn w B v t) (hb:Below w.heap.size w w'):SpIn w' B v t:=h.up (SameUp.of hb)
theorem SpIn.mono {w:World} {B B':Nat} {v:Nv} {t:Nd} (h:SpIn w B v t) (hB:B'≤B):SpIn w B' v t:=by
  induction h with
  | mk a1 a2 a3 b1 b2 b3 c1 c2 c3 hl hr d1 d2 d3 ih=>exact .mk a1 a2 a3 b1 b2 b3 c1 c2 c3 hl (fun j v x hj hx=>ih j v x hj hx) (Nat.le_trans hB d1) (Nat.le_trans hB d2) (Nat.le_trans hB d3)
theorem SpIn.toIn {w:World} {B:Nat} {v:Nv} {t:Nd} (h:SpIn w B v t):NdIn w v t:=by
  induction h with
  | mk a1 a2 a3 b1 b2 b3 c1 c2 c3 hl hr d1 d2 d3 ih =>
    exact .mk ⟨(fun h=>by cases h),by omega,a3,a1.1.take (by decide)⟩ ⟨(fun h=>by cases h),by omega,b3,b1.1.take (by decide)⟩ ⟨(fun h=>by cases h),by omega,c3,c1.1.take (by decide)⟩ hl fun j v x hj hx=>ih j v x hj hx
theorem makeV (n:Nat) (h:n * 120≤140737488355328):∃ cur:Array Value,cur.size=n * 8∧∀ W:World,(Instr.makeSlice 26 (.int .i64 0) (.int .i64 (n:Int))).run Try.prog W=.ok (.slice (some ⟨W.heap.size,0,none⟩) 0 n) (W.alloc (.cells cur 28)):=by
  obtain ⟨i0,hi,hz0,hz1,hz2⟩:=info_parts Try.info28
  refine ⟨madeCells (Value.cells (.agg #[.int .i64 0,.string ⟨#[]⟩,.slice none 0 0,.slice none 0 0,.int .i64 0,.int .i64 0,.int .i64 0,.slice none 0 0])) (n * i0.size),by rw [size_madeCells,hz1],fun W=>?_⟩
  have:=run_make (P:=Try.prog) W 26 28 i0 _ Try.underlying26 hi hz0 .i64 .i64 0 (n:Int) (Int.le_refl _) (by omega) (by rw [hz2];omega) (by omega)
  simpa only [Int.toNat_zero,Int.toNat_natCast] using this
def NodeP (x:Nd):Prop:=∀ (v:Nv) (w:World),NdIn w v x→wtN x≤1000000000→Calls Try.prog 5 #[v.val] w fun e w'=>(∃ v',e=.returned v'.val∧SpIn w' w.heap.size v' x)∧Below w.heap.size w w'
set_option maxRecDepth 100000 in
set_option maxHeartbeats 4000000 in
theorem memPred2 (kind:Int) (attr:ByteArray) (ints:List Int) (words:List ByteArray) (lo hi:Int) (qi:Option Addr) (ci:Nat) (qw:Option Addr) (cw:Nat) (w:World) (s1:SlOf encI 1 w qi ci ints) (t1:SlOf encS 1 w qw cw words) (m1:ints.length * 8 + 64≤140737488355328) (m2:words.length * 16 + 64≤140737488355328) :
    Calls Try.prog 20 #[.agg #[.int .i64 kind,.string attr,.slice qi ints.length ci,.slice qw words.length cw,.int .i64 lo,.int .i64 hi]] w fun e w'=>(∃ g1 k1 g2 k2,e=.returned (.agg #[.int .i64 kind,.string attr,.slice (some ⟨g1,0,none⟩) ints.length k1,.slice (some ⟨g2,0,none⟩) words.length k2,.int .i64 lo,.int .i64 hi])∧LsB encI 3 1 w' g1 k1 (ints ++ spI)∧ints.length + 2≤k1∧k1≤maxLen∧LsB encS 9 1 w' g2 k2 (words ++ spS)∧words.length + 2≤k2∧k2≤maxLen∧w.heap.size≤g1∧w.heap.size≤g2)∧Below w.heap.size w w':=by
  obtain ⟨X,HX⟩:∃ X,(w.alloc (.cells #[.int .i64 kind,.string attr,.slice qi ints.length ci,.slice qw words.length cw,.int .i64 lo,.int .i64 hi] 25)).alloc (.cells #[.int .i64 0,.string ⟨#[]⟩,.slice none 0 0,.slice none 0 0,.int .i64 0,.int .i64 0] 25)=X:=⟨_,rfl⟩
  have hXs:X.heap.size=w.heap.size + 2:=by rw [← HX];simp
  have hwX:Below w.heap.size w X:=by rw [← HX];exact ((Below.refl _ _).alloc (Nat.le_refl _) _).alloc (by simp) _
  have hX0:X.heap[w.heap.size]? = some (.cells #[.int .i64 kind,.string attr,.slice qi ints.length ci,.slice qw words.length cw,.int .i64 lo,.int .i64 hi] 25 (0,0)):=by rw [← HX,Below.heap_alloc _ _ _ (by simp)];exact box_nw _ _
  have hX1:X.heap[w.heap.size + 1]? = some (.cells #[.int .i64 0,.string ⟨#[]⟩,.slice none 0 0,.slice none 0 0,.int .i64 0,.int .i64 0] 25 (0,0)):=by rw [← HX,show w.heap.size + 1=(w.alloc (.cells #[.int .i64 kind,.string attr,.slice qi ints.length ci,.slice qw words.length cw,.int .i64 lo,.int .i64 hi] 25)).heap.size by simp];exact box_nw _ _
  obtain ⟨x0,x1,x2,x3,x4,x5⟩:=of6' hX0
  obtain ⟨y0,y1,y2,y3,y4,y5⟩:=of6' hX1
  have xf:∀ o,X.frozen? ⟨w.heap.size,o,none⟩=false:=fun o=>frozen_free hX0
  have yf:∀ o,X.frozen? ⟨w.heap.size + 1,o,none⟩=false:=fun o=>frozen_free hX1
  have c1:=memI qi ci ints X (s1.below hwX) m1
  have c2:=fun w' (hb:Below w.heap.size w w')=>memS qw cw words w' (t1.below hb) m2
  have HWX:=hide hwX
  clear s1 t1 hwX hX0 hX1
  go_enter Try.func20,Try.ntmps20
  go_wp2_with (first
    | (go_at_call 36;refine c1.mono ?_;rintro e w1 ⟨⟨g1,k1,rfl,o1,r1⟩,b1⟩;obtain ⟨hc1,hf1⟩:=bcell b1;have hz1:w.heap.size + 1 < w1.heap.size:=(by have:=b1.size;omega);have hz1':w.heap.size < w1.heap.size:=(by omega);rw [hXs] at hc1 hf1;have O1:=hide o1;have B1:=hide b1;have R1:=hide r1;clear o1 b1 r1)
    | (go_at_call 37;refine (c2 _ (by exact (below_sub (uh HWX) (uh B1)).setCell (Nat.le_refl _) _)).mono ?_;rintro e w2 ⟨⟨g2,k2,rfl,o2,r2⟩,b2⟩;obtain ⟨hc2,hf2⟩:=bcell b2;simp only [World.size_setCell] at hc2 hf2;have hz2:w.heap.size + 1 < w2.heap.size:=(by have:=b2.size;simp at this;omega);have hz2':w.heap.size < w2.heap.size:=(by omega);have O2:=hide o2;have B2:=hide b2;have R2:=hide r2;clear o2 b2 r2))
  refine bodyPost_ret (v:=.agg #[.int .i64 kind,.string attr,.slice (some ⟨g1,0,none⟩) ints.length k1,.slice (some ⟨g2,0,none⟩) words.length k2,.int .i64 lo,.int .i64 hi]) (by simp [results,Try.results20,go_sem, *]) rfl ?_
  have s1:=(uh B1).size
  have s2:=(uh B2).size
  simp only [World.size_setCell] at s2
  have u0:∀ (W:World),SameUp (w.heap.size + 2) W W:=fun W=>SameUp.of (Below.refl _ _)
  have u2:=(((((((u0 w2).set (p:=⟨w.heap.size,3,none⟩) (by simp) (.slice (some ⟨g2,0,none⟩) words.length k2)).set (p:=⟨w.heap.size + 1,0,none⟩) (by simp) (.int .i64 kind)).set (p:=⟨w.heap.size + 1,1,none⟩) (by simp) (.string attr)).set (p:=⟨w.heap.size + 1,2,none⟩) (by simp) (.slice (some ⟨g1,0,none⟩) ints.length k1)).set (p:=⟨w.heap.size + 1,3,none⟩) (by simp) (.slice (some ⟨g2,0,none⟩) words.length k2)).set (p:=⟨w.heap.size + 1,4,none⟩) (by simp) (.int .i64 lo)).set (p:=⟨w.heap.size + 1,5,none⟩) (by simp) (.int .i64 hi)
  have u1:=(((u0 w1).set (p:=⟨w.heap.size,2,none⟩) (by simp) (.slice (some ⟨g1,0,none⟩) ints.length k1)).trans (SameUp.of (uh B2))).trans u2
  have f1:∀ a,some (⟨g1,0,none⟩:Addr)=some a→w.heap.size + 2≤a.block:=fun a e=>by have:=(uh O1).from a e;omega
  have f2:∀ a,some (⟨g2,0,none⟩:Addr)=some a→w.heap.size + 2≤a.block:=fun a e=>by have:=(uh O2).from a e;simp only [World.size_setCell] at this;omega
  refine ⟨⟨g1,k1,g2,k2,rfl,(uh O1).lsb.up (f1 _ rfl) u1,uh R1,(uh O1).ls.2.2.1,(uh O2).lsb.up (f2 _ rfl) u2,uh R2,(uh O2).ls.2.2.1,by have:=f1 _ rfl;simp at this;omega,by have:=f2 _ rfl;simp at this;omega⟩, ?_⟩
  exact (((((((below_sub ((below_sub (uh HWX) (uh B1)).setCell (Nat.le_refl _) _) (uh B2)).setCell (Nat.le_refl _) _).setCell (Nat.le_succ _) _).setCell (Nat.le_succ _) _).setCell (Nat.le_succ _) _).setCell (Nat.le_succ _) _).setCell (Nat.le_succ _) _).setCell (Nat.le_succ _) _
theorem drew_heap (W:World):W.drew.heap=W.heap:=rfl
theorem name_worldM {P:Program} {f:Nat} {args:Array Value} {w:World} {Q:Ending→World→Prop} (h:∀ Y,Y=w→Calls P f args Y Q):Calls P f args w Q:=h w rfl
theorem wrap_i (x:Int) (h0:0≤x) (h1:x≤10000000000):IntKind.i64.wrap x=x:=by
  have e:(2:Int) ^ IntKind.i64.bits=18446744073709551616:=by decide
  have e2:(2:Int) ^ (IntKind.i64.bits - 1)=9223372036854775808:=by decide
  simp [IntKind.wrap,e,e2]
  omega
theorem below_undrewM {w w':World} (h:Below w.drew.heap.size w.drew w'):Below w.heap.size w w':=⟨h.os,h.tape,h.output,h.size,h.block⟩
theorem heap_old {w:World} {o:Obj} {k:Nat} (h:k < w.heap.size):(w.alloc o).heap[k]? = w.heap[k]?:=((Below.refl w.heap.size w).alloc (Nat.le_refl _) o).block k h
theorem size_al (w:World) (o:Obj):(w.alloc o).heap.size=w.heap.size + 1:=by simp
theorem twoM {w Y:World} {o1 o2:Obj} (h:(w.alloc o1).alloc o2=Y):Y.heap[w.heap.size]? = some o1∧Y.heap[w.heap.size + 1]? = some o2∧Below w.heap.size w Y∧Y.heap.size=w.heap.size + 2:=by
  subst h
  refine ⟨?_, ?_, ?_,by simp⟩
  · rw [heap_old (by simp only [size_al];omega)];exact box_nw _ _
  · have:=box_nw (w.alloc o1) o2;rwa [size_al] at this
  · exact ((Below.refl _ _).alloc (Nat.le_refl _) _).alloc (by simp) _
theorem ownV {B:Nat} {w:World} {n:Nat} {cur:Array Value} (hB:B≤w.heap.size) (hn:n≤maxLen) (hs:cur.size=n * 8):OwnK encV 28 8 B (w.alloc (.cells cur 28)) (some ⟨w.heap.size,0,none⟩) n []:=by
  have:(flatK encV 8 ([]:List Nv).toArray).toList=[]:=by simp [flatK]
  unfold OwnK;rw [this];exact World.ownsRow_made w cur n hB hn hs
theorem OwnK.setOther {B:Nat} {w:World} {g cap:Nat} {l:List Nv} (h:OwnK encV 28 8 B w (some ⟨g,0,none⟩) cap l) {a:Addr} (ha:g ≠ a.block) (u:Value):OwnK encV 28 8 B (w.setCell a u) (some ⟨g,0,none⟩) cap l:=ownsRow_setCell_other h (by simp [Value.ownBlock];exact ha) u
theorem LsOf.same {α:Type} [Inhabited α] {enc:α→List Value} {k:Nat} {w w':World} {g:Nat} {l:List α} (h:LsOf enc k w (some ⟨g,0,none⟩) l) (hs:w.heap.size≤w'.heap.size) (hc:∀ o,g < w.heap.size→w'.cell? ⟨g,o,none⟩=w.cell? ⟨g,o,none⟩):LsOf enc k w' (some ⟨g,0,none⟩) l:=fun h0=>by
  obtain ⟨b,off,hq,hB,hA⟩:=h h0
  cases hq
  exact ⟨g,0,rfl,Nat.lt_of_lt_of_le hB hs,fun j u hj=>(hc (0 + j) hB).trans (hA j u hj)⟩
theorem set_other (w:World) {g b:Nat} (h:g ≠ b) (o j:Nat) (u:Value):(w.setCell ⟨b,j,none⟩ u).cell? ⟨g,o,none⟩=w.cell? ⟨g,o,none⟩:=by
  have h':¬ b=g:=fun e=>h e.symm
  go_simp
theorem LsOf.setOther {α:Type} [Inhabited α] {enc:α→List Value} {k:Nat} {w:World} {g:Nat} {l:List α} (h:LsOf enc k w (some ⟨g,0,none⟩) l) {b:Nat} (hb:g ≠ b) (j:Nat) (u:Value):LsOf enc k (w.setCell ⟨b,j,none⟩ u) (some ⟨g,0,none⟩) l:=h.same (by simp) (fun o _=>set_other w hb o j u)
theorem wp_fit {α:Type} [Inhabited α] {enc:α→List Value} {t e:TypeId} {k bytes:Nat} (R:RowOf enc t e k bytes) {o:Oper} {a:Act} {w:World} {K:Act→World→Prop} {Q:Exit→Act→World→Prop} (s x:Operand)
    (ho:o.op=.call { callee:=.builtin .append,args:=#[s,x],argTypes:=#[t,t] }) (B g cap:Nat) (l:List α) (ad:Addr) (c:Nat) (m:List α) (n n' N:Nat) (hn:l.length=n) (hn':m.length=n') (hN:n + n'=N)
    (es:a.eval s=.slice (some ⟨g,0,none⟩) n cap) (ex:a.eval x=.slice (some ad) n' c) (hown:OwnK enc e k B w (some ⟨g,0,none⟩) cap l) (hs:SrcK enc k w (some ad) c m) (hroom:N≤cap)
    (h:∀ w',OwnK enc e k B w' (some ⟨g,0,none⟩) cap (l ++ m)→w.grownBy w' (some g)→K (a.put o.dst (.slice (some ⟨g,0,none⟩) N cap)) w'):o.wp Try.prog a w K Q:=by
  subst hn hn' hN
  obtain ⟨i0,z,hi,hz,hsz,hby,hzs⟩:=R.info
  obtain ⟨w',hr,hO,hg⟩:=run_append_fits (P:=Try.prog) (w:=w) B t o.type e i0 k R.und hi hsz g l.length cap _ hown ad m.length c (flatK enc k m.toArray).toList (by simp) (hs.2 ad rfl) (R.one m) hroom
  unfold Oper.wp execOp
  simp only [ho,resolve,invoke,builtin,Sem.run_bind,Sem.run_pure,Result.andThen_ok,List.map_toArray,List.map_cons,List.map_nil,es,ex,hr]
  refine h w' ?_ hg
  unfold OwnK
  rw [flat_app enc k R.pos,List.length_append]
  exact hO
theorem step_fit {α:Type} [Inhabited α] {enc:α→List Value} {t e:TypeId} {k bytes:Nat} (R:RowOf enc t e k bytes) {ops:Array Oper} {o:Oper} {a:Act} {w:World} {K:Act→World→Prop} {Q:Exit→Act→World→Prop} {E:Prop} (hgd:o.guard=none) (s x:Operand)
    (ho:o.op=.call { callee:=.builtin .append,args:=#[s,x],argTypes:=#[t,t] }) (B g cap:Nat) (l:List α) (ad:Addr) (c:Nat) (m:List α) (n n' N:Nat) (hn:l.length=n) (hn':m.length=n') (hN:n + n'=N)
    (es:a.eval s=.slice (some ⟨g,0,none⟩) n cap) (ex:a.eval x=.slice (some ad) n' c) (hown:OwnK enc e k B w (some ⟨g,0,none⟩) cap l) (hs:SrcK enc k w (some ad) c m) (hroom:N≤cap)
    (h:∀ w',OwnK enc e k B w' (some ⟨g,0,none⟩) cap (l ++ m)→w.grownBy w' (some g)→K (a.put o.dst (.slice (some ⟨g,0,none⟩) N cap)) w') :
    if Region.wanted o (yielded ops a.tmps)=true then Oper.wp Try.prog o a w K Q else E:=by
  have hw:Region.wanted o (yielded ops a.tmps)=true:=by simp [Region.wanted,hgd]
  rw [if_pos hw]
  exact wp_fit R s x ho B g cap l ad c m n n' N hn hn' hN es ex hown hs hroom h
theorem wpList_fit {α:Type} [Inhabited α] {enc:α→List Value} {t e:TypeId} {k bytes:Nat} (R:RowOf enc t e k bytes) {ops:Array Oper} {rest:List Oper} {o:Oper} {a:Act} {w:World} {Q:Exit→Act→World→Prop} (hgd:o.guard=none) (s x:Operand)
    (ho:o.op=.call { callee:=.builtin .append,args:=#[s,x],argTypes:=#[t,t] }) (B g cap:Nat) (l:List α) (ad:Addr) (c:Nat) (m:List α) (n n' N:Nat) (hn:l.length=n) (hn':m.length=n') (hN:n + n'=N)
    (es:a.eval s=.slice (some ⟨g,0,none⟩) n cap) (ex:a.eval x=.slice (some ad) n' c) (hown:OwnK enc e k B w (some ⟨g,0,none⟩) cap l) (hs:SrcK enc k w (some ad) c m) (hroom:N≤cap)
    (h:∀ w',OwnK enc e k B w' (some ⟨g,0,none⟩) cap (l ++ m)→w.grownBy w' (some g)→wpList Try.prog ops Q rest (a.put o.dst (.slice (some ⟨g,0,none⟩) N cap)) w'):wpList Try.prog ops Q (o :: rest) a w :=
  wpList_plain hgd fun _ hK=>wp_fit R s x ho B g cap l ad c m n n' N hn hn' hN es ex hown hs hroom fun w' h2 h3=>hK _ _ (h w' h2 h3)
theorem frz {w w':World} {g b o:Nat} (h:w.grownBy w' (some g)) (hb:b < w.heap.size) (hne:b ≠ g) (hf:w.frozen? ⟨b,o,none⟩=false):w'.frozen? ⟨b,o,none⟩=false:=by
  have:=h.block b hb (fun e=>by cases e;exact hne rfl)
  unfold World.frozen? at *
  rw [this];exact hf
theorem node_src {w:World} {M:Nat} {u:Nv} (h:w.heap[M]? = some (.cells #[.int .i64 u.kind,.string u.attr,.slice u.qi u.ni u.ci,.slice u.qw u.nw u.cw,.int .i64 u.lo,.int .i64 u.hi,.int .i64 u.op,.slice u.qk u.nk u.ck] 28 (0,0))):SrcK encV 8 w (some ⟨M,0,none⟩) 1 [u] :=
  (of_block (vs:=[u]) h (by rw [flat_1];rfl) (by simp)).src
theorem node_round {X V wr Z w2 w3:World} {mb gm g1 g2 k1 k2 k:Nat} {kind lo hi op:Int} {attr:ByteArray} {ints:List Int} {words:List ByteArray} {kids:List Nd} {us:List Nv} {u:Nv} {x:Nd}
    (HB:Below X.heap.size X wr) (bZ:Below wr.heap.size wr Z) (R3:Below Z.heap.size Z w2) (HG3:(w2.alloc (.cells #[.int .i64 u.kind,.string u.attr,.slice u.qi u.ni u.ci,.slice u.qw u.nw u.cw,.int .i64 u.lo,.int .i64 u.hi,.int .i64 u.op,.slice u.qk u.nk u.ck] 28)).grownBy w3 (some gm)) (hne1:mb ≠ gm) (hne2:X.heap.size≤mb) (hne3:X.heap.size≤gm) (hg1n:g1 ≠ mb∧g1 ≠ gm∧g2 ≠ mb∧g2 ≠ gm) (sv1:mb < V.heap.size) (sv2:gm < V.heap.size) (hVs:V.heap.size≤wr.heap.size) (sZ:Z.heap.size=wr.heap.size + 1)
    (c0:wr.cell? ⟨mb,0,none⟩=some (.int .i64 kind)) (c1:wr.cell? ⟨mb,1,none⟩=some (.string attr)) (c2:wr.cell? ⟨mb,2,none⟩=some (.slice (some ⟨g1,0,none⟩) ints.length k1)) (c3:wr.cell? ⟨mb,3,none⟩=some (.slice (some ⟨g2,0,none⟩) words.length k2)) (c4:wr.cell? ⟨mb,4,none⟩=some (.int .i64 lo)) (c5:wr.cell? ⟨mb,5,none⟩=some (.int .i64 hi)) (c6:wr.cell? ⟨mb,6,none⟩=some (.int .i64 op)) (n7:w3.cell? ⟨mb,7,none⟩=some (.slice (some ⟨gm,0,none⟩) k (kids.length + 1))) (nf:∀ o,w3.frozen? ⟨mb,o,none⟩=false)
    (HO3:OwnK encV 28 8 X.heap.size w3 (some ⟨gm,0,none⟩) (kids.length + 1) (us ++ [u])) (HI1:LsB encI 3 1 wr g1 k1 (ints ++ spI)) (HW1:LsB encS 9 1 wr g2 k2 (words ++ spS)) (HSP:∀ (j:Nat) (v:Nv) (x:Nd),us[j]? = some v→kids[j]? = some x→SpIn wr V.heap.size v x) (HU:SpIn w2 Z.drew.heap.size u x) (HUS:us.length=k) (HXX:kids[k]? = some x) :
    Below X.heap.size X (w3.setCell ⟨mb,7,none⟩ (.slice (some ⟨gm,0,none⟩) (k + 1) (kids.length + 1)))∧V.heap.size≤(w3.setCell ⟨mb,7,none⟩ (.slice (some ⟨gm,0,none⟩) (k + 1) (kids.length + 1))).heap.size∧((w3.setCell ⟨mb,7,none⟩ (.slice (some ⟨gm,0,none⟩) (k + 1) (kids.length + 1))).cell? ⟨mb,0,none⟩=some (.int .i64 kind)∧(w3.setCell ⟨mb,7,none⟩ (.slice (some ⟨gm,0,none⟩) (k + 1) (kids.length + 1))).cell? ⟨mb,1,none⟩=some (.string attr)∧(w3.setCell ⟨mb,7,none⟩ (.slice (some ⟨gm,0,none⟩) (k + 1) (kids.length + 1))).cell? ⟨mb,2,none⟩=some (.slice (some ⟨g1,0,none⟩) ints.length k1)∧(w3.setCell ⟨mb,7,none⟩ (.slice (some ⟨gm,0,none⟩) (k + 1) (kids.length + 1))).cell? ⟨mb,3,none⟩=some (.slice (some ⟨g2,0,none⟩) words.length k2)∧(w3.setCell ⟨mb,7,none⟩ (.slice (some ⟨gm,0,none⟩) (k + 1) (kids.length + 1))).cell? ⟨mb,4,none⟩=some (.int .i64 lo)∧(w3.setCell ⟨mb,7,none⟩ (.slice (some ⟨gm,0,none⟩) (k + 1) (kids.length + 1))).cell? ⟨mb,5,none⟩=some (.int .i64 hi)∧(w3.setCell ⟨mb,7,none⟩ (.slice (some ⟨gm,0,none⟩) (k + 1) (kids.length + 1))).cell? ⟨mb,6,none⟩=some (.int .i64 op)∧(w3.setCell ⟨mb,7,none⟩ (.slice (some ⟨gm,0,none⟩) (k + 1) (kids.length + 1))).cell? ⟨mb,7,none⟩=some (.slice (some ⟨gm,0,none⟩) (k + 1) (kids.length + 1)))∧(∀ o,(w3.setCell ⟨mb,7,none⟩ (.slice (some ⟨gm,0,none⟩) (k + 1) (kids.length + 1))).frozen? ⟨mb,o,none⟩=false)∧OwnK encV 28 8 X.heap.size (w3.setCell ⟨mb,7,none⟩ (.slice (some ⟨gm,0,none⟩) (k + 1) (kids.length + 1))) (some ⟨gm,0,none⟩) (kids.length + 1) (us ++ [u])∧LsB encI 3 1 (w3.setCell ⟨mb,7,none⟩ (.slice (some ⟨gm,0,none⟩) (k + 1) (kids.length + 1))) g1 k1 (ints ++ spI)∧LsB encS 9 1 (w3.setCell ⟨mb,7,none⟩ (.slice (some ⟨gm,0,none⟩) (k + 1) (kids.length + 1))) g2 k2 (words ++ spS)∧∀ (j:Nat) (v:Nv) (x:Nd),(us ++ [u])[j]? = some v→kids[j]? = some x→SpIn (w3.setCell ⟨mb,7,none⟩ (.slice (some ⟨gm,0,none⟩) (k + 1) (kids.length + 1))) V.heap.size v x:=by
  have s2:=R3.size
  have s3:=HG3.size
  simp only [size_al] at s3
  have hmr:mb < wr.heap.size:=by omega
  have lm2:mb < w2.heap.size:=by omega
  have AL2:=(Below.refl w2.heap.size w2).alloc (Nat.le_refl _) (.cells #[.int .i64 u.kind,.string u.attr,.slice u.qi u.ni u.ci,.slice u.qw u.nw u.cw,.int .i64 u.lo,.int .i64 u.hi,.int .i64 u.op,.slice u.qk u.nk u.ck] 28)
  have B2a:=below_sub R3 AL2
  have N3:∀ o,w3.cell? ⟨mb,o,none⟩=wr.cell? ⟨mb,o,none⟩:=fun o=>(World.cell?_of_block (w:=w2.alloc (.cells #[.int .i64 u.kind,.string u.attr,.slice u.qi u.ni u.ci,.slice u.qw u.nw u.cw,.int .i64 u.lo,.int .i64 u.hi,.int .i64 u.op,.slice u.qk u.nk u.ck] 28)) (a:=⟨mb,o,none⟩) (HG3.block mb (by simp only [size_al];omega) (fun e=>by cases e;omega))).trans ((AL2.cell (p:=⟨mb,o,none⟩) (by exact lm2)).trans ((R3.cell (p:=⟨mb,o,none⟩) (by simp only;omega)).trans (bZ.cell (p:=⟨mb,o,none⟩) (by exact hmr))))
  have n0:=(N3 0).trans c0
  have n1:=(N3 1).trans c1
  have n2:=(N3 2).trans c2
  have n3:=(N3 3).trans c3
  have n4:=(N3 4).trans c4
  have n5:=(N3 5).trans c5
  have n6:=(N3 6).trans c6
  have d0:(w3.setCell ⟨mb,7,none⟩ (.slice (some ⟨gm,0,none⟩) (k + 1) (kids.length + 1))).cell? ⟨mb,0,none⟩=some (.int .i64 kind):=by go_simp
  have d1:(w3.setCell ⟨mb,7,none⟩ (.slice (some ⟨gm,0,none⟩) (k + 1) (kids.length + 1))).cell? ⟨mb,1,none⟩=some (.string attr):=by go_simp
  have d2:(w3.setCell ⟨mb,7,none⟩ (.slice (some ⟨gm,0,none⟩) (k + 1) (kids.length + 1))).cell? ⟨mb,2,none⟩=some (.slice (some ⟨g1,0,none⟩) ints.length k1):=by go_simp
  have d3:(w3.setCell ⟨mb,7,none⟩ (.slice (some ⟨gm,0,none⟩) (k + 1) (kids.length + 1))).cell? ⟨mb,3,none⟩=some (.slice (some ⟨g2,0,none⟩) words.length k2):=by go_simp
  have d4:(w3.setCell ⟨mb,7,none⟩ (.slice (some ⟨gm,0,none⟩) (k + 1) (kids.length + 1))).cell? ⟨mb,4,none⟩=some (.int .i64 lo):=by go_simp
  have d5:(w3.setCell ⟨mb,7,none⟩ (.slice (some ⟨gm,0,none⟩) (k + 1) (kids.length + 1))).cell? ⟨mb,5,none⟩=some (.int .i64 hi):=by go_simp
  have d6:(w3.setCell ⟨mb,7,none⟩ (.slice (some ⟨gm,0,none⟩) (k + 1) (kids.length + 1))).cell? ⟨mb,6,none⟩=some (.int .i64 op):=by go_simp
  have d7:(w3.setCell ⟨mb,7,none⟩ (.slice (some ⟨gm,0,none⟩) (k + 1) (kids.length + 1))).cell? ⟨mb,7,none⟩=some (.slice (some ⟨gm,0,none⟩) (k + 1) (kids.length + 1)):=by go_simp
  have df:∀ o,(w3.setCell ⟨mb,7,none⟩ (.slice (some ⟨gm,0,none⟩) (k + 1) (kids.length + 1))).frozen? ⟨mb,o,none⟩=false:=fun o=>by go_simp
  have b4:Below X.heap.size X (w3.setCell ⟨mb,7,none⟩ (.slice (some ⟨gm,0,none⟩) (k + 1) (kids.length + 1))):=((below_sub HB (below_sub bZ B2a)).grown HG3 (by simp only [size_al];have:=HB.size;omega) (fun k hk=>by cases hk;exact hne3)).setCell hne2 _
  have s4:V.heap.size≤(w3.setCell ⟨mb,7,none⟩ (.slice (some ⟨gm,0,none⟩) (k + 1) (kids.length + 1))).heap.size:=by simp only [World.size_setCell];omega
  have o4:OwnK encV 28 8 X.heap.size (w3.setCell ⟨mb,7,none⟩ (.slice (some ⟨gm,0,none⟩) (k + 1) (kids.length + 1))) (some ⟨gm,0,none⟩) (kids.length + 1) (us ++ [u]):=HO3.setOther (fun e=>hne1 e.symm) _
  have gsame:∀ g,g ≠ gm→g < (w2.alloc (.cells #[.int .i64 u.kind,.string u.attr,.slice u.qi u.ni u.ci,.slice u.qw u.nw u.cw,.int .i64 u.lo,.int .i64 u.hi,.int .i64 u.op,.slice u.qk u.nk u.ck] 28)).heap.size→w3.heap[g]? = (w2.alloc (.cells #[.int .i64 u.kind,.string u.attr,.slice u.qi u.ni u.ci,.slice u.qw u.nw u.cw,.int .i64 u.lo,.int .i64 u.hi,.int .i64 u.op,.slice u.qk u.nk u.ck] 28)).heap[g]?:=fun g hg hl=>HG3.block g hl (fun e=>by cases e;exact hg rfl)
  have i4:=(((HI1.below bZ).below B2a).same HG3.size (fun h=>gsame g1 hg1n.2.1 h)).setOther hg1n.1 7 (.slice (some ⟨gm,0,none⟩) (k + 1) (kids.length + 1))
  have w4:=(((HW1.below bZ).below B2a).same HG3.size (fun h=>gsame g2 hg1n.2.2.2 h)).setOther hg1n.2.2.1 7 (.slice (some ⟨gm,0,none⟩) (k + 1) (kids.length + 1))
  have up4:SameUp V.heap.size (w2.alloc (.cells #[.int .i64 u.kind,.string u.attr,.slice u.qi u.ni u.ci,.slice u.qw u.nw u.cw,.int .i64 u.lo,.int .i64 u.hi,.int .i64 u.op,.slice u.qk u.nk u.ck] 28)) (w3.setCell ⟨mb,7,none⟩ (.slice (some ⟨gm,0,none⟩) (k + 1) (kids.length + 1))):=(SameUp.grown HG3 sv2).set (p:=⟨mb,7,none⟩) sv1 _
  have sp4:∀ (j:Nat) (v:Nv) (x:Nd),(us ++ [u])[j]? = some v→kids[j]? = some x→SpIn (w3.setCell ⟨mb,7,none⟩ (.slice (some ⟨gm,0,none⟩) (k + 1) (kids.length + 1))) V.heap.size v x:=fun j v' x' hj hx=>by
    rcases Nat.lt_trichotomy j us.length with h | h | h
    · rw [List.getElem?_append_left h] at hj
      exact (((HSP j v' x' hj hx).keep bZ).keep B2a).up up4
    · subst h
      rw [List.getElem?_append_right (Nat.le_refl _),Nat.sub_self] at hj
      cases hj
      rw [HUS,HXX] at hx
      cases hx
      exact ((HU.mono (show V.heap.size≤Z.drew.heap.size from by rw [drew_heap];omega)).keep AL2).up up4
    · rw [List.getElem?_eq_none (by simp;omega)] at hj;cases hj
  exact ⟨b4,s4,⟨d0,d1,d2,d3,d4,d5,d6,d7⟩,df,o4,i4,w4,sp4⟩
theorem node_final {w X V wr w3:World} {mb gm g1 g2 k1 k2:Nat} {kind lo hi op:Int} {attr:ByteArray} {ints:List Int} {words:List ByteArray} {kids:List Nd} {us:List Nv}
    (BX:Below w.heap.size w X) (BW3:Below X.heap.size X w3) (sX:X.heap.size=w.heap.size + 2) (HG3:(wr.alloc (.cells #[.int .i64 0,.string ⟨#[]⟩,.slice none 0 0,.slice none 0 0,.int .i64 0,.int .i64 0,.int .i64 77,.slice none 0 0] 28)).grownBy w3 (some gm)) (HN3:∀ g,g ≠ gm→g < wr.heap.size→w3.heap[g]? = wr.heap[g]?) (s3:wr.heap.size + 1≤w3.heap.size) (hne3:X.heap.size≤gm) (hg1n:g1 ≠ mb∧g1 ≠ gm∧g2 ≠ mb∧g2 ≠ gm) (hgX:X.heap.size≤g1∧X.heap.size≤g2) (sv2:gm < V.heap.size) (zu:w.heap.size + 1 < V.heap.size) (hlen:kids.length≤1000000000)
    (o0:w3.cell? ⟨w.heap.size + 1,0,none⟩=some (.int .i64 0)) (o1:w3.cell? ⟨w.heap.size + 1,1,none⟩=some (.string ⟨#[]⟩)) (o2:w3.cell? ⟨w.heap.size + 1,2,none⟩=some (.slice none 0 0)) (o3:w3.cell? ⟨w.heap.size + 1,3,none⟩=some (.slice none 0 0)) (o4:w3.cell? ⟨w.heap.size + 1,4,none⟩=some (.int .i64 0)) (o5:w3.cell? ⟨w.heap.size + 1,5,none⟩=some (.int .i64 0)) (o6:w3.cell? ⟨w.heap.size + 1,6,none⟩=some (.int .i64 0)) (o7:w3.cell? ⟨w.heap.size + 1,7,none⟩=some (.slice none 0 0)) (HO3:OwnK encV 28 8 X.heap.size w3 (some ⟨gm,0,none⟩) (kids.length + 1) (us ++ [spV])) (HI1:LsB encI 3 1 wr g1 k1 (ints ++ spI)) (HW1:LsB encS 9 1 wr g2 k2 (words ++ spS)) (HSP:∀ (j:Nat) (v:Nv) (x:Nd),us[j]? = some v→kids[j]? = some x→SpIn wr V.heap.size v x) (hlu:us.length=kids.length) (r1:ints.length + 2≤k1) (z1:k1≤maxLen) (r2:words.length + 2≤k2) (z2:k2≤maxLen) :
    (((((((((w3.setCell ⟨w.heap.size + 1,0,none⟩ (.int .i64 kind)).setCell ⟨w.heap.size + 1,1,none⟩ (.string attr)).setCell ⟨w.heap.size + 1,2,none⟩ (.slice (some ⟨g1,0,none⟩) ints.length k1)).setCell ⟨w.heap.size + 1,3,none⟩ (.slice (some ⟨g2,0,none⟩) words.length k2)).setCell ⟨w.heap.size + 1,4,none⟩ (.int .i64 lo)).setCell ⟨w.heap.size + 1,5,none⟩ (.int .i64 hi)).setCell ⟨w.heap.size + 1,6,none⟩ (.int .i64 op)).setCell ⟨w.heap.size + 1,7,none⟩ (.slice (some ⟨gm,0,none⟩) kids.length (kids.length + 1))).cell? ⟨w.heap.size + 1,0,none⟩=some (.int .i64 kind)∧((((((((w3.setCell ⟨w.heap.size + 1,0,none⟩ (.int .i64 kind)).setCell ⟨w.heap.size + 1,1,none⟩ (.string attr)).setCell ⟨w.heap.size + 1,2,none⟩ (.slice (some ⟨g1,0,none⟩) ints.length k1)).setCell ⟨w.heap.size + 1,3,none⟩ (.slice (some ⟨g2,0,none⟩) words.length k2)).setCell ⟨w.heap.size + 1,4,none⟩ (.int .i64 lo)).setCell ⟨w.heap.size + 1,5,none⟩ (.int .i64 hi)).setCell ⟨w.heap.size + 1,6,none⟩ (.int .i64 op)).setCell ⟨w.heap.size + 1,7,none⟩ (.slice (some ⟨gm,0,none⟩) kids.length (kids.length + 1))).cell? ⟨w.heap.size + 1,1,none⟩=some (.string attr)∧((((((((w3.setCell ⟨w.heap.size + 1,0,none⟩ (.int .i64 kind)).setCell ⟨w.heap.size + 1,1,none⟩ (.string attr)).setCell ⟨w.heap.size + 1,2,none⟩ (.slice (some ⟨g1,0,none⟩) ints.length k1)).setCell ⟨w.heap.size + 1,3,none⟩ (.slice (some ⟨g2,0,none⟩) words.length k2)).setCell ⟨w.heap.size + 1,4,none⟩ (.int .i64 lo)).setCell ⟨w.heap.size + 1,5,none⟩ (.int .i64 hi)).setCell ⟨w.heap.size + 1,6,none⟩ (.int .i64 op)).setCell ⟨w.heap.size + 1,7,none⟩ (.slice (some ⟨gm,0,none⟩) kids.length (kids.length + 1))).cell? ⟨w.heap.size + 1,2,none⟩=some (.slice (some ⟨g1,0,none⟩) ints.length k1)∧((((((((w3.setCell ⟨w.heap.size + 1,0,none⟩ (.int .i64 kind)).setCell ⟨w.heap.size + 1,1,none⟩ (.string attr)).setCell ⟨w.heap.size + 1,2,none⟩ (.slice (some ⟨g1,0,none⟩) ints.length k1)).setCell ⟨w.heap.size + 1,3,none⟩ (.slice (some ⟨g2,0,none⟩) words.length k2)).setCell ⟨w.heap.size + 1,4,none⟩ (.int .i64 lo)).setCell ⟨w.heap.size + 1,5,none⟩ (.int .i64 hi)).setCell ⟨w.heap.size + 1,6,none⟩ (.int .i64 op)).setCell ⟨w.heap.size + 1,7,none⟩ (.slice (some ⟨gm,0,none⟩) kids.length (kids.length + 1))).cell? ⟨w.heap.size + 1,3,none⟩=some (.slice (some ⟨g2,0,none⟩) words.length k2)∧((((((((w3.setCell ⟨w.heap.size + 1,0,none⟩ (.int .i64 kind)).setCell ⟨w.heap.size + 1,1,none⟩ (.string attr)).setCell ⟨w.heap.size + 1,2,none⟩ (.slice (some ⟨g1,0,none⟩) ints.length k1)).setCell ⟨w.heap.size + 1,3,none⟩ (.slice (some ⟨g2,0,none⟩) words.length k2)).setCell ⟨w.heap.size + 1,4,none⟩ (.int .i64 lo)).setCell ⟨w.heap.size + 1,5,none⟩ (.int .i64 hi)).setCell ⟨w.heap.size + 1,6,none⟩ (.int .i64 op)).setCell ⟨w.heap.size + 1,7,none⟩ (.slice (some ⟨gm,0,none⟩) kids.length (kids.length + 1))).cell? ⟨w.heap.size + 1,4,none⟩=some (.int .i64 lo)∧((((((((w3.setCell ⟨w.heap.size + 1,0,none⟩ (.int .i64 kind)).setCell ⟨w.heap.size + 1,1,none⟩ (.string attr)).setCell ⟨w.heap.size + 1,2,none⟩ (.slice (some ⟨g1,0,none⟩) ints.length k1)).setCell ⟨w.heap.size + 1,3,none⟩ (.slice (some ⟨g2,0,none⟩) words.length k2)).setCell ⟨w.heap.size + 1,4,none⟩ (.int .i64 lo)).setCell ⟨w.heap.size + 1,5,none⟩ (.int .i64 hi)).setCell ⟨w.heap.size + 1,6,none⟩ (.int .i64 op)).setCell ⟨w.heap.size + 1,7,none⟩ (.slice (some ⟨gm,0,none⟩) kids.length (kids.length + 1))).cell? ⟨w.heap.size + 1,5,none⟩=some (.int .i64 hi)∧((((((((w3.setCell ⟨w.heap.size + 1,0,none⟩ (.int .i64 kind)).setCell ⟨w.heap.size + 1,1,none⟩ (.string attr)).setCell ⟨w.heap.size + 1,2,none⟩ (.slice (some ⟨g1,0,none⟩) ints.length k1)).setCell ⟨w.heap.size + 1,3,none⟩ (.slice (some ⟨g2,0,none⟩) words.length k2)).setCell ⟨w.heap.size + 1,4,none⟩ (.int .i64 lo)).setCell ⟨w.heap.size + 1,5,none⟩ (.int .i64 hi)).setCell ⟨w.heap.size + 1,6,none⟩ (.int .i64 op)).setCell ⟨w.heap.size + 1,7,none⟩ (.slice (some ⟨gm,0,none⟩) kids.length (kids.length + 1))).cell? ⟨w.heap.size + 1,6,none⟩=some (.int .i64 op)∧((((((((w3.setCell ⟨w.heap.size + 1,0,none⟩ (.int .i64 kind)).setCell ⟨w.heap.size + 1,1,none⟩ (.string attr)).setCell ⟨w.heap.size + 1,2,none⟩ (.slice (some ⟨g1,0,none⟩) ints.length k1)).setCell ⟨w.heap.size + 1,3,none⟩ (.slice (some ⟨g2,0,none⟩) words.length k2)).setCell ⟨w.heap.size + 1,4,none⟩ (.int .i64 lo)).setCell ⟨w.heap.size + 1,5,none⟩ (.int .i64 hi)).setCell ⟨w.heap.size + 1,6,none⟩ (.int .i64 op)).setCell ⟨w.heap.size + 1,7,none⟩ (.slice (some ⟨gm,0,none⟩) kids.length (kids.length + 1))).cell? ⟨w.heap.size + 1,7,none⟩=some (.slice (some ⟨gm,0,none⟩) kids.length (kids.length + 1)))∧SpIn ((((((((w3.setCell ⟨w.heap.size + 1,0,none⟩ (.int .i64 kind)).setCell ⟨w.heap.size + 1,1,none⟩ (.string attr)).setCell ⟨w.heap.size + 1,2,none⟩ (.slice (some ⟨g1,0,none⟩) ints.length k1)).setCell ⟨w.heap.size + 1,3,none⟩ (.slice (some ⟨g2,0,none⟩) words.length k2)).setCell ⟨w.heap.size + 1,4,none⟩ (.int .i64 lo)).setCell ⟨w.heap.size + 1,5,none⟩ (.int .i64 hi)).setCell ⟨w.heap.size + 1,6,none⟩ (.int .i64 op)).setCell ⟨w.heap.size + 1,7,none⟩ (.slice (some ⟨gm,0,none⟩) kids.length (kids.length + 1))) w.heap.size ⟨kind,attr,some ⟨g1,0,none⟩,ints.length,k1,some ⟨g2,0,none⟩,words.length,k2,lo,hi,op,some ⟨gm,0,none⟩,kids.length,kids.length + 1⟩ (.mk kind attr ints words lo hi op kids)∧Below w.heap.size w ((((((((w3.setCell ⟨w.heap.size + 1,0,none⟩ (.int .i64 kind)).setCell ⟨w.heap.size + 1,1,none⟩ (.string attr)).setCell ⟨w.heap.size + 1,2,none⟩ (.slice (some ⟨g1,0,none⟩) ints.length k1)).setCell ⟨w.heap.size + 1,3,none⟩ (.slice (some ⟨g2,0,none⟩) words.length k2)).setCell ⟨w.heap.size + 1,4,none⟩ (.int .i64 lo)).setCell ⟨w.heap.size + 1,5,none⟩ (.int .i64 hi)).setCell ⟨w.heap.size + 1,6,none⟩ (.int .i64 op)).setCell ⟨w.heap.size + 1,7,none⟩ (.slice (some ⟨gm,0,none⟩) kids.length (kids.length + 1))):=by
  have y_0:((((((((w3.setCell ⟨w.heap.size + 1,0,none⟩ (.int .i64 kind)).setCell ⟨w.heap.size + 1,1,none⟩ (.string attr)).setCell ⟨w.heap.size + 1,2,none⟩ (.slice (some ⟨g1,0,none⟩) ints.length k1)).setCell ⟨w.heap.size + 1,3,none⟩ (.slice (some ⟨g2,0,none⟩) words.length k2)).setCell ⟨w.heap.size + 1,4,none⟩ (.int .i64 lo)).setCell ⟨w.heap.size + 1,5,none⟩ (.int .i64 hi)).setCell ⟨w.heap.size + 1,6,none⟩ (.int .i64 op)).setCell ⟨w.heap.size + 1,7,none⟩ (.slice (some ⟨gm,0,none⟩) kids.length (kids.length + 1))).cell? ⟨w.heap.size + 1,0,none⟩=some (.int .i64 kind):=by go_simp
  have y_1:((((((((w3.setCell ⟨w.heap.size + 1,0,none⟩ (.int .i64 kind)).setCell ⟨w.heap.size + 1,1,none⟩ (.string attr)).setCell ⟨w.heap.size + 1,2,none⟩ (.slice (some ⟨g1,0,none⟩) ints.length k1)).setCell ⟨w.heap.size + 1,3,none⟩ (.slice (some ⟨g2,0,none⟩) words.length k2)).setCell ⟨w.heap.size + 1,4,none⟩ (.int .i64 lo)).setCell ⟨w.heap.size + 1,5,none⟩ (.int .i64 hi)).setCell ⟨w.heap.size + 1,6,none⟩ (.int .i64 op)).setCell ⟨w.heap.size + 1,7,none⟩ (.slice (some ⟨gm,0,none⟩) kids.length (kids.length + 1))).cell? ⟨w.heap.size + 1,1,none⟩=some (.string attr):=by go_simp
  have y_2:((((((((w3.setCell ⟨w.heap.size + 1,0,none⟩ (.int .i64 kind)).setCell ⟨w.heap.size + 1,1,none⟩ (.string attr)).setCell ⟨w.heap.size + 1,2,none⟩ (.slice (some ⟨g1,0,none⟩) ints.length k1)).setCell ⟨w.heap.size + 1,3,none⟩ (.slice (some ⟨g2,0,none⟩) words.length k2)).setCell ⟨w.heap.size + 1,4,none⟩ (.int .i64 lo)).setCell ⟨w.heap.size + 1,5,none⟩ (.int .i64 hi)).setCell ⟨w.heap.size + 1,6,none⟩ (.int .i64 op)).setCell ⟨w.heap.size + 1,7,none⟩ (.slice (some ⟨gm,0,none⟩) kids.length (kids.length + 1))).cell? ⟨w.heap.size + 1,2,none⟩=some (.slice (some ⟨g1,0,none⟩) ints.length k1):=by go_simp
  have y_3:((((((((w3.setCell ⟨w.heap.size + 1,0,none⟩ (.int .i64 kind)).setCell ⟨w.heap.size + 1,1,none⟩ (.string attr)).setCell ⟨w.heap.size + 1,2,none⟩ (.slice (some ⟨g1,0,none⟩) ints.length k1)).setCell ⟨w.heap.size + 1,3,none⟩ (.slice (some ⟨g2,0,none⟩) words.length k2)).setCell ⟨w.heap.size + 1,4,none⟩ (.int .i64 lo)).setCell ⟨w.heap.size + 1,5,none⟩ (.int .i64 hi)).setCell ⟨w.heap.size + 1,6,none⟩ (.int .i64 op)).setCell ⟨w.heap.size + 1,7,none⟩ (.slice (some ⟨gm,0,none⟩) kids.length (kids.length + 1))).cell? ⟨w.heap.size + 1,3,none⟩=some (.slice (some ⟨g2,0,none⟩) words.length k2):=by go_simp
  have y_4:((((((((w3.setCell ⟨w.heap.size + 1,0,none⟩ (.int .i64 kind)).setCell ⟨w.heap.size + 1,1,none⟩ (.string attr)).setCell ⟨w.heap.size + 1,2,none⟩ (.slice (some ⟨g1,0,none⟩) ints.length k1)).setCell ⟨w.heap.size + 1,3,none⟩ (.slice (some ⟨g2,0,none⟩) words.length k2)).setCell ⟨w.heap.size + 1,4,none⟩ (.int .i64 lo)).setCell ⟨w.heap.size + 1,5,none⟩ (.int .i64 hi)).setCell ⟨w.heap.size + 1,6,none⟩ (.int .i64 op)).setCell ⟨w.heap.size + 1,7,none⟩ (.slice (some ⟨gm,0,none⟩) kids.length (kids.length + 1))).cell? ⟨w.heap.size + 1,4,none⟩=some (.int .i64 lo):=by go_simp
  have y_5:((((((((w3.setCell ⟨w.heap.size + 1,0,none⟩ (.int .i64 kind)).setCell ⟨w.heap.size + 1,1,none⟩ (.string attr)).setCell ⟨w.heap.size + 1,2,none⟩ (.slice (some ⟨g1,0,none⟩) ints.length k1)).setCell ⟨w.heap.size + 1,3,none⟩ (.slice (some ⟨g2,0,none⟩) words.length k2)).setCell ⟨w.heap.size + 1,4,none⟩ (.int .i64 lo)).setCell ⟨w.heap.size + 1,5,none⟩ (.int .i64 hi)).setCell ⟨w.heap.size + 1,6,none⟩ (.int .i64 op)).setCell ⟨w.heap.size + 1,7,none⟩ (.slice (some ⟨gm,0,none⟩) kids.length (kids.length + 1))).cell? ⟨w.heap.size + 1,5,none⟩=some (.int .i64 hi):=by go_simp
  have y_6:((((((((w3.setCell ⟨w.heap.size + 1,0,none⟩ (.int .i64 kind)).setCell ⟨w.heap.size + 1,1,none⟩ (.string attr)).setCell ⟨w.heap.size + 1,2,none⟩ (.slice (some ⟨g1,0,none⟩) ints.length k1)).setCell ⟨w.heap.size + 1,3,none⟩ (.slice (some ⟨g2,0,none⟩) words.length k2)).setCell ⟨w.heap.size + 1,4,none⟩ (.int .i64 lo)).setCell ⟨w.heap.size + 1,5,none⟩ (.int .i64 hi)).setCell ⟨w.heap.size + 1,6,none⟩ (.int .i64 op)).setCell ⟨w.heap.size + 1,7,none⟩ (.slice (some ⟨gm,0,none⟩) kids.length (kids.length + 1))).cell? ⟨w.heap.size + 1,6,none⟩=some (.int .i64 op):=by go_simp
  have y_7:((((((((w3.setCell ⟨w.heap.size + 1,0,none⟩ (.int .i64 kind)).setCell ⟨w.heap.size + 1,1,none⟩ (.string attr)).setCell ⟨w.heap.size + 1,2,none⟩ (.slice (some ⟨g1,0,none⟩) ints.length k1)).setCell ⟨w.heap.size + 1,3,none⟩ (.slice (some ⟨g2,0,none⟩) words.length k2)).setCell ⟨w.heap.size + 1,4,none⟩ (.int .i64 lo)).setCell ⟨w.heap.size + 1,5,none⟩ (.int .i64 hi)).setCell ⟨w.heap.size + 1,6,none⟩ (.int .i64 op)).setCell ⟨w.heap.size + 1,7,none⟩ (.slice (some ⟨gm,0,none⟩) kids.length (kids.length + 1))).cell? ⟨w.heap.size + 1,7,none⟩=some (.slice (some ⟨gm,0,none⟩) kids.length (kids.length + 1)):=by go_simp
  have i3:=(HI1.same (w':=w3) (by omega) (fun h=>HN3 g1 hg1n.2.1 h))
  have y3:=(HW1.same (w':=w3) (by omega) (fun h=>HN3 g2 hg1n.2.2.2 h))
  have k3:=HO3.lsb
  have q3:∀ (j:Nat) (v:Nv) (x:Nd),us[j]? = some v→kids[j]? = some x→SpIn w3 V.heap.size v x:=fun j v x hj hx=>((HSP j v x hj hx).keep ((Below.refl wr.heap.size wr).alloc (Nat.le_refl _) _)).up (SameUp.grown HG3 sv2)
  have e1:g1 ≠ w.heap.size + 1:=by omega
  have e2:g2 ≠ w.heap.size + 1:=by omega
  have e3:gm ≠ w.heap.size + 1:=by omega
  refine ⟨⟨y_0,y_1,y_2,y_3,y_4,y_5,y_6,y_7⟩, ?_,set8_below (below_sub BX BW3) (Nat.le_succ _) _ _ _ _ _ _ _ _⟩
  exact SpIn.mk (vs:=us) (LsB.setOther (LsB.setOther (LsB.setOther (LsB.setOther (LsB.setOther (LsB.setOther (LsB.setOther (LsB.setOther i3 e1 _ _) e1 _ _) e1 _ _) e1 _ _) e1 _ _) e1 _ _) e1 _ _) e1 _ _) r1 z1 (LsB.setOther (LsB.setOther (LsB.setOther (LsB.setOther (LsB.setOther (LsB.setOther (LsB.setOther (LsB.setOther y3 e2 _ _) e2 _ _) e2 _ _) e2 _ _) e2 _ _) e2 _ _) e2 _ _) e2 _ _) r2 z2 (LsB.setOther (LsB.setOther (LsB.setOther (LsB.setOther (LsB.setOther (LsB.setOther (LsB.setOther (LsB.setOther k3 e3 _ _) e3 _ _) e3 _ _) e3 _ _) e3 _ _) e3 _ _) e3 _ _) e3 _ _) (Nat.le_refl _) (by unfold maxLen;omega) hlu (fun j v x hj hx=>((q3 j v x hj hx).up (SameUp.set (SameUp.set (SameUp.set (SameUp.set (SameUp.set (SameUp.set (SameUp.set (SameUp.set (SameUp.of (Below.refl _ _)) (p:=⟨w.heap.size + 1,0,none⟩) zu _) (p:=⟨w.heap.size + 1,1,none⟩) zu _) (p:=⟨w.heap.size + 1,2,none⟩) zu _) (p:=⟨w.heap.size + 1,3,none⟩) zu _) (p:=⟨w.heap.size + 1,4,none⟩) zu _) (p:=⟨w.heap.size + 1,5,none⟩) zu _) (p:=⟨w.heap.size + 1,6,none⟩) zu _) (p:=⟨w.heap.size + 1,7,none⟩) zu _)).mono (by omega)) (by omega) (by omega) (by omega)
end Go.Proofs.Ytikhopiegaoacac

/- A list of trees that grows by append: what lies outside its own block stays. -/
import Derived.Test.YtencibjmiphinaaGreatDoorEOMemNode
import Derived.Test.YtencibjmiphinaaGreatDoorEOPaPr
namespace Go.Proofs.YtencibjmiphinaaGreatDoor
open Go.RowKit Go.Sort
/-- P holds here, and wherever, from the block B on, only the block g was written since. -/
def OffP (B:Nat) (P:World->Prop) (g:Option Nat) (w:World):Prop:=∀ w':World,w.heap.size<=w'.heap.size->(∀ b,B<=b->b < w.heap.size->some b ≠ g->w'.heap[b]? = w.heap[b]?)->P w'
theorem OffP.imp {B:Nat} {P Q:World->Prop} {g:Option Nat} {w:World} (h:OffP B P g w) (hi:∀ w,P w->Q w):OffP B Q g w:=fun w' hs hc=>hi _ (h w' hs hc)
theorem OffP.and {B:Nat} {P Q:World->Prop} {g:Option Nat} {w:World} (h:OffP B P g w) (k:OffP B Q g w):OffP B (fun w=>P w/\Q w) g w:=fun w' hs hc=>⟨h w' hs hc,k w' hs hc⟩
theorem OffP.below {B:Nat} {P:World->Prop} {g:Option Nat} {w w':World} (h:OffP B P g w) (hb:Below w.heap.size w w'):OffP B P g w':=fun w'' hs hc =>
 h w'' (Nat.le_trans hb.size hs) fun b hB hlt hne=>(hc b hB (Nat.lt_of_lt_of_le hlt hb.size) hne).trans (hb.block b hlt)
theorem OffP.step {B:Nat} {P:World->Prop} {g g':Option Nat} {w w':World} (h:OffP B P g w) (hg:w.grownBy w' g) (hor:g'=g ∨ g'=some w.heap.size):OffP B P g' w':=fun w'' hs hc =>
 h w'' (Nat.le_trans hg.size hs) fun b hB hlt hne=>(hc b hB (Nat.lt_of_lt_of_le hlt hg.size) (hor.elim (fun e=>by rw [e];exact hne) (fun e=>by rw [e];intro e2;cases e2;omega))).trans (hg.block b hlt hne)
theorem OffP.set {B:Nat} {P:World->Prop} {g:Option Nat} {w:World} (h:OffP B P g w) {p:Addr} (hp:p.block < B) (u:Value):OffP B P g (w.setCell p u):=fun w'' hs hc =>
 h w'' (by simpa using hs) fun b hB hlt hne=>(hc b hB (by simpa using hlt) hne).trans (Below.heap_setCell w p u b (by show b ≠ p.block;omega))
theorem OffP.from {B:Nat} {w:World} {C:Nat} {v:Nv} {x:Nd} {g:Option Nat} (h:NdFrom w C v x) (hB:B<=C) (hg:∀ b,g=some b->b < C):OffP B (fun w=>NdFrom w C v x) g w:=fun _ hs hc =>
 h.up ⟨hs,fun b hb hlt=>hc b (by omega) hlt fun e=>by have:=hg b e.symm;omega⟩
theorem OwnK.ownGe {B c k:Nat} {w:World} {q:Option Addr} {l:List Nv} (h:OwnK encV 29 8 B w q c l) (hl:l.length=k):∀ b,(Value.slice q k c).ownBlock=some b->B<=b:=fun b e=>by
 subst hl
 exact (World.ownsRow.lt h b e).1
section
variable {α : Type} [Inhabited α] {enc : α -> List Value} {t e : TypeId} {k bytes : Nat}
/-- append, with where the answer's block is. -/
theorem wp_appG (R:RowOf enc t e k bytes) {o:Oper} {a:Act} {w:World} {K:Act->World->Prop} {Q:Exit->Act->World->Prop} (s x:Operand)
  (ho:o.op=.call { callee:=.builtin .append,args:=#[s,x],argTypes:=#[t,t] }) (B:Nat) (q:Option Addr) (cap:Nat) (l:List α) (ad:Addr) (c:Nat) (m:List α) (n n' N:Nat) (hn:l.length=n) (hn':m.length=n') (hN:n + n'=N)
  (es:a.eval s=.slice q n cap) (ex:a.eval x=.slice (some ad) n' c) (hown:OwnK enc e k B w q cap l) (hs:SrcK enc k w (some ad) c m) (hm:N<=maxLen) (hb:N * bytes<=140737488355328) (hB:B<=w.heap.size)
  (h:∀ q' cap' w',OwnK enc e k B w' q' cap' (l ++ m)->Below B w w'->w.grownBy w' (Value.slice q n cap).ownBlock->((Value.slice q' N cap').ownBlock=(Value.slice q n cap).ownBlock ∨ (Value.slice q' N cap').ownBlock=some w.heap.size)->K (a.put o.dst (.slice q' N cap')) w'):o.wp Tryz.prog a w K Q:=by
 subst hn hn' hN
 obtain ⟨i0,z,hi,hz,hsz,hby,hzs⟩:=R.info
 obtain ⟨v',w',hr,hO,hg,hnil,hor⟩:=run_append_own_at (P:=Tryz.prog) w B t o.type e i0 z k bytes R.und hi hz hsz hby hzs R.pos _ _ _ hown ad m.length c (flatK enc k m.toArray).toList (by simp) (hs.2 ad rfl) (R.one m) hm hb hB
 obtain ⟨q',cap',rfl,hq⟩:=OwnK.shape hO
 unfold Oper.wp execOp
 simp only [ho,resolve,invoke,builtin,Sem.run_bind,Sem.run_pure,Result.andThen_ok,List.map_toArray,List.map_cons,List.map_nil,es,ex,hr]
 refine h q' cap' w' ?_ ((Below.refl _ _).grown hg hB fun j hj=>(World.ownsRow.lt hown j hj).1) hg hor
 unfold OwnK
 rw [flat_app enc k R.pos,List.length_append]
 exact hO
theorem wpList_appG (R:RowOf enc t e k bytes) {ops:Array Oper} {rest:List Oper} {o:Oper} {a:Act} {w:World} {Q:Exit->Act->World->Prop} (hgd:o.guard=none) (s x:Operand)
  (ho:o.op=.call { callee:=.builtin .append,args:=#[s,x],argTypes:=#[t,t] }) (B:Nat) (q:Option Addr) (cap:Nat) (l:List α) (ad:Addr) (c:Nat) (m:List α) (n n' N:Nat) (hn:l.length=n) (hn':m.length=n') (hN:n + n'=N)
  (es:a.eval s=.slice q n cap) (ex:a.eval x=.slice (some ad) n' c) (hown:OwnK enc e k B w q cap l) (hs:SrcK enc k w (some ad) c m) (hm:N<=maxLen) (hb:N * bytes<=140737488355328) (hB:B<=w.heap.size)
  (h:∀ q' cap' w',OwnK enc e k B w' q' cap' (l ++ m)->Below B w w'->w.grownBy w' (Value.slice q n cap).ownBlock->((Value.slice q' N cap').ownBlock=(Value.slice q n cap).ownBlock ∨ (Value.slice q' N cap').ownBlock=some w.heap.size)->wpList Tryz.prog ops Q rest (a.put o.dst (.slice q' N cap')) w'):wpList Tryz.prog ops Q (o :: rest) a w :=
 wpList_plain hgd fun _ hK=>wp_appG R s x ho B q cap l ad c m n n' N hn hn' hN es ex hown hs hm hb hB fun q' cap' w' h2 h3 h4 h5=>hK _ _ (h q' cap' w' h2 h3 h4 h5)
end
end Go.Proofs.YtencibjmiphinaaGreatDoor
namespace Go.Proofs.YtencibjmiphinaaGreatDoor
open Go.RowKit
/-- How many tokens are left, read off the box. -/
def lnAt (g:Nat) (w:World):Nat:=match w.cell? ⟨g,0,none⟩ with
 | some (.slice _ n _)=>n
 | _=>0
theorem Ps.ln {w:World} {g:Nat} {en:Int} {l:List Tk} (h:Ps w g en l):lnAt g w=l.length:=by
 obtain ⟨q,c,h0,_⟩:=h
 unfold lnAt;rw [(of2 h0).1]
theorem own_far {α:Type} [Inhabited α] {enc:α->List Value} {e:TypeId} {k B g:Nat} {w w':World} {q:Option Addr} {c:Nat} {l:List α} (h:OwnK enc e k B w q c l) (hg:w.grownBy w' (some g)) (hB:g < B):OwnK enc e k B w' q c l:=by
 refine World.ownsRow.kept h hg ?_
 cases e:(Value.slice q l.length c).ownBlock with
 | none=>exact Or.inl rfl
 | some b=>right;intro e2;have:=(World.ownsRow.lt h _ e).1;cases e2;omega
theorem oneV {w:World} {b:Nat} {v:Nv} (h:w.heap[b]? = some (.cells #[.int .i64 v.kind,.string v.attr,.slice v.qi v.ni v.ci,.slice v.qw v.nw v.cw,.int .i64 v.lo,.int .i64 v.hi,.int .i64 v.op,.slice v.qk v.nk v.ck] 29)):SrcK encV 8 w (some ⟨b,0,none⟩) 1 [v]:=by
 obtain ⟨c0,c1,c2,c3,c4,c5,c6,c7⟩:=of8' h
 refine LsOf.src (fun h=>by cases h) (LsOf.one (Array.getElem?_eq_some_iff.1 h).1 (fun c hc=>?_))
 match c,hc with
 | 0,_=>exact c0
 | 1,_=>exact c1
 | 2,_=>exact c2
 | 3,_=>exact c3
 | 4,_=>exact c4
 | 5,_=>exact c5
 | 6,_=>exact c6
 | 7,_=>exact c7
theorem NdOwn.nd {w:World} {v:Nv} {t:Nd} {S:List Nat} (h:NdOwn w v t S):S.Nodup:=by cases h;assumption
theorem bk_own (q:Option Addr) (n c:Nat):(Value.slice q n c).ownBlock.toList=bk q:=by cases q <;> rfl
/-- The kids' trees: rows of their own, apart from each other and from the row of kids. -/
def KdS (B:Nat) (ks:List Nd) (us:List Nv) (q:Option Addr) (w:World):Prop:=∃ Ss:List (List Nat),Ss.length=ks.length/\(∀ (j:Nat) (v:Nv) (x:Nd) (S:List Nat),us[j]? = some v->ks[j]? = some x->Ss[j]? = some S->NdOwn w v x S)/\(bk q ++ Ss.flatten).Nodup/\∀ b ∈ Ss.flatten,B<=b
/-- The kids so far: their row, and their trees. -/
def Kd (B:Nat) (ks:List Nd) (q:Option Addr) (c:Nat) (w:World):Prop:=∃ us,us.length=ks.length/\OwnK encV 29 8 B w q c us/\KdS B ks us q w
theorem kids_lt {w:World} {ks:List Nd} {us:List Nv} {Ss:List (List Nat)} (hu:us.length=ks.length) (hs:Ss.length=ks.length) (hr:∀ (j:Nat) (v:Nv) (x:Nd) (S:List Nat),us[j]? = some v->ks[j]? = some x->Ss[j]? = some S->NdOwn w v x S):∀ b ∈ Ss.flatten,b < w.heap.size:=by
 intro b hb
 obtain ⟨S,hS,hb⟩:=List.mem_flatten.1 hb
 obtain ⟨j,hj,rfl⟩:=List.mem_iff_getElem.1 hS
 obtain ⟨v,hv⟩:=get_some (j:=j) hu (by omega)
 obtain ⟨x,hx⟩:=get_some (l:=ks) (j:=j) rfl (by omega)
 exact (hr j v x _ hv hx (List.getElem?_eq_getElem hj)).lt b hb
theorem Kd.far {B g:Nat} {ks:List Nd} {q:Option Addr} {c:Nat} {w w':World} (h:Kd B ks q c w) (hg:w.grownBy w' (some g)) (hB:g < B):Kd B ks q c w':=by
 obtain ⟨us,h1,h2,Ss,h3,h4,h5,h6⟩:=h
 have hlt:=kids_lt h1 h3 h4
 exact ⟨us,h1,own_far h2 hg hB,Ss,h3,fun j v x S hv hx hS=>(h4 j v x S hv hx hS).blk (fun b hb=>hg.block b (hlt b (mem_flat hS hb)) (fun e=>by cases e;have:=h6 g (mem_flat hS hb);omega)),h5,h6⟩
theorem Kd.nil (B:Nat) (w:World):Kd B [] none 0 w:=⟨[],rfl,OwnK.nil _ _,[],rfl,fun j v x S h=>by simp at h,by simp [bk],by simp⟩
/-- The first one: a list literal of one. -/
theorem Kd.one {B:Nat} {v:Nv} {x:Nd} {w:World} (hv:NdFrom w B v x) (hB:B<=w.heap.size):Kd B [x] (some ⟨w.heap.size,0,none⟩) 1 (w.alloc (.cells #[.int .i64 v.kind,.string v.attr,.slice v.qi v.ni v.ci,.slice v.qw v.nw v.cw,.int .i64 v.lo,.int .i64 v.hi,.int .i64 v.op,.slice v.qk v.nk v.ck] 29)):=by
 have hb:=box_nw w (.cells #[.int .i64 v.kind,.string v.attr,.slice v.qi v.ni v.ci,.slice v.qw v.nw v.cw,.int .i64 v.lo,.int .i64 v.hi,.int .i64 v.op,.slice v.qk v.nk v.ck] 29)
 obtain ⟨T,hT,hTB⟩:=hv
 have hlt:=hT.lt
 refine ⟨[v],rfl, ?_,[T],rfl, ?_, ?_, ?_⟩
 ·unfold OwnK;exact ⟨by simp,Or.inr ⟨w.heap.size,1,_,rfl,hB,hb,Nat.le_refl _,by unfold maxLen;omega,rfl,by simp only [Go.Sort.flatK,Array.toList_map,Array.toList_range];simp [List.range,List.range.loop,encV]⟩⟩
 ·intro j y z S hj hz hS
  cases j with
  | succ j=>simp at hj
  | zero =>
   cases hj;cases hz;cases hS
   exact hT.blk fun b hb=>Below.block ((Below.refl w.heap.size w).alloc (Nat.le_refl _) _) b (hlt b hb)
 ·simp only [bk,Option.map_some,Option.toList_some,List.flatten_cons,List.flatten_nil,List.append_nil,List.singleton_append,List.nodup_cons]
  exact ⟨fun h=>Nat.lt_irrefl _ (hlt _ h),hT.nd⟩
 ·simpa using hTB
theorem chG_none {s:ByteArray} {f:List Tk->Rs Nd} {n:Nat} {ks:List Nd} {l:List Tk} (h:skL s l=none):chG s f (n + 1) ks l=.ok ks l:=by simp only [chG,h]
theorem chG_bad {s:ByteArray} {f:List Tk->Rs Nd} {n:Nat} {ks:List Nd} {l r:List Tk} {p:Int} (h:skL s l=some r) (hf:f r=.bad p):chG s f (n + 1) ks l=.bad p:=by simp only [chG,h,hf]
theorem chG_more {s:ByteArray} {f:List Tk->Rs Nd} {n:Nat} {ks:List Nd} {l r r':List Tk} {x:Nd} (h:skL s l=some r) (hf:f r=.ok x r'):chG s f (n + 1) ks l=chG s f n (ks ++ [x]) r':=by simp only [chG,h,hf]
/-- The loop stands at l, the operands so far are ks. -/
def Ch (s:ByteArray) (f:List Tk->Rs Nd) (l0:List Tk) (x0:Nd) (r0:List Tk) (ks:List Nd) (l:List Tk):Prop:=f l0=.ok x0 r0/\∃ n,l.length<=n/\chG s f (r0.length + 1) [x0] r0=chG s f (n + 1) ks l
theorem Ch.first {s:ByteArray} {f:List Tk->Rs Nd} {l r:List Tk} {x:Nd} (h:f l=.ok x r):Ch s f l x r [x] r:=⟨h,r.length,Nat.le_refl _,rfl⟩
theorem Ch.more {s:ByteArray} {f:List Tk->Rs Nd} {l0 r0 l r r':List Tk} {x0 x:Nd} {ks:List Nd} (a:Ch s f l0 x0 r0 ks l) (h:skL s l=some r) (hf:f r=.ok x r') (hl:r'.length<=r.length):Ch s f l0 x0 r0 (ks ++ [x]) r':=by
 obtain ⟨h0,n,h1,h2⟩:=a
 have e1:=skL_len h
 obtain ⟨m,rfl⟩:∃ m,n=m + 1:=⟨n - 1,by omega⟩
 exact ⟨h0,m,by omega,h2.trans (chG_more h hf)⟩
theorem Ch.bad {s:ByteArray} {f:List Tk->Rs Nd} {op:Int} {l0 r0 l r:List Tk} {x0:Nd} {ks:List Nd} {p:Int} (a:Ch s f l0 x0 r0 ks l) (h:skL s l=some r) (hf:f r=.bad p):chL op s f l0=.bad p:=by
 obtain ⟨h0,n,h1,h2⟩:=a
 simp only [chL,h0,h2.trans (chG_bad h hf)]
theorem Ch.done {s:ByteArray} {f:List Tk->Rs Nd} {op:Int} {l0 r0 l:List Tk} {x0:Nd} {ks:List Nd} (a:Ch s f l0 x0 r0 ks l) (h:skL s l=none):chL op s f l0=.ok (jnT op ks) l:=by
 obtain ⟨h0,n,h1,h2⟩:=a
 simp only [chL,h0,h2.trans (chG_none h)]
end Go.Proofs.YtencibjmiphinaaGreatDoor

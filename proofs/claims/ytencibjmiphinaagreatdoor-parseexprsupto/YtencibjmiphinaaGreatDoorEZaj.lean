/- A list of trees that grows by append: what lies outside its own block stays. -/
import Derived.Test.YtencibjmiphinaaGreatDoorEMemNode
import Derived.Test.YtencibjmiphinaaGreatDoorEZag
namespace Go.Proofs.YtencibjmiphinaaGreatDoor
open Go.RowKit Go.Sort

/-- P holds here, and wherever, from the block B on, only the block g was written since. -/
def OffP (B:Nat) (P:World→Prop) (g:Option Nat) (w:World):Prop:=∀ w':World,w.heap.size≤w'.heap.size→(∀ b o,B≤b→b < w.heap.size→some b ≠ g→w'.cell? ⟨b,o,none⟩=w.cell? ⟨b,o,none⟩)→P w'
theorem OffP.now {B:Nat} {P:World→Prop} {g:Option Nat} {w:World} (h:OffP B P g w):P w:=h w (Nat.le_refl _) fun _ _ _ _ _=>rfl
theorem OffP.imp {B:Nat} {P Q:World→Prop} {g:Option Nat} {w:World} (h:OffP B P g w) (hi:∀ w,P w→Q w):OffP B Q g w:=fun w' hs hc=>hi _ (h w' hs hc)
theorem OffP.and {B:Nat} {P Q:World→Prop} {g:Option Nat} {w:World} (h:OffP B P g w) (k:OffP B Q g w):OffP B (fun w=>P w∧Q w) g w:=fun w' hs hc=>⟨h w' hs hc,k w' hs hc⟩
theorem OffP.below {B:Nat} {P:World→Prop} {g:Option Nat} {w w':World} (h:OffP B P g w) (hb:Below w.heap.size w w'):OffP B P g w':=fun w'' hs hc =>
 h w'' (Nat.le_trans hb.size hs) fun b o hB hlt hne=>(hc b o hB (Nat.lt_of_lt_of_le hlt hb.size) hne).trans (hb.cell (p:=⟨b,o,none⟩) hlt)
theorem OffP.step {B:Nat} {P:World→Prop} {g g':Option Nat} {w w':World} (h:OffP B P g w) (hg:w.grownBy w' g) (hor:g'=g ∨ g'=some w.heap.size):OffP B P g' w':=fun w'' hs hc =>
 h w'' (Nat.le_trans hg.size hs) fun b o hB hlt hne=>(hc b o hB (Nat.lt_of_lt_of_le hlt hg.size) (hor.elim (fun e=>by rw [e];exact hne) (fun e=>by rw [e];intro e2;cases e2;omega))).trans (World.cell?_of_block (w:=w) (a:=⟨b,o,none⟩) (hg.block b hlt hne))
theorem OffP.set {B:Nat} {P:World→Prop} {g:Option Nat} {w:World} (h:OffP B P g w) {p:Addr} (hp:p.block < B) (u:Value):OffP B P g (w.setCell p u):=fun w'' hs hc =>
 h w'' (by simpa using hs) fun b o hB hlt hne=>(hc b o hB (by simpa using hlt) hne).trans (World.cell?_of_block (w:=w) (a:=⟨b,o,none⟩) (Below.heap_setCell w p u b (by show b ≠ p.block;omega)))
theorem OffP.from {B:Nat} {w:World} {C:Nat} {v:Nv} {x:Nd} {g:Option Nat} (h:NdFrom w C v x) (hB:B≤C) (hg:∀ b,g=some b→b < C):OffP B (fun w=>NdFrom w C v x) g w:=fun _ hs hc =>
 h.up ⟨hs,fun b o hb hlt=>hc b o (by omega) hlt fun e=>by have:=hg b e.symm;omega⟩
theorem snoc_all {Q:Nv→Nd→Prop} {kids:List Nd} {us:List Nv} {v:Nv} {x:Nd} {k:Nat} (h:∀ (j:Nat) (v:Nv) (x:Nd),us[j]? = some v→kids[j]? = some x→Q v x) (hu:us.length=k) (hx:kids[k]? = some x) (sp:Q v x):∀ (j:Nat) (y:Nv) (z:Nd),(us ++ [v])[j]? = some y→kids[j]? = some z→Q y z:=by
 intro j y z hj hz
 by_cases hjk:j < k
 ·rw [List.getElem?_append_left (by omega)] at hj
  exact h j y z hj hz
 ·have hj2:=(List.getElem?_eq_some_iff.1 hj).1
  rw [List.length_append,hu] at hj2
  obtain rfl:j=k:=by simp at hj2;omega
  rw [List.getElem?_append_right (by omega),hu,Nat.sub_self] at hj
  rw [hx] at hz
  cases hj
  cases hz
  exact sp
def MineIn (B:Nat) (kids:List Nd) (us:List Nv) (w:World):Prop:=∀ (j:Nat) (v:Nv) (x:Nd),us[j]? = some v→kids[j]? = some x→SpIn w B v x
theorem MineIn.snoc {B:Nat} {kids:List Nd} {us:List Nv} {w:World} {v:Nv} {x:Nd} {k:Nat} (h:MineIn B kids us w) (hu:us.length=k) (hx:kids[k]? = some x) (sp:SpIn w B v x):MineIn B kids (us ++ [v]) w:=snoc_all h hu hx sp
def FromIn (B:Nat) (kids:List Nd) (us:List Nv) (w:World):Prop:=∀ (j:Nat) (v:Nv) (x:Nd),us[j]? = some v→kids[j]? = some x→NdFrom w B v x
theorem OwnK.ownLt {B c k:Nat} {w:World} {q:Option Addr} {l:List Nv} (h:OwnK encV 29 8 B w q c l) (hl:l.length=k):∀ b,(Value.slice q k c).ownBlock=some b→b < w.heap.size:=fun b e=>by
 subst hl
 exact (World.ownsRow.lt h b e).2
theorem OwnK.ownGe {B c k:Nat} {w:World} {q:Option Addr} {l:List Nv} (h:OwnK encV 29 8 B w q c l) (hl:l.length=k):∀ b,(Value.slice q k c).ownBlock=some b→B≤b:=fun b e=>by
 subst hl
 exact (World.ownsRow.lt h b e).1
section
variable {α : Type} [Inhabited α] {enc : α → List Value} {t e : TypeId} {k bytes : Nat}
/-- append, with where the answer's block is. -/
theorem wp_appG (R:RowOf enc t e k bytes) {o:Oper} {a:Act} {w:World} {K:Act→World→Prop} {Q:Exit→Act→World→Prop} (s x:Operand)
  (ho:o.op=.call { callee:=.builtin .append,args:=#[s,x],argTypes:=#[t,t] }) (B:Nat) (q:Option Addr) (cap:Nat) (l:List α) (ad:Addr) (c:Nat) (m:List α) (n n' N:Nat) (hn:l.length=n) (hn':m.length=n') (hN:n + n'=N)
  (es:a.eval s=.slice q n cap) (ex:a.eval x=.slice (some ad) n' c) (hown:OwnK enc e k B w q cap l) (hs:SrcK enc k w (some ad) c m) (hm:N≤maxLen) (hb:N * bytes≤140737488355328) (hB:B≤w.heap.size)
  (h:∀ q' cap' w',OwnK enc e k B w' q' cap' (l ++ m)→Below B w w'→w.grownBy w' (Value.slice q n cap).ownBlock→((Value.slice q' N cap').ownBlock=(Value.slice q n cap).ownBlock ∨ (Value.slice q' N cap').ownBlock=some w.heap.size)→K (a.put o.dst (.slice q' N cap')) w'):o.wp Tryz.prog a w K Q:=by
 subst hn hn' hN
 obtain ⟨i0,z,hi,hz,hsz,hby,hzs⟩:=R.info
 obtain ⟨v',w',hr,hO,hg,hnil,hor⟩:=run_append_own_at (P:=Tryz.prog) w B t o.type e i0 z k bytes R.und hi hz hsz hby hzs R.pos _ _ _ hown ad m.length c (flatK enc k m.toArray).toList (by simp) (hs.2 ad rfl) (R.one m) hm hb hB
 obtain ⟨q',cap',rfl,hq⟩:=OwnK.shape hO
 unfold Oper.wp execOp
 simp only [ho,resolve,invoke,builtin,Sem.run_bind,Sem.run_pure,Result.andThen_ok,List.map_toArray,List.map_cons,List.map_nil,es,ex,hr]
 refine h q' cap' w' ?_ ((Below.refl _ _).grown hg hB fun j hj=>(World.ownsRow.lt hown j hj).1) hg hor
 unfold OwnK
 rw [flat_app enc k R.pos,List.length_append]
 exact hO
theorem wpList_appG (R:RowOf enc t e k bytes) {ops:Array Oper} {rest:List Oper} {o:Oper} {a:Act} {w:World} {Q:Exit→Act→World→Prop} (hgd:o.guard=none) (s x:Operand)
  (ho:o.op=.call { callee:=.builtin .append,args:=#[s,x],argTypes:=#[t,t] }) (B:Nat) (q:Option Addr) (cap:Nat) (l:List α) (ad:Addr) (c:Nat) (m:List α) (n n' N:Nat) (hn:l.length=n) (hn':m.length=n') (hN:n + n'=N)
  (es:a.eval s=.slice q n cap) (ex:a.eval x=.slice (some ad) n' c) (hown:OwnK enc e k B w q cap l) (hs:SrcK enc k w (some ad) c m) (hm:N≤maxLen) (hb:N * bytes≤140737488355328) (hB:B≤w.heap.size)
  (h:∀ q' cap' w',OwnK enc e k B w' q' cap' (l ++ m)→Below B w w'→w.grownBy w' (Value.slice q n cap).ownBlock→((Value.slice q' N cap').ownBlock=(Value.slice q n cap).ownBlock ∨ (Value.slice q' N cap').ownBlock=some w.heap.size)→wpList Tryz.prog ops Q rest (a.put o.dst (.slice q' N cap')) w'):wpList Tryz.prog ops Q (o :: rest) a w :=
 wpList_plain hgd fun _ hK=>wp_appG R s x ho B q cap l ad c m n n' N hn hn' hN es ex hown hs hm hb hB fun q' cap' w' h2 h3 h4 h5=>hK _ _ (h q' cap' w' h2 h3 h4 h5)
end
end Go.Proofs.YtencibjmiphinaaGreatDoor
namespace Go.Proofs.YtencibjmiphinaaGreatDoor
open Go.RowKit

/-- How many tokens are left, read off the box. -/
def lnAt (g:Nat) (w:World):Nat:=match w.cell? ⟨g,0,none⟩ with
 | some (.slice _ n _)=>n
 | _=>0
theorem Ps.ln {w:World} {g:Nat} {en:Int} {l:List Tk} (h:Ps w g en l):lnAt g w=l.length:=by
 obtain ⟨q,c,h0,_⟩:=h
 unfold lnAt;rw [(of2 h0).1]
theorem OffP.far {B g:Nat} {P:World→Prop} {o:Option Nat} {w w':World} (h:OffP B P o w) (hg:w.grownBy w' (some g)) (hB:g < B):OffP B P o w':=fun w'' hs hc =>
 h w'' (Nat.le_trans hg.size hs) fun b ofs hb hlt hne=>(hc b ofs hb (Nat.lt_of_lt_of_le hlt hg.size) hne).trans (hg.cell_far ⟨b,ofs,none⟩ hlt (fun e=>by have e2:b=g:=(by simpa using e);omega))
theorem own_far {α:Type} [Inhabited α] {enc:α→List Value} {e:TypeId} {k B g:Nat} {w w':World} {q:Option Addr} {c:Nat} {l:List α} (h:OwnK enc e k B w q c l) (hg:w.grownBy w' (some g)) (hB:g < B):OwnK enc e k B w' q c l:=by
 refine World.ownsRow.kept h hg ?_
 cases e:(Value.slice q l.length c).ownBlock with
 | none=>exact Or.inl rfl
 | some b=>right;intro e2;have:=(World.ownsRow.lt h _ e).1;cases e2;omega
theorem FromIn.snoc {B:Nat} {ks:List Nd} {us:List Nv} {w:World} {v:Nv} {x:Nd} (h:FromIn B ks us w) (hl:us.length=ks.length) (hv:NdFrom w B v x):FromIn B (ks ++ [x]) (us ++ [v]) w:=by
 intro j y z hj hz
 by_cases hlt:j < us.length
 ·rw [List.getElem?_append_left hlt] at hj
  rw [List.getElem?_append_left (by omega)] at hz
  exact h j y z hj hz
 ·rw [List.getElem?_append_right (by omega)] at hj
  rw [List.getElem?_append_right (by omega)] at hz
  have e1:j - us.length=0:=by
   have:=(List.getElem?_eq_some_iff.1 hj).1
   simp at this;omega
  rw [e1] at hj
  rw [← hl,e1] at hz
  cases hj;cases hz;exact hv
theorem oneV {w:World} {b:Nat} {v:Nv} (h:w.heap[b]? = some (.cells #[.int .i64 v.kind,.string v.attr,.slice v.qi v.ni v.ci,.slice v.qw v.nw v.cw,.int .i64 v.lo,.int .i64 v.hi,.int .i64 v.op,.slice v.qk v.nk v.ck] 29)):SrcK encV 8 w (some ⟨b,0,none⟩) 1 [v]:=by
 obtain ⟨c0,c1,c2,c3,c4,c5,c6,c7⟩:=of8' h
 refine LsOf.src (fun h=>by cases h) (LsOf.one (Array.getElem?_eq_some_iff.1 h).1 (fun c hc=>?_))
 match c,hc with
 | 0,_=>exact c0
 | 1,_=>exact c1
 | 2,_=>exact c2
 | 3,_=>exact c3
 | 4,_=>exact c4
 | 5,_=>exact c5
 | 6,_=>exact c6
 | 7,_=>exact c7
/-- The kids so far: their row, and their trees. -/
def Kd (B:Nat) (ks:List Nd) (q:Option Addr) (c:Nat) (w:World):Prop:=∃ us,us.length=ks.length∧OwnK encV 29 8 B w q c us∧OffP B (FromIn B ks us) (Value.slice q ks.length c).ownBlock w
theorem Kd.far {B g:Nat} {ks:List Nd} {q:Option Addr} {c:Nat} {w w':World} (h:Kd B ks q c w) (hg:w.grownBy w' (some g)) (hB:g < B):Kd B ks q c w':=by
 obtain ⟨us,h1,h2,h3⟩:=h
 exact ⟨us,h1,own_far h2 hg hB,h3.far hg hB⟩
theorem Kd.nil (B:Nat) (w:World):Kd B [] none 0 w:=⟨[],rfl,OwnK.nil _ _,fun _ _ _ j v x h=>by simp at h⟩
/-- The first one: a list literal of one. -/
theorem Kd.one {B:Nat} {v:Nv} {x:Nd} {w:World} (hv:NdFrom w B v x) (hB:B≤w.heap.size):Kd B [x] (some ⟨w.heap.size,0,none⟩) 1 (w.alloc (.cells #[.int .i64 v.kind,.string v.attr,.slice v.qi v.ni v.ci,.slice v.qw v.nw v.cw,.int .i64 v.lo,.int .i64 v.hi,.int .i64 v.op,.slice v.qk v.nk v.ck] 29)):=by
 have hb:=box_nw w (.cells #[.int .i64 v.kind,.string v.attr,.slice v.qi v.ni v.ci,.slice v.qw v.nw v.cw,.int .i64 v.lo,.int .i64 v.hi,.int .i64 v.op,.slice v.qk v.nk v.ck] 29)
 refine ⟨[v],rfl, ?_, ?_⟩
 ·unfold OwnK;exact ⟨by simp,Or.inr ⟨w.heap.size,1,_,rfl,hB,hb,Nat.le_refl _,by unfold maxLen;omega,rfl,by simp only [Go.Sort.flatK,Array.toList_map,Array.toList_range];simp [List.range,List.range.loop,encV]⟩⟩
 ·intro w' hs hc j y z hj hz
  cases j with
  | succ j=>simp at hj
  | zero =>
   cases hj;cases hz
   refine hv.up ⟨by simp at hs;omega,fun b o h1 h2=>(hc b o h1 (by simp;omega) (fun e=>?_)).trans (Below.cell ((Below.refl w.heap.size w).alloc (Nat.le_refl _) _) (p:=⟨b,o,none⟩) h2)⟩
   simp [Value.ownBlock] at e;omega
theorem chG_none {s:ByteArray} {f:List Tk→Rs Nd} {n:Nat} {ks:List Nd} {l:List Tk} (h:skL s l=none):chG s f (n + 1) ks l=.ok ks l:=by simp only [chG,h]
theorem chG_bad {s:ByteArray} {f:List Tk→Rs Nd} {n:Nat} {ks:List Nd} {l r:List Tk} {p:Int} (h:skL s l=some r) (hf:f r=.bad p):chG s f (n + 1) ks l=.bad p:=by simp only [chG,h,hf]
theorem chG_more {s:ByteArray} {f:List Tk→Rs Nd} {n:Nat} {ks:List Nd} {l r r':List Tk} {x:Nd} (h:skL s l=some r) (hf:f r=.ok x r'):chG s f (n + 1) ks l=chG s f n (ks ++ [x]) r':=by simp only [chG,h,hf]
/-- The loop stands at l, the operands so far are ks. -/
def Ch (s:ByteArray) (f:List Tk→Rs Nd) (l0:List Tk) (x0:Nd) (r0:List Tk) (ks:List Nd) (l:List Tk):Prop:=f l0=.ok x0 r0∧∃ n,l.length≤n∧chG s f (r0.length + 1) [x0] r0=chG s f (n + 1) ks l
theorem Ch.first {s:ByteArray} {f:List Tk→Rs Nd} {l r:List Tk} {x:Nd} (h:f l=.ok x r):Ch s f l x r [x] r:=⟨h,r.length,Nat.le_refl _,rfl⟩
theorem Ch.more {s:ByteArray} {f:List Tk→Rs Nd} {l0 r0 l r r':List Tk} {x0 x:Nd} {ks:List Nd} (a:Ch s f l0 x0 r0 ks l) (h:skL s l=some r) (hf:f r=.ok x r') (hl:r'.length≤r.length):Ch s f l0 x0 r0 (ks ++ [x]) r':=by
 obtain ⟨h0,n,h1,h2⟩:=a
 have e1:=skL_len h
 obtain ⟨m,rfl⟩:∃ m,n=m + 1:=⟨n - 1,by omega⟩
 exact ⟨h0,m,by omega,h2.trans (chG_more h hf)⟩
theorem Ch.bad {s:ByteArray} {f:List Tk→Rs Nd} {op:Int} {l0 r0 l r:List Tk} {x0:Nd} {ks:List Nd} {p:Int} (a:Ch s f l0 x0 r0 ks l) (h:skL s l=some r) (hf:f r=.bad p):chL op s f l0=.bad p:=by
 obtain ⟨h0,n,h1,h2⟩:=a
 simp only [chL,h0,h2.trans (chG_bad h hf)]
theorem Ch.done {s:ByteArray} {f:List Tk→Rs Nd} {op:Int} {l0 r0 l:List Tk} {x0:Nd} {ks:List Nd} (a:Ch s f l0 x0 r0 ks l) (h:skL s l=none):chL op s f l0=.ok (jnT op ks) l:=by
 obtain ⟨h0,n,h1,h2⟩:=a
 simp only [chL,h0,h2.trans (chG_none h)]
end Go.Proofs.YtencibjmiphinaaGreatDoor
namespace Go.Proofs.YtencibjmiphinaaGreatDoor
open Go.RowKit

theorem kd_snoc {B g c cap2:Nat} {ks:List Nd} {us:List Nv} {q q2:Option Addr} {w3 w4 w6:World} {v:Nv} {x:Nd} (hu:us.length=ks.length) (ho:OwnK encV 29 8 B w3 q c us) (hf:OffP B (FromIn B ks us) (Value.slice q ks.length c).ownBlock w3) (hg:w3.grownBy w4 (some g)) (hgB:g < B) (hv:NdFrom w4 w3.heap.size v x) (hB:B≤w3.heap.size)
  (ho2:OwnK encV 29 8 B w6 q2 cap2 (us ++ [v])) (hg2:(w4.alloc (.cells #[.int .i64 v.kind,.string v.attr,.slice v.qi v.ni v.ci,.slice v.qw v.nw v.cw,.int .i64 v.lo,.int .i64 v.hi,.int .i64 v.op,.slice v.qk v.nk v.ck] 29)).grownBy w6 (Value.slice q ks.length c).ownBlock) (hor:(Value.slice q2 (ks.length + 1) cap2).ownBlock=(Value.slice q ks.length c).ownBlock ∨ (Value.slice q2 (ks.length + 1) cap2).ownBlock=some (w4.alloc (.cells #[.int .i64 v.kind,.string v.attr,.slice v.qi v.ni v.ci,.slice v.qw v.nw v.cw,.int .i64 v.lo,.int .i64 v.hi,.int .i64 v.op,.slice v.qk v.nk v.ck] 29)).heap.size):Kd B (ks ++ [x]) q2 cap2 w6:=by
 have hlt:=ho.ownLt hu
 have p1:=hf.far hg hgB
 have p2:OffP B (fun W=>NdFrom W w3.heap.size v x) (Value.slice q ks.length c).ownBlock w4:=OffP.from hv hB hlt
 have p3:=((p1.and p2).below ((Below.refl w4.heap.size w4).alloc (Nat.le_refl _) (.cells #[.int .i64 v.kind,.string v.attr,.slice v.qi v.ni v.ci,.slice v.qw v.nw v.cw,.int .i64 v.lo,.int .i64 v.hi,.int .i64 v.op,.slice v.qk v.nk v.ck] 29))).step hg2 hor
 refine ⟨us ++ [v],by simp [hu],ho2, ?_⟩
 rw [List.length_append]
 exact p3.imp fun W h=>h.1.snoc hu (h.2.mono hB)
/-- What is answered of operands. -/
theorem kd_many {B c:Nat} {ks:List Nd} {q:Option Addr} {w:World} (op:Int) (h:Kd B ks q c w):NdFrom w B ⟨0,⟨#[]⟩,none,0,0,none,0,0,0,0,op,q,ks.length,c⟩ (.mk 0 ⟨#[]⟩ [] [] 0 0 op ks):=by
 obtain ⟨us,hu,ho,hf⟩:=h
 exact NdFrom.make (ints:=[]) (words:=[]) (SlOf.none _) no_from (SlOf.none _) no_from ho.ls (fun a e=>ho.ownGe hu a.block (by rw [e];rfl)) hu hf.now
theorem kd_one {B c:Nat} {ks:List Nd} {q:Option Addr} {w:World} (h:Kd B ks q c w) (h1:ks.length=1):∃ x v b,ks=[x]∧q=some ⟨b,0,none⟩∧NdFrom w B v x∧w.cell? ⟨b,0,none⟩=some (.int .i64 v.kind)∧w.cell? ⟨b,1,none⟩=some (.string v.attr)∧w.cell? ⟨b,2,none⟩=some (.slice v.qi v.ni v.ci)∧w.cell? ⟨b,3,none⟩=some (.slice v.qw v.nw v.cw)∧w.cell? ⟨b,4,none⟩=some (.int .i64 v.lo)∧w.cell? ⟨b,5,none⟩=some (.int .i64 v.hi)∧w.cell? ⟨b,6,none⟩=some (.int .i64 v.op)∧w.cell? ⟨b,7,none⟩=some (.slice v.qk v.nk v.ck):=by
 obtain ⟨us,hu,ho,hf⟩:=h
 obtain ⟨x,rfl⟩:=List.length_eq_one_iff.1 h1
 obtain ⟨v,rfl⟩:=List.length_eq_one_iff.1 (hu.trans h1)
 obtain ⟨b,off,hq,hb,hc⟩:=ho.ls.2.2.2.at (j:=0) (x:=v) rfl
 rcases ho.cases with ⟨rfl,h2,_⟩ | ⟨b',rfl,_⟩
 ·cases hq
 ·obtain ⟨rfl,rfl⟩:b'=b∧off=0:=by cases hq;exact ⟨rfl,rfl⟩
  have h8:=cells8 hc
  simp only [Nat.zero_mul,Nat.add_zero,Nat.zero_add] at h8
  exact ⟨x,v,b',rfl,rfl,hf.now 0 v x rfl rfl,h8⟩
set_option maxHeartbeats 4000000 in
theorem joined120 (g:Nat) (en:Int) (n:Nat) (f:List Tk→Rs Nd) (hn:n≤1000000) (hF:∀ (l':List Tk) (W:World),l'.length≤n→Ps W g en l'→Calls Tryz.prog 120 #[.pointer (some ⟨g,0,none⟩)] W fun e w'=>NdR g en W (f l') e w') (hfl:∀ l' x r,f l'=.ok x r→r.length + 1≤l'.length) (l:List Tk) (hl:l.length≤n) (w:World) (hp:Ps w g en l) :
  Calls Tryz.prog 91 #[.pointer (some ⟨g,0,none⟩),.int .i64 3,.string ⟨#[38]⟩,.func (.func 120) #[.pointer (some ⟨g,0,none⟩)] #[]] w fun e w'=>NdR g en w (chL 3 ⟨#[38]⟩ f l) e w':=by
 have hg:=hp.lt
 have h0:=hp.z
 have hc1:=hF l _ hl h0.1
 cases ef:f l with
 | bad p =>
  have hx:chL 3 ⟨#[38]⟩ f l=.bad p:=by simp only [chL,ef]
  rw [hx]
  have EF:=hide ef
  have H0:=hide h0
  clear hp ef hx h0 hF hfl
  go_enter Tryz.func91,Tryz.ntmps91
  go_wp2_with (go_at_call 120;refine hc1.mono ?_;rintro e w1 hq;obtain ⟨rfl,hx⟩:=hq.bad (uh EF);have X1:=hide hx;clear hx hq;simp only [refusal])
  exact ⟨rfl,rfl,gr_z (uh X1)⟩
 | ok x r =>
  have hr:=hfl l x r ef
  have HC:=hide (Ch.first (s:=⟨#[38]⟩) ef)
  have EF:=hide ef
  have H0:=hide h0
  have HF:=hide hF
  have HFL:=hide hfl
  clear hp ef h0 hF hfl
  go_enter Tryz.func91,Tryz.ntmps91
  go_wp2_with (go_at_call 120;refine hc1.mono ?_;rintro e w1 hq;obtain ⟨⟨v,rfl,hv⟩,hx⟩:=hq.ok (uh EF);have X1:=hide hx;have HV:=hide hv;clear hx hv hq;unfold Nv.val)
  have hs1:=(uh X1).2.size
  simp at hs1
  have HK:=hide (Kd.one (B:=w.heap.size + 1) (by have:=uh HV;simpa using this) hs1)
  have HX:=hide ((uh X1).bel ((Below.refl _ _).alloc (Nat.le_refl _) (.cells #[.int .i64 v.kind,.string v.attr,.slice v.qi v.ni v.ci,.slice v.qw v.nw v.cw,.int .i64 v.lo,.int .i64 v.hi,.int .i64 v.op,.slice v.qk v.nk v.ck] 29)))
  clear X1 HV hc1 hs1
  go_loopw [9] (fun u wr=>∃ (ks:List Nd) (l1:List Tk) (q:Option Addr) (c:Nat),u=.slice q ks.length c∧Kd (w.heap.size + 1) ks q c wr∧Nx g en l1 (w.alloc (.cells #[.int .i64 0,.string ⟨#[]⟩,.slice none 0 0,.slice none 0 0,.int .i64 0,.int .i64 0,.int .i64 0,.slice none 0 0] 29)) wr∧Ch ⟨#[38]⟩ f l x r ks l1∧ks.length + l1.length≤n) (fun _ wr=>lnAt g wr)
  case atStart=>exact ⟨[x],r,_,_,rfl,uh HK,uh HX,uh HC,by simp;omega⟩
  case round =>
   clear HK HX HC EF H0
   obtain ⟨ks,l1,q,c,rfl,hk,hx,hch,hlen⟩:=hrel
   have HK:=hide hk
   have HX:=hide hx
   have HC:=hide hch
   have hws:=hx.2.size
   simp at hws
   clear hk hx hch
   cases hs:skL ⟨#[38]⟩ l1 with
   | none =>
    have hsk:=skip_no g en ⟨#[38]⟩ l1 wr (uh HX).1 hs
    have HE:=hide ((uh HC).done (op:=3) hs)
    obtain ⟨z1,⟨q0,q1,q2,q3,q4,q5,q6,q7⟩,qf⟩:=res8 (uh HX).2 hg
    clear hs
    by_cases h1:ks.length=1
    ·obtain ⟨x1,v1,b1,hks,hq,hv1,k0,k1,k2,k3,k4,k5,k6,k7⟩:=kd_one (uh HK) h1
     subst hks hq
     have HV1:=hide hv1
     clear hv1 h1
     go_wp2_with (go_at_call 119;refine hsk.mono ?_;rintro e w3 ⟨rfl,rfl⟩)
     refine bodyPost_ret (v:=v1.val) (by simp [results,Tryz.results91,go_sem,Nv.val, *]) rfl ?_
     rw [uh HE]
     exact fin8 (uh HX) hg (uh HV1) (by omega)
    ·have h2:¬ ((ks.length:Int)=1):=by omega
     have hj:jnT 3 ks=.mk 0 ⟨#[]⟩ [] [] 0 0 3 ks:=by
      unfold jnT
      split
      ·simp at h1
      ·rfl
     have HJ:=hide hj
     clear hj h1
     go_wp2_with (go_at_call 119;refine hsk.mono ?_;rintro e w3 ⟨rfl,rfl⟩)
     refine bodyPost_ret (v:=.agg #[.int .i64 0,.string ⟨#[]⟩,.slice none 0 0,.slice none 0 0,.int .i64 0,.int .i64 0,.int .i64 3,.slice q ks.length c]) (by simp [results,Tryz.results91,go_sem, *]) rfl ?_
     rw [uh HE,uh HJ]
     have h9:=fin8 (uh HX) hg (kd_many 3 (uh HK)) (by omega)
     simp only [Nv.val] at h9
     exact h9
   | some r2 =>
    have hsk:=skip_yes g en ⟨#[38]⟩ l1 r2 wr (uh HX).1 hs
    have e2:=skL_len hs
    have hr2:r2.length≤n:=by omega
    cases ef:f r2 with
    | bad p =>
     have HE:=hide ((uh HC).bad (op:=3) hs ef)
     have EF:=hide ef
     clear hs ef e2
     go_wp2_with first
      | (go_at_call 119;refine hsk.mono ?_;rintro e w3 ⟨rfl,hx⟩;have X3:=hide ((uh HX).trans hx);clear hx)
      | (go_at_call 120;refine (uh HF r2 _ hr2 (uh X3).1).mono ?_;rintro e w4 hq;obtain ⟨rfl,hx⟩:=hq.bad (uh EF);have X4:=hide hx;clear hx hq;simp only [refusal])
     exact ⟨rfl,by rw [uh HE];exact ⟨rfl,gr_z ((uh X3).2.trans (uh X4))⟩⟩
    | ok x2 r3 =>
     have e3:=uh HFL r2 x2 r3 ef
     have HC2:=hide ((uh HC).more hs ef (by omega))
     have EF:=hide ef
     have HLN:=hide (uh HX).1.ln
     have E2:=hide e2
     have E3:=hide e3
     have hbd:ks.length + 1≤n:=by omega
     have HLEN:=hide hlen
     clear hs ef e2 e3 hlen
     go_wp2_with first
      | (go_at_call 119;refine hsk.mono ?_;rintro e w3 ⟨rfl,hx⟩;have X3:=hide ((uh HX).trans hx);have HK3:=hide ((uh HK).far hx.2 (by omega));have hs3:=hx.2.size;have HS3:=hide hs3;clear hx hs3)
      | (go_at_call 120;refine (uh HF r2 _ hr2 (uh X3).1).mono ?_;rintro e w4 hq;obtain ⟨⟨v,rfl,hv⟩,hx⟩:=hq.ok (uh EF);have X4:=hide ((uh X3).trans hx);have G4:=hide hx.2;have HV:=hide hv;have HS4:=hide hx.2.size;obtain ⟨us,hu,ho,hf⟩:=uh HK3;have HU:=hide hu;have HO:=hide ho;have HFF:=hide hf;clear hx hv hq hu ho hf;unfold Nv.val)
      | (at_builtin;refine wpList_appG rowV rfl _ _ rfl (w.heap.size + 1) q c us ⟨w4.heap.size,0,none⟩ 1 [v] ks.length 1 (ks.length + 1) (uh HU) rfl rfl rfl rfl (OwnK.below (own_far (uh HO) (uh G4) (by omega)) ((Below.refl _ _).alloc (Nat.le_refl _) (.cells #[.int .i64 v.kind,.string v.attr,.slice v.qi v.ni v.ci,.slice v.qw v.nw v.cw,.int .i64 v.lo,.int .i64 v.hi,.int .i64 v.op,.slice v.qk v.nk v.ck] 29))) (oneV (box_nw _ _)) (by unfold maxLen;omega) (by omega) (by have a1:=uh HS3;have a2:=uh HS4;simp;omega) ?_;intro q2 cap2 w6 hown2 hb2 hg2 hor2;have HO2:=hide hown2;have HB2:=hide hb2;have HG2:=hide hg2;have HR2:=hide hor2;clear hown2 hb2 hg2 hor2)
     have e2:=uh E2
     have e3:=uh E3
     have hlen:=uh HLEN
     have hx6:Nx g en r3 (w.alloc (.cells #[.int .i64 0,.string ⟨#[]⟩,.slice none 0 0,.slice none 0 0,.int .i64 0,.int .i64 0,.int .i64 0,.slice none 0 0] 29)) w6:=Nx.low ((uh X4).bel ((Below.refl _ _).alloc (Nat.le_refl _) (.cells #[.int .i64 v.kind,.string v.attr,.slice v.qi v.ni v.ci,.slice v.qw v.nw v.cw,.int .i64 v.lo,.int .i64 v.hi,.int .i64 v.op,.slice v.qk v.nk v.ck] 29))) (uh HB2) (by simp) (by omega)
     have hk6:=kd_snoc (uh HU) (uh HO) (uh HFF) (uh G4) (by omega) (uh HV) (by have a1:=uh HS3;omega) (uh HO2) (uh HG2) (uh HR2)
     exact ⟨⟨ks ++ [x2],r3,q2,cap2,by simp,hk6,hx6,uh HC2,by simp;omega⟩,by rw [hx6.1.ln,uh HLN];omega⟩
set_option maxHeartbeats 4000000 in
theorem joined92 (g:Nat) (en:Int) (n:Nat) (f:List Tk→Rs Nd) (hn:n≤1000000) (hF:∀ (l':List Tk) (W:World),l'.length≤n→Ps W g en l'→Calls Tryz.prog 92 #[.pointer (some ⟨g,0,none⟩)] W fun e w'=>NdR g en W (f l') e w') (hfl:∀ l' x r,f l'=.ok x r→r.length + 1≤l'.length) (l:List Tk) (hl:l.length≤n) (w:World) (hp:Ps w g en l) :
  Calls Tryz.prog 91 #[.pointer (some ⟨g,0,none⟩),.int .i64 4,.string ⟨#[124]⟩,.func (.func 92) #[.pointer (some ⟨g,0,none⟩)] #[]] w fun e w'=>NdR g en w (chL 4 ⟨#[124]⟩ f l) e w':=by
 have hg:=hp.lt
 have h0:=hp.z
 have hc1:=hF l _ hl h0.1
 cases ef:f l with
 | bad p =>
  have hx:chL 4 ⟨#[124]⟩ f l=.bad p:=by simp only [chL,ef]
  rw [hx]
  have EF:=hide ef
  have H0:=hide h0
  clear hp ef hx h0 hF hfl
  go_enter Tryz.func91,Tryz.ntmps91
  go_wp2_with (go_at_call 92;refine hc1.mono ?_;rintro e w1 hq;obtain ⟨rfl,hx⟩:=hq.bad (uh EF);have X1:=hide hx;clear hx hq;simp only [refusal])
  exact ⟨rfl,rfl,gr_z (uh X1)⟩
 | ok x r =>
  have hr:=hfl l x r ef
  have HC:=hide (Ch.first (s:=⟨#[124]⟩) ef)
  have EF:=hide ef
  have H0:=hide h0
  have HF:=hide hF
  have HFL:=hide hfl
  clear hp ef h0 hF hfl
  go_enter Tryz.func91,Tryz.ntmps91
  go_wp2_with (go_at_call 92;refine hc1.mono ?_;rintro e w1 hq;obtain ⟨⟨v,rfl,hv⟩,hx⟩:=hq.ok (uh EF);have X1:=hide hx;have HV:=hide hv;clear hx hv hq;unfold Nv.val)
  have hs1:=(uh X1).2.size
  simp at hs1
  have HK:=hide (Kd.one (B:=w.heap.size + 1) (by have:=uh HV;simpa using this) hs1)
  have HX:=hide ((uh X1).bel ((Below.refl _ _).alloc (Nat.le_refl _) (.cells #[.int .i64 v.kind,.string v.attr,.slice v.qi v.ni v.ci,.slice v.qw v.nw v.cw,.int .i64 v.lo,.int .i64 v.hi,.int .i64 v.op,.slice v.qk v.nk v.ck] 29)))
  clear X1 HV hc1 hs1
  go_loopw [9] (fun u wr=>∃ (ks:List Nd) (l1:List Tk) (q:Option Addr) (c:Nat),u=.slice q ks.length c∧Kd (w.heap.size + 1) ks q c wr∧Nx g en l1 (w.alloc (.cells #[.int .i64 0,.string ⟨#[]⟩,.slice none 0 0,.slice none 0 0,.int .i64 0,.int .i64 0,.int .i64 0,.slice none 0 0] 29)) wr∧Ch ⟨#[124]⟩ f l x r ks l1∧ks.length + l1.length≤n) (fun _ wr=>lnAt g wr)
  case atStart=>exact ⟨[x],r,_,_,rfl,uh HK,uh HX,uh HC,by simp;omega⟩
  case round =>
   clear HK HX HC EF H0
   obtain ⟨ks,l1,q,c,rfl,hk,hx,hch,hlen⟩:=hrel
   have HK:=hide hk
   have HX:=hide hx
   have HC:=hide hch
   have hws:=hx.2.size
   simp at hws
   clear hk hx hch
   cases hs:skL ⟨#[124]⟩ l1 with
   | none =>
    have hsk:=skip_no g en ⟨#[124]⟩ l1 wr (uh HX).1 hs
    have HE:=hide ((uh HC).done (op:=4) hs)
    obtain ⟨z1,⟨q0,q1,q2,q3,q4,q5,q6,q7⟩,qf⟩:=res8 (uh HX).2 hg
    clear hs
    by_cases h1:ks.length=1
    ·obtain ⟨x1,v1,b1,hks,hq,hv1,k0,k1,k2,k3,k4,k5,k6,k7⟩:=kd_one (uh HK) h1
     subst hks hq
     have HV1:=hide hv1
     clear hv1 h1
     go_wp2_with (go_at_call 119;refine hsk.mono ?_;rintro e w3 ⟨rfl,rfl⟩)
     refine bodyPost_ret (v:=v1.val) (by simp [results,Tryz.results91,go_sem,Nv.val, *]) rfl ?_
     rw [uh HE]
     exact fin8 (uh HX) hg (uh HV1) (by omega)
    ·have h2:¬ ((ks.length:Int)=1):=by omega
     have hj:jnT 4 ks=.mk 0 ⟨#[]⟩ [] [] 0 0 4 ks:=by
      unfold jnT
      split
      ·simp at h1
      ·rfl
     have HJ:=hide hj
     clear hj h1
     go_wp2_with (go_at_call 119;refine hsk.mono ?_;rintro e w3 ⟨rfl,rfl⟩)
     refine bodyPost_ret (v:=.agg #[.int .i64 0,.string ⟨#[]⟩,.slice none 0 0,.slice none 0 0,.int .i64 0,.int .i64 0,.int .i64 4,.slice q ks.length c]) (by simp [results,Tryz.results91,go_sem, *]) rfl ?_
     rw [uh HE,uh HJ]
     have h9:=fin8 (uh HX) hg (kd_many 4 (uh HK)) (by omega)
     simp only [Nv.val] at h9
     exact h9
   | some r2 =>
    have hsk:=skip_yes g en ⟨#[124]⟩ l1 r2 wr (uh HX).1 hs
    have e2:=skL_len hs
    have hr2:r2.length≤n:=by omega
    cases ef:f r2 with
    | bad p =>
     have HE:=hide ((uh HC).bad (op:=4) hs ef)
     have EF:=hide ef
     clear hs ef e2
     go_wp2_with first
      | (go_at_call 119;refine hsk.mono ?_;rintro e w3 ⟨rfl,hx⟩;have X3:=hide ((uh HX).trans hx);clear hx)
      | (go_at_call 92;refine (uh HF r2 _ hr2 (uh X3).1).mono ?_;rintro e w4 hq;obtain ⟨rfl,hx⟩:=hq.bad (uh EF);have X4:=hide hx;clear hx hq;simp only [refusal])
     exact ⟨rfl,by rw [uh HE];exact ⟨rfl,gr_z ((uh X3).2.trans (uh X4))⟩⟩
    | ok x2 r3 =>
     have e3:=uh HFL r2 x2 r3 ef
     have HC2:=hide ((uh HC).more hs ef (by omega))
     have EF:=hide ef
     have HLN:=hide (uh HX).1.ln
     have E2:=hide e2
     have E3:=hide e3
     have hbd:ks.length + 1≤n:=by omega
     have HLEN:=hide hlen
     clear hs ef e2 e3 hlen
     go_wp2_with first
      | (go_at_call 119;refine hsk.mono ?_;rintro e w3 ⟨rfl,hx⟩;have X3:=hide ((uh HX).trans hx);have HK3:=hide ((uh HK).far hx.2 (by omega));have hs3:=hx.2.size;have HS3:=hide hs3;clear hx hs3)
      | (go_at_call 92;refine (uh HF r2 _ hr2 (uh X3).1).mono ?_;rintro e w4 hq;obtain ⟨⟨v,rfl,hv⟩,hx⟩:=hq.ok (uh EF);have X4:=hide ((uh X3).trans hx);have G4:=hide hx.2;have HV:=hide hv;have HS4:=hide hx.2.size;obtain ⟨us,hu,ho,hf⟩:=uh HK3;have HU:=hide hu;have HO:=hide ho;have HFF:=hide hf;clear hx hv hq hu ho hf;unfold Nv.val)
      | (at_builtin;refine wpList_appG rowV rfl _ _ rfl (w.heap.size + 1) q c us ⟨w4.heap.size,0,none⟩ 1 [v] ks.length 1 (ks.length + 1) (uh HU) rfl rfl rfl rfl (OwnK.below (own_far (uh HO) (uh G4) (by omega)) ((Below.refl _ _).alloc (Nat.le_refl _) (.cells #[.int .i64 v.kind,.string v.attr,.slice v.qi v.ni v.ci,.slice v.qw v.nw v.cw,.int .i64 v.lo,.int .i64 v.hi,.int .i64 v.op,.slice v.qk v.nk v.ck] 29))) (oneV (box_nw _ _)) (by unfold maxLen;omega) (by omega) (by have a1:=uh HS3;have a2:=uh HS4;simp;omega) ?_;intro q2 cap2 w6 hown2 hb2 hg2 hor2;have HO2:=hide hown2;have HB2:=hide hb2;have HG2:=hide hg2;have HR2:=hide hor2;clear hown2 hb2 hg2 hor2)
     have e2:=uh E2
     have e3:=uh E3
     have hlen:=uh HLEN
     have hx6:Nx g en r3 (w.alloc (.cells #[.int .i64 0,.string ⟨#[]⟩,.slice none 0 0,.slice none 0 0,.int .i64 0,.int .i64 0,.int .i64 0,.slice none 0 0] 29)) w6:=Nx.low ((uh X4).bel ((Below.refl _ _).alloc (Nat.le_refl _) (.cells #[.int .i64 v.kind,.string v.attr,.slice v.qi v.ni v.ci,.slice v.qw v.nw v.cw,.int .i64 v.lo,.int .i64 v.hi,.int .i64 v.op,.slice v.qk v.nk v.ck] 29))) (uh HB2) (by simp) (by omega)
     have hk6:=kd_snoc (uh HU) (uh HO) (uh HFF) (uh G4) (by omega) (uh HV) (by have a1:=uh HS3;omega) (uh HO2) (uh HG2) (uh HR2)
     exact ⟨⟨ks ++ [x2],r3,q2,cap2,by simp,hk6,hx6,uh HC2,by simp;omega⟩,by rw [hx6.1.ln,uh HLN];omega⟩
end Go.Proofs.YtencibjmiphinaaGreatDoor

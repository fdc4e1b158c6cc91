/- A list of trees that grows by append: what lies outside its own block stays. -/
import Derived.Test.YtikhopiegaoacacDMemNode
namespace Go.Proofs.Ytikhopiegaoacac
open Go.RowKit Go.Sort

/-- P holds here, and wherever, from the block B on, only the block g was written since. -/
def OffP (B:Nat) (P:World→Prop) (g:Option Nat) (w:World):Prop:=∀ w':World,w.heap.size≤w'.heap.size→(∀ b,B≤b→b < w.heap.size→some b ≠ g→w'.heap[b]? = w.heap[b]?)→P w'
theorem OffP.now {B:Nat} {P:World→Prop} {g:Option Nat} {w:World} (h:OffP B P g w):P w:=h w (Nat.le_refl _) fun _ _ _ _=>rfl
theorem OffP.imp {B:Nat} {P Q:World→Prop} {g:Option Nat} {w:World} (h:OffP B P g w) (hi:∀ w,P w→Q w):OffP B Q g w:=fun w' hs hc=>hi _ (h w' hs hc)
theorem OffP.and {B:Nat} {P Q:World→Prop} {g:Option Nat} {w:World} (h:OffP B P g w) (k:OffP B Q g w):OffP B (fun w=>P w∧Q w) g w:=fun w' hs hc=>⟨h w' hs hc,k w' hs hc⟩
theorem OffP.below {B:Nat} {P:World→Prop} {g:Option Nat} {w w':World} (h:OffP B P g w) (hb:Below w.heap.size w w'):OffP B P g w':=fun w'' hs hc =>
 h w'' (Nat.le_trans hb.size hs) fun b hB hlt hne=>(hc b hB (Nat.lt_of_lt_of_le hlt hb.size) hne).trans (hb.block b hlt)
theorem OffP.step {B:Nat} {P:World→Prop} {g g':Option Nat} {w w':World} (h:OffP B P g w) (hg:w.grownBy w' g) (hor:g'=g ∨ g'=some w.heap.size):OffP B P g' w':=fun w'' hs hc =>
 h w'' (Nat.le_trans hg.size hs) fun b hB hlt hne=>(hc b hB (Nat.lt_of_lt_of_le hlt hg.size) (hor.elim (fun e=>by rw [e];exact hne) (fun e=>by rw [e];intro e2;cases e2;omega))).trans (hg.block b hlt hne)
theorem OffP.set {B:Nat} {P:World→Prop} {g:Option Nat} {w:World} (h:OffP B P g w) {p:Addr} (hp:p.block < B) (u:Value):OffP B P g (w.setCell p u):=fun w'' hs hc =>
 h w'' (by simpa using hs) fun b hB hlt hne=>(hc b hB (by simpa using hlt) hne).trans (Below.heap_setCell w p u b (by show b ≠ p.block;omega))
theorem OffP.from {B:Nat} {w:World} {C:Nat} {v:Nv} {x:Nd} {g:Option Nat} (h:NdFrom w C v x) (hB:B≤C) (hg:∀ b,g=some b→b < C):OffP B (fun w=>NdFrom w C v x) g w:=fun _ hs hc =>
 h.up ⟨hs,fun b hb hlt=>hc b (by omega) hlt fun e=>by have:=hg b e.symm;omega⟩
theorem snoc_all {Q:Nv→Nd→Prop} {kids:List Nd} {us:List Nv} {v:Nv} {x:Nd} {k:Nat} (h:∀ (j:Nat) (v:Nv) (x:Nd),us[j]? = some v→kids[j]? = some x→Q v x) (hu:us.length=k) (hx:kids[k]? = some x) (sp:Q v x):∀ (j:Nat) (y:Nv) (z:Nd),(us ++ [v])[j]? = some y→kids[j]? = some z→Q y z:=by
 intro j y z hj hz
 by_cases hjk:j < k
 ·rw [List.getElem?_append_left (by omega)] at hj
  exact h j y z hj hz
 ·have hj2:=(List.getElem?_eq_some_iff.1 hj).1
  rw [List.length_append,hu] at hj2
  obtain rfl:j=k:=by simp at hj2;omega
  rw [List.getElem?_append_right (by omega),hu,Nat.sub_self] at hj
  rw [hx] at hz
  cases hj
  cases hz
  exact sp
def MineIn (B:Nat) (kids:List Nd) (us:List Nv) (w:World):Prop:=∀ (j:Nat) (v:Nv) (x:Nd),us[j]? = some v→kids[j]? = some x→SpIn w B v x
theorem MineIn.snoc {B:Nat} {kids:List Nd} {us:List Nv} {w:World} {v:Nv} {x:Nd} {k:Nat} (h:MineIn B kids us w) (hu:us.length=k) (hx:kids[k]? = some x) (sp:SpIn w B v x):MineIn B kids (us ++ [v]) w:=snoc_all h hu hx sp
theorem MineIn.nds {B B':Nat} {kids:List Nd} {us:List Nv} {w:World} {q:Option Addr} {c:Nat} (h:MineIn B kids us w) (ho:OwnK encV 28 8 B' w q c us) (hl:us.length=kids.length):NdsOf w q c kids :=
 ⟨us,ho.ls,hl,fun j v x hj hx=>(h j v x hj hx).toIn⟩
def FromIn (B:Nat) (kids:List Nd) (us:List Nv) (w:World):Prop:=∀ (j:Nat) (v:Nv) (x:Nd),us[j]? = some v→kids[j]? = some x→NdFrom w B v x
theorem OwnK.ownLt {B c k:Nat} {w:World} {q:Option Addr} {l:List Nv} (h:OwnK encV 28 8 B w q c l) (hl:l.length=k):∀ b,(Value.slice q k c).ownBlock=some b→b < w.heap.size:=fun b e=>by
 subst hl
 exact (World.ownsRow.lt h b e).2
theorem OwnK.ownGe {B c k:Nat} {w:World} {q:Option Addr} {l:List Nv} (h:OwnK encV 28 8 B w q c l) (hl:l.length=k):∀ b,(Value.slice q k c).ownBlock=some b→B≤b:=fun b e=>by
 subst hl
 exact (World.ownsRow.lt h b e).1
section
variable {α : Type} [Inhabited α] {enc : α → List Value} {t e : TypeId} {k bytes : Nat}
/-- append, with where the answer's block is. -/
theorem wp_appG (R:RowOf enc t e k bytes) {o:Oper} {a:Act} {w:World} {K:Act→World→Prop} {Q:Exit→Act→World→Prop} (s x:Operand)
  (ho:o.op=.call { callee:=.builtin .append,args:=#[s,x],argTypes:=#[t,t] }) (B:Nat) (q:Option Addr) (cap:Nat) (l:List α) (ad:Addr) (c:Nat) (m:List α) (n n' N:Nat) (hn:l.length=n) (hn':m.length=n') (hN:n + n'=N)
  (es:a.eval s=.slice q n cap) (ex:a.eval x=.slice (some ad) n' c) (hown:OwnK enc e k B w q cap l) (hs:SrcK enc k w (some ad) c m) (hm:N≤maxLen) (hb:N * bytes≤140737488355328) (hB:B≤w.heap.size)
  (h:∀ q' cap' w',OwnK enc e k B w' q' cap' (l ++ m)→Below B w w'→w.grownBy w' (Value.slice q n cap).ownBlock→((Value.slice q' N cap').ownBlock=(Value.slice q n cap).ownBlock ∨ (Value.slice q' N cap').ownBlock=some w.heap.size)→K (a.put o.dst (.slice q' N cap')) w'):o.wp Try.prog a w K Q:=by
 subst hn hn' hN
 obtain ⟨i0,z,hi,hz,hsz,hby,hzs⟩:=R.info
 obtain ⟨v',w',hr,hO,hg,hnil,hor⟩:=run_append_own_at (P:=Try.prog) w B t o.type e i0 z k bytes R.und hi hz hsz hby hzs R.pos _ _ _ hown ad m.length c (flatK enc k m.toArray).toList (by simp) (hs.2 ad rfl) (R.one m) hm hb hB
 obtain ⟨q',cap',rfl,hq⟩:=OwnK.shape hO
 unfold Oper.wp execOp
 simp only [ho,resolve,invoke,builtin,Sem.run_bind,Sem.run_pure,Result.andThen_ok,List.map_toArray,List.map_cons,List.map_nil,es,ex,hr]
 refine h q' cap' w' ?_ ((Below.refl _ _).grown hg hB fun j hj=>(World.ownsRow.lt hown j hj).1) hg hor
 unfold OwnK
 rw [flat_app enc k R.pos,List.length_append]
 exact hO
theorem wpList_appG (R:RowOf enc t e k bytes) {ops:Array Oper} {rest:List Oper} {o:Oper} {a:Act} {w:World} {Q:Exit→Act→World→Prop} (hgd:o.guard=none) (s x:Operand)
  (ho:o.op=.call { callee:=.builtin .append,args:=#[s,x],argTypes:=#[t,t] }) (B:Nat) (q:Option Addr) (cap:Nat) (l:List α) (ad:Addr) (c:Nat) (m:List α) (n n' N:Nat) (hn:l.length=n) (hn':m.length=n') (hN:n + n'=N)
  (es:a.eval s=.slice q n cap) (ex:a.eval x=.slice (some ad) n' c) (hown:OwnK enc e k B w q cap l) (hs:SrcK enc k w (some ad) c m) (hm:N≤maxLen) (hb:N * bytes≤140737488355328) (hB:B≤w.heap.size)
  (h:∀ q' cap' w',OwnK enc e k B w' q' cap' (l ++ m)→Below B w w'→w.grownBy w' (Value.slice q n cap).ownBlock→((Value.slice q' N cap').ownBlock=(Value.slice q n cap).ownBlock ∨ (Value.slice q' N cap').ownBlock=some w.heap.size)→wpList Try.prog ops Q rest (a.put o.dst (.slice q' N cap')) w'):wpList Try.prog ops Q (o :: rest) a w :=
 wpList_plain hgd fun _ hK=>wp_appG R s x ho B q cap l ad c m n n' N hn hn' hN es ex hown hs hm hb hB fun q' cap' w' h2 h3 h4 h5=>hK _ _ (h q' cap' w' h2 h3 h4 h5)
theorem step_appG (R:RowOf enc t e k bytes) {ops:Array Oper} {o:Oper} {a:Act} {w:World} {K:Act→World→Prop} {Q:Exit→Act→World→Prop} {E:Prop} (hgd:o.guard=none) (s x:Operand)
  (ho:o.op=.call { callee:=.builtin .append,args:=#[s,x],argTypes:=#[t,t] }) (B:Nat) (q:Option Addr) (cap:Nat) (l:List α) (ad:Addr) (c:Nat) (m:List α) (n n' N:Nat) (hn:l.length=n) (hn':m.length=n') (hN:n + n'=N)
  (es:a.eval s=.slice q n cap) (ex:a.eval x=.slice (some ad) n' c) (hown:OwnK enc e k B w q cap l) (hs:SrcK enc k w (some ad) c m) (hm:N≤maxLen) (hb:N * bytes≤140737488355328) (hB:B≤w.heap.size)
  (h:∀ q' cap' w',OwnK enc e k B w' q' cap' (l ++ m)→Below B w w'→w.grownBy w' (Value.slice q n cap).ownBlock→((Value.slice q' N cap').ownBlock=(Value.slice q n cap).ownBlock ∨ (Value.slice q' N cap').ownBlock=some w.heap.size)→K (a.put o.dst (.slice q' N cap')) w') :
  if Region.wanted o (yielded ops a.tmps)=true then Oper.wp Try.prog o a w K Q else E:=by
 have hw:Region.wanted o (yielded ops a.tmps)=true:=by simp [Region.wanted,hgd]
 rw [if_pos hw]
 exact wp_appG R s x ho B q cap l ad c m n n' N hn hn' hN es ex hown hs hm hb hB h
end
end Go.Proofs.Ytikhopiegaoacac

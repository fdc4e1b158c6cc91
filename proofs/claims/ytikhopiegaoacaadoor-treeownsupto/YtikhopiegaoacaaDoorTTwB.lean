/- TreeOwns: lists of objects. -/
import Derived.Test.YtikhopiegaoacaaDoorTTwA
import Derived.Test.YtikhopiegaoacaaDoorTFixed
import Derived.Test.YtikhopiegaoacaaDoorTJoin
import Derived.Test.YtikhopiegaoacaaDoorTSameNode
namespace Go.Proofs.YtikhopiegaoacaaDoor
open Go.RowKit Go.Sort

theorem sameTT {t:Nd} (va vb:Nv) (w:World) (ha:NdIn w va t) (hb:NdIn w vb t) (ok:wtN t≤1000000000):Calls Tryd.prog 11 #[va.val,vb.val] w fun e w'=>e=.returned (.bool true)∧Below w.heap.size w w':=by
 have:=sameM_all t t va vb w ha hb (OkN.of_wt t ok)
 rwa [sameT_yes rfl] at this
theorem wt_not (x:Nd):wtN (notT x)=wtN x + 1:=by
 have e:(⟨#[]⟩:ByteArray).size=0:=rfl
 simp only [notT,wtN,wtL,wordsWt,List.length_nil,e];omega
theorem wt_join (op:Int) (kids:List Nd):wtN (joinT op kids)≤wtL kids + 1:=by
 have e:(⟨#[]⟩:ByteArray).size=0:=rfl
 match kids with
 | []=>simp [joinT,zeroT,wtN,wtL,wordsWt,e]
 | [x]=>simp [joinT,wtL]
 | x :: y :: l=>simp only [joinT,wtN,wordsWt,List.length_nil,e];omega
theorem NdsOf.on2 {w wr:World} {q:Option Addr} {c:Nat} {l:List Nd} {j:Nat} {x:Nd} (h:NdsOf w q c l) (hj:l[j]? = some x) (hbel:Below w.heap.size w wr) :
  ∃ b off v,q=some ⟨b,off,none⟩∧NdIn w v x∧wr.cell? ⟨b,off + j * 8,none⟩=some (.int .i64 v.kind)∧wr.cell? ⟨b,off + j * 8 + 1,none⟩=some (.string v.attr)∧wr.cell? ⟨b,off + j * 8 + 2,none⟩=some (.slice v.qi v.ni v.ci)∧wr.cell? ⟨b,off + j * 8 + 3,none⟩=some (.slice v.qw v.nw v.cw)∧wr.cell? ⟨b,off + j * 8 + 4,none⟩=some (.int .i64 v.lo)∧wr.cell? ⟨b,off + j * 8 + 5,none⟩=some (.int .i64 v.hi)∧wr.cell? ⟨b,off + j * 8 + 6,none⟩=some (.int .i64 v.op)∧wr.cell? ⟨b,off + j * 8 + 7,none⟩=some (.slice v.qk v.nk v.ck):=by
 obtain ⟨b,off,v,hq,hb,hin,c0,c1,c2,c3,c4,c5,c6,c7⟩:=h.at hj
 exact ⟨b,off,v,hq,hin,(hbel.cell hb).trans c0,(hbel.cell hb).trans c1,(hbel.cell hb).trans c2,(hbel.cell hb).trans c3,(hbel.cell hb).trans c4,(hbel.cell hb).trans c5,(hbel.cell hb).trans c6,(hbel.cell hb).trans c7⟩
/-- An object more, in the midst of the list. -/
theorem Objs.ins {L1 L2:List Ob} {w w':World} {o:Ob} (h:Objs (L1 ++ L2) w) (hb:Below w.heap.size w w') (hs:St o.lo o.hi o.P w') (hl:w.heap.size≤o.lo):Objs (L1 ++ o :: L2) w':=by
 have h':=h.below hb
 obtain ⟨p1,p2,p3⟩:=List.pairwise_append.1 h.1
 have top:∀ p ∈ L1 ++ L2,p.hi≤o.lo:=fun p hp=>Nat.le_trans (h.2 p hp).top hl
 refine ⟨List.pairwise_append.2 ⟨p1,List.pairwise_cons.2 ⟨fun p hp=>Or.inr (top p (by simp [hp])),p2⟩,fun a ha b hb'=>?_⟩,fun p hp=>?_⟩
 ·rcases List.mem_cons.1 hb' with rfl | hb'
  ·exact Or.inl (top a (by simp [ha]))
  ·exact p3 a ha b hb'
 ·simp only [List.mem_append,List.mem_cons] at hp
  rcases hp with hp | rfl | hp
  ·exact h'.2 p (by simp [hp])
  ·exact hs
  ·exact h'.2 p (by simp [hp])
/-- The j-th object is of the j-th node. -/
def Fam (F:Nat→Nat→Nv→Nd→Ob) (B:Nat) (kids:List Nd) (us:List Nv) (ms:List Ob):Prop:=∀ (j:Nat) (u:Nv) (x:Nd),us[j]? = some u→kids[j]? = some x→∃ lo hi,B≤lo∧ms[j]? = some (F lo hi u x)
theorem Fam.nil (F:Nat→Nat→Nv→Nd→Ob) (B:Nat) (kids:List Nd):Fam F B kids [] []:=fun j u x h=>by simp at h
theorem Fam.snoc {F:Nat→Nat→Nv→Nd→Ob} {B k:Nat} {kids:List Nd} {us:List Nv} {ms:List Ob} {v:Nv} {x:Nd} {lo hi:Nat} (h:Fam F B kids us ms) (hu:us.length=k) (hm:ms.length=k) (hx:kids[k]? = some x) (hB:B≤lo):Fam F B kids (us ++ [v]) (ms ++ [F lo hi v x]):=by
 intro j u y hj hy
 by_cases h1:j < k
 ·rw [List.getElem?_append_left (by omega)] at hj
  obtain ⟨l,t,h2,h3⟩:=h j u y hj hy
  exact ⟨l,t,h2,by rw [List.getElem?_append_left (by omega)];exact h3⟩
 ·have hj2:=(List.getElem?_eq_some_iff.1 hj).1
  rw [List.length_append,List.length_singleton] at hj2
  obtain rfl:j=k:=by omega
  rw [List.getElem?_append_right (by omega),hu,Nat.sub_self] at hj
  rw [hx] at hy
  cases hj;cases hy
  exact ⟨lo,hi,hB,by rw [List.getElem?_append_right (by omega),hm,Nat.sub_self];rfl⟩
theorem fam_nds {B B':Nat} {W:World} {q:Option Addr} {c:Nat} {us:List Nv} {ms L:List Ob} {kids:List Nd} (hO:OwnK encV 29 8 B W q c us) (hm:Objs L W) (hs:∀ o ∈ ms,o ∈ L) (hc:Fam cpOb B' kids us ms) (hl:us.length=kids.length):NdsOf W q c kids :=
 ⟨us,hO.ls,hl,fun j v x hj hx=>by
  obtain ⟨lo,hi,_,h⟩:=hc j v x hj hx
  exact (hm.get (hs _ (List.mem_of_getElem? h))).1.toIn⟩
theorem out_all {L:List Ob} {q:Option Addr} {n c B:Nat} {o:Ob} {L2:List Ob} (h:Out (L ++ L2) q) (hg:∀ g,(Value.slice q n c).ownBlock=some g→g < B) (hB:B≤o.lo):∀ g,(Value.slice q n c).ownBlock=some g→∀ p ∈ L ++ o :: L2,g < p.lo ∨ p.hi≤g:=by
 intro g hq p hp
 have hlt:=hg g hq
 cases q with
 | none=>cases hq
 | some a =>
  obtain rfl:a.block=g:=by injection hq
  simp only [List.mem_append,List.mem_cons] at hp
  rcases hp with hp | rfl | hp
  ·exact h a rfl p (by simp [hp])
  ·exact Or.inl (by omega)
  ·exact h a rfl p (by simp [hp])
theorem out_app {L:List Ob} {q q':Option Addr} {n N c c':Nat} {Z:World} (h:∀ g,(Value.slice q n c).ownBlock=some g→∀ p ∈ L,g < p.lo ∨ p.hi≤g) (hZ:Objs L Z) (hor:(Value.slice q' N c').ownBlock=(Value.slice q n c).ownBlock ∨ (Value.slice q' N c').ownBlock=some Z.heap.size):Out L q':=by
 intro a ha p hp
 subst ha
 rcases hor with e | e
 ·exact h a.block e.symm p hp
 ·obtain e:a.block=Z.heap.size:=by injection e
  have:=(hZ.2 p hp).top
  omega
/-- A row that another call left alone. -/
theorem out_ins {L L2:List Ob} {q:Option Addr} {B n c:Nat} {o:Ob} (h:Out (L ++ L2) q) (hg:∀ g,(Value.slice q n c).ownBlock=some g→g < B) (hB:B≤o.lo):Out (L ++ o :: L2) q:=fun a ha p hp=>by
 subst ha
 exact out_all h hg hB a.block rfl p hp
/-- A box more. -/
theorem Objs.box {L1 L2:List Ob} {w:World} (h:Objs (L1 ++ L2) w) (u:Nv) (g:Nat) (hg:w.heap.size=g):Objs (L1 ++ bxOb g u :: L2) (w.alloc (.cells #[.int .i64 u.kind,.string u.attr,.slice u.qi u.ni u.ci,.slice u.qw u.nw u.cw,.int .i64 u.lo,.int .i64 u.hi,.int .i64 u.op,.slice u.qk u.nk u.ck] 29)):=by
 subst hg
 exact h.ins ((Below.refl _ _).alloc (Nat.le_refl _) _) (box_st (box_nw _ _)) (Nat.le_refl _)
theorem own_heap {α:Type} [Inhabited α] {enc:α→List Value} {e:TypeId} {k B:Nat} {w w':World} {q:Option Addr} {c:Nat} {l:List α} (h:w'.heap=w.heap) (ho:OwnK enc e k B w q c l):OwnK enc e k B w' q c l:=by
 unfold OwnK World.ownsRow at *
 rw [h]
 exact ho
theorem src_node {W:World} {M:Nat} {u:Nv} {W0:World} (h:W.heap=(W0.alloc (.cells #[.int .i64 u.kind,.string u.attr,.slice u.qi u.ni u.ci,.slice u.qw u.nw u.cw,.int .i64 u.lo,.int .i64 u.hi,.int .i64 u.op,.slice u.qk u.nk u.ck] 29)).heap) (hM:W0.heap.size=M):SrcK encV 8 W (some ⟨M,0,none⟩) 1 [u]:=by
 subst hM
 exact node_src (by rw [h];exact box_nw _ _)
theorem gr_like {V Z w':World} {r:Option Nat} (h:V.grownBy w' r) (e1:Z.heap=V.heap) (e2:Z.os=V.os) (e3:Z.tape=V.tape) (e4:Z.output=V.output):Z.grownBy w' r :=
 ⟨h.os.trans e2.symm,h.tape.trans e3.symm,h.output.trans e4.symm,by rw [e1];exact h.size,fun k hk hn=>by rw [e1] at hk ⊢;exact h.block k hk hn⟩
theorem own_kept {B:Nat} {w w':World} {q q2:Option Addr} {n c c2:Nat} {l:List Nv} (h:OwnK encV 29 8 B w q c l) (hg:w.grownBy w' (Value.slice q2 n c2).ownBlock) (hne:∀ a b,q=some a→q2=some b→a.block ≠ b.block):OwnK encV 29 8 B w' q c l:=by
 refine World.ownsRow.kept h hg ?_
 cases q with
 | none=>exact Or.inl rfl
 | some a =>
  cases q2 with
  | none=>exact Or.inr (fun e=>by cases e)
  | some b=>exact Or.inr (fun e=>hne a b rfl rfl (by injection e))
theorem row_lt {B:Nat} {w:World} {q:Option Addr} {c:Nat} {l:List Nv} (h:OwnK encV 29 8 B w q c l):∀ a,q=some a→a.block < w.heap.size:=fun a ha=>by
 rcases h.2 with ⟨h0,_⟩ | ⟨g,cp,cur,h0,_,h2,_⟩
 ·injection h0 with h1;rw [ha] at h1;cases h1
 ·injection h0 with h1
  rw [ha] at h1
  injection h1 with h1
  rw [h1]
  exact blk_lt h2
/-- The j-th node of a row, and its object. -/
theorem fam_at {F:Nat→Nat→Nv→Nd→Ob} {B B' j:Nat} {W:World} {q:Option Addr} {c:Nat} {us:List Nv} {ms:List Ob} {kids:List Nd} {x:Nd} (hO:OwnK encV 29 8 B W q c us) (hf:Fam F B' kids us ms) (hl:us.length=kids.length) (hx:kids[j]? = some x) :
  ∃ b off u lo hi,q=some ⟨b,off,none⟩∧us[j]? = some u∧B'≤lo∧ms[j]? = some (F lo hi u x)∧W.cell? ⟨b,off + j * 8,none⟩=some (.int .i64 u.kind)∧W.cell? ⟨b,off + j * 8 + 1,none⟩=some (.string u.attr)∧W.cell? ⟨b,off + j * 8 + 2,none⟩=some (.slice u.qi u.ni u.ci)∧W.cell? ⟨b,off + j * 8 + 3,none⟩=some (.slice u.qw u.nw u.cw)∧W.cell? ⟨b,off + j * 8 + 4,none⟩=some (.int .i64 u.lo)∧W.cell? ⟨b,off + j * 8 + 5,none⟩=some (.int .i64 u.hi)∧W.cell? ⟨b,off + j * 8 + 6,none⟩=some (.int .i64 u.op)∧W.cell? ⟨b,off + j * 8 + 7,none⟩=some (.slice u.qk u.nk u.ck):=by
 have hj:j < us.length:=by rw [hl];exact (List.getElem?_eq_some_iff.1 hx).1
 have hu:us[j]? = some us[j]:=List.getElem?_eq_getElem hj
 obtain ⟨lo,hi,h1,h2⟩:=hf j _ x hu hx
 obtain ⟨b,off,hq,_,hA⟩:=(hO.ls.2.2.2).at hu
 exact ⟨b,off,us[j],lo,hi,hq,hu,h1,h2,hA 0 (by omega),hA 1 (by omega),hA 2 (by omega),hA 3 (by omega),hA 4 (by omega),hA 5 (by omega),hA 6 (by omega),hA 7 (by omega)⟩
theorem below_like {B:Nat} {V Z w':World} (h:Below B V w') (e1:Z.heap=V.heap) (e2:Z.os=V.os) (e3:Z.tape=V.tape) (e4:Z.output=V.output):Below B Z w' :=
 ⟨h.os.trans e2.symm,h.tape.trans e3.symm,h.output.trans e4.symm,by rw [e1];exact h.size,fun k hk=>by rw [e1];exact h.block k hk⟩
/-- Two rows that grow: they stay apart. -/
theorem ne_app {q q' q2:Option Addr} {n N c c' c2 B:Nat} {Z:World} {l:List Nv} (h:∀ a b,q=some a→q2=some b→a.block ≠ b.block) (h2:OwnK encV 29 8 B Z q2 c2 l) (hor:(Value.slice q' N c').ownBlock=(Value.slice q n c).ownBlock ∨ (Value.slice q' N c').ownBlock=some Z.heap.size):∀ a b,q'=some a→q2=some b→a.block ≠ b.block:=by
 intro a b ha hb
 subst ha
 rcases hor with e | e
 ·cases q with
  | none=>cases e
  | some a' =>
   obtain e:a.block=a'.block:=by injection e
   rw [e]
   exact h a' b rfl hb
 ·obtain e:a.block=Z.heap.size:=by injection e
  have:=row_lt h2 b hb
  omega
theorem out_row {L:List Ob} {q q2:Option Addr} (h:Out L q2) (hne:∀ a b,q=some a→q2=some b→a.block ≠ b.block) {c:Nat} {l:List Nv}:Out (L ++ [rwOb q c l]) q2:=fun b hb p hp=>by
 rcases List.mem_append.1 hp with hp | hp
 ·exact h b hb p hp
 ·rw [List.mem_singleton.1 hp]
  cases q with
  | none=>exact Or.inr (Nat.zero_le _)
  | some a =>
   have:=hne a b rfl hb
   show b.block < a.block ∨ a.block + 1≤b.block
   omega
theorem drop_at {α:Type} {l:List α} {k:Nat} {a:α} (h:l[k]? = some a):l.drop k=a :: l.drop (k + 1):=by
 obtain ⟨hk,rfl⟩:=List.getElem?_eq_some_iff.1 h
 exact List.drop_eq_getElem_cons hk
theorem row_at {B j b off c:Nat} {W:World} {us:List Nv} {u:Nv} (hO:OwnK encV 29 8 B W (some ⟨b,off,none⟩) c us) (hu:us[j]? = some u) :
  W.cell? ⟨b,off + j * 8,none⟩=some (.int .i64 u.kind)∧W.cell? ⟨b,off + j * 8 + 1,none⟩=some (.string u.attr)∧W.cell? ⟨b,off + j * 8 + 2,none⟩=some (.slice u.qi u.ni u.ci)∧W.cell? ⟨b,off + j * 8 + 3,none⟩=some (.slice u.qw u.nw u.cw)∧W.cell? ⟨b,off + j * 8 + 4,none⟩=some (.int .i64 u.lo)∧W.cell? ⟨b,off + j * 8 + 5,none⟩=some (.int .i64 u.hi)∧W.cell? ⟨b,off + j * 8 + 6,none⟩=some (.int .i64 u.op)∧W.cell? ⟨b,off + j * 8 + 7,none⟩=some (.slice u.qk u.nk u.ck):=by
 obtain ⟨b',off',hq,_,hA⟩:=(hO.ls.2.2.2).at hu
 injection hq with hq
 injection hq with e1 e2
 subst e1 e2
 exact ⟨hA 0 (by omega),hA 1 (by omega),hA 2 (by omega),hA 3 (by omega),hA 4 (by omega),hA 5 (by omega),hA 6 (by omega),hA 7 (by omega)⟩
end Go.Proofs.YtikhopiegaoacaaDoor

/- A map of names to lists of predicates, as conj.must keeps it. -/
import Derived.Test.YtimklglliffpcaaGreatQZag
import Derived.Test.YtimklglliffpcaaGreatQCjShk
import Derived.StringKeys
import Derived.Maps.OwnSet
import Derived.Test.YtimklglliffpcaaGreatQZad
import Derived.Deep.Cut
namespace Go.Proofs.YtimklglliffpcaaGreat
open Go.RowKit Go.Sort Go.Shelf Go.ChangeMaps Go.MapKept
open Go.Maps (Keyed)
/-- How a list that lies in a block of its own reads. -/
def dq (x:Nat × Nat × Nat):DataW Unit:=.agg [.lit (.int .i64 (x.1:Int)),.lit (.int .i64 (x.2.1:Int)),.lit (.int .i64 (x.2.2:Int))]
def Rq:Value->Option (DataW Unit × List MemPlace)
 | .slice (some ⟨g,0,none⟩) n c=>some (dq (g,n,c),[])
 | _=>none
def sv:Option (Nat × Nat × Nat)->Value
 | none=>.slice none 0 0
 | some x=>.slice (some ⟨x.1,0,none⟩) x.2.1 x.2.2
theorem zaz {x y:Nat × Nat × Nat} (h:dq x=dq y):x=y:=by
 obtain ⟨a,b,c⟩:=x
 obtain ⟨a',b',c'⟩:=y
 simp only [dq,DataW.agg.injEq,List.cons.injEq,DataW.lit.injEq,Lit.int.injEq,true_and,and_true] at h
 obtain ⟨h1,h2,h3⟩:=h
 simp only [Prod.mk.injEq]
 omega
theorem za6 {v:Value} {x:Nat × Nat × Nat} {ps:List MemPlace} (h:Rq v=some (dq x,ps)):v=sv (some x):=by
 unfold Rq at h
 split at h
 ·injection h with h;injection h with h1 h2
  have:=zaz h1
  subst this
  rfl
 ·cases h
theorem keyS:Keyed Tryz.prog 9:=Maps.string_keyed Tryz.underlying9
theorem M0 {s:ByteArray} (h:s.size<=maxLen):keyOf Tryz.prog 9 (.string s)=some (.string s.data.toList):=Go.WideMaps.keyOf_string_mk Tryz.underlying9 h
theorem Jl {s t:ByteArray} (h:s.data.toList=t.data.toList):s=t:=by
 cases s;cases t
 simp only at h
 rw [Array.toList_inj.1 h]
/-- Block m is a map of names to lists. -/
def SM (w:World) (m n:Nat) (f:ByteArray->Option (Nat × Nat × Nat)):Prop :=
  ∃ D:DataW Unit,w.ownsMap Tryz.prog 9 Rq m n D/\∀ nm zd,D.atKey (.string nm.data.toList) zd=match f nm with | none=>zd | some x=>dq x
theorem SM.made (w:World):SM (w.alloc (.map #[] 0)) w.heap.size 0 (fun _=>none):=⟨.map [],World.ownsMap_made w _ _ _,fun _ _=>rfl⟩
theorem SM.lt {w:World} {m n:Nat} {f:ByteArray->Option (Nat × Nat × Nat)} (h:SM w m n f):m < w.heap.size:=by obtain ⟨D,h1,_⟩:=h;exact h1.lt
theorem SM.kept {w w':World} {m n:Nat} {f:ByteArray->Option (Nat × Nat × Nat)} {row:Option Nat} (h:SM w m n f) (hg:w.grownBy w' row) (hne:some m ≠ row):SM w' m n f:=by
 obtain ⟨D,h1,h2⟩:=h;exact ⟨D,h1.kept hg hne,h2⟩
theorem SM.below {w w':World} {m n:Nat} {f:ByteArray->Option (Nat × Nat × Nat)} (h:SM w m n f) (hb:Below w.heap.size w w'):SM w' m n f:=by
 refine h.kept (row:=none) ⟨hb.os,hb.tape,hb.output,hb.size,fun i hi _=>hb.block i hi⟩ (by simp)
theorem SM.look {w:World} {m n:Nat} {f:ByteArray->Option (Nat × Nat × Nat)} (h:SM w m n f) {nm:ByteArray} (hs:nm.size<=maxLen):(Instr.lookup 144 (.map (some m)) (.string nm) false).run Tryz.prog w=.ok (sv (f nm)) w:=by
 obtain ⟨D,⟨es,clock,hb,F,_,rfl⟩,h2⟩:=h
 have hz:(zeroValue 22).run Tryz.prog w=.ok (.slice none 0 0) w:=Tryz.zeroValue22 w
 rcases Maps.fit_look false keyS Tryz.underlying144 hz hb F (M0 hs) with ⟨hrun,_,hat⟩ | ⟨e0,y,_,_,hrun,hRv,hat,_⟩
 ·cases hf:f nm with
  | none=>exact hrun
  | some g =>
   have h3:=h2 nm (.nil:DataW Unit)
   rw [hf,hat] at h3
   cases h3
 ·cases hf:f nm with
  | none =>
   have h3:=h2 nm (.nil:DataW Unit)
   have h4:=h2 nm (.lit (.bool true):DataW Unit)
   rw [hf,hat] at h3 h4
   rw [h3] at h4
   cases h4
  | some g =>
   have h3:=h2 nm (.nil:DataW Unit)
   rw [hf,hat] at h3
   obtain ⟨y1,y2⟩:=y
   simp only at h3
   subst h3
   rw [za6 hRv] at hrun
   exact hrun
/-- One name more, or another list under it. -/
def zcd {α:Type} (f:ByteArray->Option α) (nm:ByteArray) (x:Option α):ByteArray->Option α:=fun k=>if k=nm then x else f k
theorem sg {α:Type} (f:ByteArray->Option α) (nm:ByteArray) (x:Option α):zcd f nm x nm=x:=if_pos rfl
theorem xt {α:Type} (f:ByteArray->Option α) {nm k:ByteArray} (x:Option α) (h:k ≠ nm):zcd f nm x k=f k:=if_neg h
theorem zah {a b:ByteArray} (h:a ≠ b):Lit.string a.data.toList ≠ Lit.string b.data.toList:=fun e=>h (by injection e with e;exact Jl e)
theorem SM.put {w:World} {m n:Nat} {f:ByteArray->Option (Nat × Nat × Nat)} (h:SM w m n f) (hn:n < maxLen) {nm:ByteArray} (hs:nm.size<=maxLen) (x:Nat × Nat × Nat) :
  ∃ w',(Instr.mapUpdate 144 (.map (some m)) (.string nm) (.slice (some ⟨x.1,0,none⟩) x.2.1 x.2.2)).run Tryz.prog w=.ok () w'/\SM w' m (n + 1) (zcd f nm (some x))/\w.grownBy w' (some m):=by
 obtain ⟨D,h1,h2⟩:=h
 obtain ⟨w',hr,h3,h4⟩:=h1.update keyS Tryz.underlying144 hn (M0 hs) (show Rq (.slice (some ⟨x.1,0,none⟩) x.2.1 x.2.2)=some (dq x,[]) from rfl)
 refine ⟨w',hr,⟨_,h3,fun k zd=>?_⟩,h4⟩
 by_cases e:k=nm
 ·subst e
  rw [sg,Maps.atKey_put_same (h1.isMap) (keyS.key (M0 hs))]
 ·rw [xt _ _ e,Maps.atKey_put_other (zah e),h2]
/-- A list in a block of its own: its cells, and what they are in the world w. -/
def RowP (B:Nat) (w wr:World) (q:Option Addr) (n c:Nat) (ps:List Pd):Prop:=ps.length=n/\∃ us:List Pv,us.length=n/\OwnK sc 26 6 B wr q c us/\∀ (j:Nat) (u:Pv) (p:Pd),us[j]? = some u->ps[j]? = some p->PdIn w u p
theorem xp {B:Nat} {w w':World} {q:Option Addr} {cap:Nat} {l:List Pv} {r:Option Nat} (h:OwnK sc 26 6 B w q cap l) (hg:w.grownBy w' r) (hne:∀ p,q=some p->some p.block ≠ r):OwnK sc 26 6 B w' q cap l:=by
 refine ⟨h.1, ?_⟩
 rcases h.2 with h0 | ⟨g,cp,cur,hv,hB,hblk,hr⟩
 ·exact Or.inl h0
 ·refine Or.inr ⟨g,cp,cur,hv,hB,(hg.block g (Array.getElem?_eq_some_iff.1 hblk).1 ?_).trans hblk,hr⟩
  injection hv with h1
  exact hne _ h1
theorem RowP.kept {B:Nat} {w wr wr':World} {q:Option Addr} {n c:Nat} {ps:List Pd} {r:Option Nat} (h:RowP B w wr q n c ps) (hg:wr.grownBy wr' r) (hne:∀ p,q=some p->some p.block ≠ r):RowP B w wr' q n c ps:=by
 obtain ⟨h1,us,h2,h3,h4⟩:=h
 exact ⟨h1,us,h2,xp h3 hg hne,h4⟩
theorem RowP.preds {B:Nat} {w wr:World} {q:Option Addr} {n c:Nat} {ps:List Pd} (h:RowP B w wr q n c ps) (hb:Below w.heap.size w wr):PdsOf wr q c ps:=by
 obtain ⟨h1,us,h2,h3,h4⟩:=h
 exact ⟨us,h3.ls,by omega,fun j u p hj hp=>(h4 j u p hj hp).keep hb⟩
theorem zcl {ps:List Pd} {us:List Pv} {Q:Pv->Pd->Prop} {u:Pv} {p:Pd} (he:us.length=ps.length) (h:∀ (j:Nat) (u:Pv) (p:Pd),us[j]? = some u->ps[j]? = some p->Q u p) (hq:Q u p):∀ (j:Nat) (v:Pv) (m:Pd),(us ++ [u])[j]? = some v->(ps ++ [p])[j]? = some m->Q v m:=Yj he h hq
/-- The map of conj.must: under each name that has been asked for its predicates. -/
def MM (w:World) (m:Nat) (wr:World) (n:Nat) (F:ByteArray->List Pd):Prop :=
  ∃ f,SM wr m n f/\(∀ a,f a=none->F a=[])/\(∀ a x,f a=some x->0 < x.2.1/\RowP (m + 1) w wr (some ⟨x.1,0,none⟩) x.2.1 x.2.2 (F a))/\∀ a b x y,f a=some x->f b=some y->a ≠ b->x.1 ≠ y.1
theorem MM.made (w:World):MM w w.heap.size (w.alloc (.map #[] 0)) 0 (fun _=>[]):=⟨fun _=>none,SM.made w,fun _ _=>rfl,(fun _ _ h=>by cases h),(fun _ _ _ _ h=>by cases h)⟩
theorem MM.below {w:World} {m:Nat} {wr wr':World} {n:Nat} {F:ByteArray->List Pd} (h:MM w m wr n F) (hb:Below wr.heap.size wr wr'):MM w m wr' n F:=by
 obtain ⟨f,h1,h2,h3,h4⟩:=h
 exact ⟨f,h1.below hb,h2,fun a x hx=>⟨(h3 a x hx).1,(h3 a x hx).2.kept (r:=none) (ji hb _) (fun _ _ e=>by cases e)⟩,h4⟩
theorem MM.lt {w:World} {m:Nat} {wr:World} {n:Nat} {F:ByteArray->List Pd} (h:MM w m wr n F):m < wr.heap.size:=by obtain ⟨f,h1,_⟩:=h;exact h1.lt
/-- The list under a name. -/
theorem MM.look {w:World} {m:Nat} {wr:World} {n:Nat} {F:ByteArray->List Pd} (h:MM w m wr n F) (a:ByteArray) (hs:a.size<=maxLen):∃ q c,(Instr.lookup 144 (.map (some m)) (.string a) false).run Tryz.prog wr=.ok (.slice q (F a).length c) wr/\RowP (m + 1) w wr q (F a).length c (F a):=by
  obtain ⟨f,h1,h2,h3,h4⟩:=h
  have hl:=h1.look hs
  cases hf:f a with
  | none =>
    rw [hf] at hl
    refine ⟨none,0, ?_, ?_⟩
    · rw [h2 a hf];exact hl
    · rw [h2 a hf];exact ⟨rfl,[],rfl,OwnK.nil _ _,fun j u p hj=>by simp at hj⟩
  | some x =>
    rw [hf] at hl
    obtain ⟨_,h5⟩:=h3 a x hf
    have e:=h5.1
    refine ⟨some ⟨x.1,0,none⟩,x.2.2, ?_, ?_⟩
    · rw [e];exact hl
    · rw [e];exact h5
/-- F with one predicate more under a name. -/
def Zs (F:ByteArray->List Pd) (a:ByteArray) (p:Pd):ByteArray->List Pd:=fun b=>if b=a then F a ++ [p] else F b
/-- One predicate more under a name: the look-up, the list ahead of the append, and what the store behind it leaves. -/
theorem MM.step {w:World} {m:Nat} {wr:World} {n:Nat} {F:ByteArray->List Pd} (h:MM w m wr n F) (a:ByteArray) (hs:a.size<=maxLen) (hn:n < maxLen) (p:Pd) (u:Pv) (hu:PdIn w u p) :
    ∃ (q:Option Addr) (c:Nat) (us:List Pv),us.length=(F a).length/\(∀ V,Below wr.heap.size wr V->(Instr.lookup 144 (.map (some m)) (.string a) false).run Tryz.prog V=.ok (.slice q (F a).length c) V/\OwnK sc 26 6 (m + 1) V q c us) /\
      ∀ V,Below wr.heap.size wr V->∀ (q9:Option Addr) (c9:Nat) (w9:World),OwnK sc 26 6 (m + 1) w9 q9 c9 (us ++ [u])->V.grownBy w9 (Value.slice q (F a).length c).ownBlock->((Value.slice q9 ((F a).length + 1) c9).ownBlock=(Value.slice q (F a).length c).ownBlock ∨ (Value.slice q9 ((F a).length + 1) c9).ownBlock=some V.heap.size) ->
        ∃ w',(Instr.mapUpdate 144 (.map (some m)) (.string a) (.slice q9 ((F a).length + 1) c9)).run Tryz.prog w9=.ok () w'/\MM w m w' (n + 1) (Zs F a p)/\w9.grownBy w' (some m):=by
  obtain ⟨f,h1,h2,h3,h4⟩:=h
  have hrow:∃ (q:Option Addr) (c:Nat) (us:List Pv),us.length=(F a).length/\sv (f a)=.slice q (F a).length c/\OwnK sc 26 6 (m + 1) wr q c us/\(∀ (j:Nat) (u:Pv) (p:Pd),us[j]? = some u->(F a)[j]? = some p->PdIn w u p):=by
    cases hf:f a with
    | none=>exact ⟨none,0,[],by rw [h2 a hf];rfl,by rw [h2 a hf];rfl,OwnK.nil _ _,fun j u p hj=>by simp at hj⟩
    | some x =>
      obtain ⟨_,e,us,h6,h7,h8⟩:=h3 a x hf
      exact ⟨some ⟨x.1,0,none⟩,x.2.2,us,by rw [h6,e],by rw [e];rfl,h7,h8⟩
  obtain ⟨q,c,us,e1,e2,e3,e4⟩:=hrow
  refine ⟨q,c,us,e1,fun V hV=>⟨?_,e3.below hV⟩,fun V hV q9 c9 w9 ho hg hor=>?_⟩
  · have:=(h1.below hV).look hs
    rw [e2] at this
    exact this
  · have hob:∀ b,(Value.slice q (F a).length c).ownBlock=some b->m + 1<=b/\b < wr.heap.size:=fun b e=>by
      have:=World.ownsRow.lt e3 b (by rw [e1];exact e)
      exact this
    have hmw:=h1.lt
    have hsv:(sv (f a)).ownBlock=(Value.slice q (F a).length c).ownBlock:=by rw [e2]
    obtain ⟨g9,rfl⟩:∃ g9,q9=some ⟨g9,0,none⟩:=by
      rcases ho.2 with ⟨h0,h9⟩ | ⟨g9,cp,cur,hv,_⟩
      · simp at h9
      · injection hv with k1
        exact ⟨g9,k1⟩
    have hg9:=World.ownsRow.lt ho g9 rfl
    have hSM:SM w9 m n f:=(h1.below hV).kept hg (fun e=>by have:=(hob m e.symm).1;omega)
    obtain ⟨w',r1,r2,r3⟩:=hSM.put hn hs (g9,(F a).length + 1,c9)
    refine ⟨w',r1,⟨_,r2,fun b hb=>?_,fun b x hb=>?_,fun b d x y hb hd hne=>?_⟩,r3⟩
    · by_cases e:b=a
      · subst e;rw [sg] at hb;cases hb
      · rw [xt _ _ e] at hb
        unfold Zs
        rw [if_neg e]
        exact h2 b hb
    · by_cases e:b=a
      · subst e
        rw [sg] at hb
        cases hb
        refine ⟨Nat.succ_pos _, ?_⟩
        unfold Zs
        rw [if_pos rfl]
        exact ⟨by simp,us ++ [u],by simp [e1],xp ho r3 (fun p hp=>by cases hp;intro e;injection e with e;simp only at e;omega),zcl e1 e4 hu⟩
      · rw [xt _ _ e] at hb
        unfold Zs
        rw [if_neg e]
        obtain ⟨h5,h6⟩:=h3 b x hb
        have hx1:m + 1<=x.1:=by
          obtain ⟨_,us6,h62,h63,_⟩:=h6
          exact (World.ownsRow.lt h63 x.1 rfl).1
        refine ⟨h5,((h6.kept (r:=none) (ji hV _) (fun _ _ e=>by cases e)).kept hg ?_).kept r3 ?_⟩
        · intro p hp
          cases hp
          intro e9
          cases hf:f a with
          | none=>rw [<- hsv,hf] at e9;cases e9
          | some z =>
            rw [<- hsv,hf] at e9
            injection e9 with e9
            exact h4 b a x z hb hf e e9
        · intro p hp
          cases hp
          intro e9
          injection e9 with e9
          simp only at e9
          omega
    · have key:∀ b y,f b=some y->b ≠ a->g9 ≠ y.1:=fun b y hb hne e9=>by
        obtain ⟨_,_,us6,h62,h63,_⟩:=h3 b y hb
        have hy:=(World.ownsRow.lt h63 y.1 rfl).2
        rcases hor with ho | ho
        · cases hf:f a with
          | none=>rw [<- hsv,hf] at ho;cases ho
          | some z =>
            rw [<- hsv,hf] at ho
            injection ho with ho
            simp only at ho
            exact h4 b a y z hb hf hne (by omega)
        · injection ho with ho
          simp only at ho
          have:=hV.size
          omega
      by_cases e:b=a
      · subst e
        rw [sg] at hb
        cases hb
        rw [xt _ _ (fun e=>hne e.symm)] at hd
        exact key d y hd (fun e=>hne e.symm)
      · rw [xt _ _ e] at hb
        by_cases e5:d=a
        · subst e5
          rw [sg] at hd
          cases hd
          exact fun e9=>key b x hb e e9.symm
        · rw [xt _ _ e5] at hd
          exact h4 b d x y hb hd hne
end Go.Proofs.YtimklglliffpcaaGreat
namespace Go.Proofs.YtimklglliffpcaaGreat
open Go.RowKit Go.Sort Go.Shelf Go.Maps
theorem zav (m:Nat):AnyZ.SortsIn Tryz.prog Tryz.sortedA_ren Fence.wide m :=
  ⟨fun blk off cap ss W hH hblk hsz=>callsIn_wide.2 (Any.slices_Sort_string Tryz.sortS blk off cap ss W hH hblk hsz),
   fun p cap W=>callsIn_wide.2 (Any.slices_Sort_string_none Tryz.sortS p cap W)⟩
/-- The names of all files, in their order. -/
def Ak {α:Type} (f:ByteArray->Option α) (l:List ByteArray):Prop:=l.Pairwise (fun x y=>x.data.toList < y.data.toList)/\∀ nm,nm ∈ l ↔ (f nm).isSome=true
def Qn (x:List UInt8):ByteArray:=⟨x.toArray⟩
theorem re (x:List UInt8):(Qn x).data.toList=x:=by simp [Qn]
theorem Td {w:World} {m n:Nat} {f:ByteArray->Option (Nat × Nat × Nat)} {D:DataW Unit} (h1:w.ownsMap Tryz.prog 9 Rq m n D) (h2:∀ nm zd,D.atKey (.string nm.data.toList) zd=match f nm with | none=>zd | some g=>dq g) {ss:List (List UInt8)} (hp:ss.Perm (strKeys D)) :
    Ak f ((ss.mergeSort fun x y=>decide (x<=y)).map Qn):=by
  obtain ⟨es,hD,hpw,_⟩:=h1.entries keyS
  obtain ⟨es',hD',hko⟩:=h1.keysOf
  obtain rfl:es=es':=by rw [hD] at hD';simpa using hD'
  subst hD
  have hk:∀ p ∈ es,∃ x,p.1=.string x:=fun p hp=>by obtain ⟨v,hv⟩:=hko p hp;obtain ⟨x,_,hx,_⟩:=Maps.keyOf_str Tryz.underlying9 hv;exact ⟨x,hx⟩
  have hnd:ss.Nodup:=by
    refine hp.symm.nodup ?_
    show (es.map fun p=>strOf p.1).Nodup
    refine List.pairwise_map.2 (hpw.imp_of_mem fun {p q} hp' hq' hne e=>hne ?_)
    obtain ⟨a,ha⟩:=hk p hp'
    obtain ⟨b,hb⟩:=hk q hq'
    rw [ha,hb] at e ⊢
    exact congrArg _ e
  have hmem:∀ x,x ∈ ss ↔ (f (Qn x)).isSome=true:=fun x=>by
    rw [hp.mem_iff]
    have hh:x ∈ strKeys (.map es) ↔ has (.map es) (.string x)=true:=by
      rw [has_eq,List.any_eq_true]
      show x ∈ es.map (fun p=>strOf p.1) ↔ _
      rw [List.mem_map]
      constructor
      · rintro ⟨p,hp',rfl⟩
        obtain ⟨a,ha⟩:=hk p hp'
        exact ⟨p,hp',by rw [ha];simp [Lit.sameKey,strOf]⟩
      · rintro ⟨p,hp',hs⟩
        obtain ⟨a,ha⟩:=hk p hp'
        rw [ha] at hs
        exact ⟨p,hp',by rw [ha];simpa [Lit.sameKey,strOf] using hs⟩
    rw [hh]
    have h3:=h2 (Qn x)
    rw [re] at h3
    cases hf:f (Qn x) with
    | none =>
      rw [hf] at h3
      rw [has_false_of_atKey h3];simp
    | some g =>
      rw [hf] at h3
      rw [has_true_of_atKey (y:=dq g) h3];simp
  have hperm:(ss.mergeSort fun x y=>decide (x<=y)).Perm ss:=List.mergeSort_perm _ _
  have tr:∀ a b c:List UInt8,leB a b=true->leB b c=true->leB a c=true:=fun a b c h1 h2=>by simp only [leB,decide_eq_true_eq] at *;exact List.le_trans h1 h2
  have to:∀ a b:List UInt8,(leB a b || leB b a)=true:=fun a b=>by simp only [leB,Bool.or_eq_true,decide_eq_true_eq];exact List.le_total a b
  have hs:=List.pairwise_mergeSort tr to ss
  have hnd2:(ss.mergeSort leB).Nodup:=hperm.symm.nodup hnd
  refine ⟨?_,fun nm=>?_⟩
  · rw [List.pairwise_map]
    refine (hs.and hnd2).imp fun {x y} h=>?_
    rw [re,re]
    have h4:x<=y:=by simpa [leB] using h.1
    exact Classical.byContradiction fun hn=>h.2 (List.le_antisymm h4 (List.not_lt.1 hn))
  · rw [List.mem_map]
    constructor
    · rintro ⟨x,hx,rfl⟩
      exact (hmem x).1 (hperm.mem_iff.1 hx)
    · intro h
      refine ⟨nm.data.toList,hperm.mem_iff.2 ((hmem _).2 ?_), ?_⟩
      · rw [show Qn nm.data.toList=nm from Jl (re _)];exact h
      · exact Jl (re _)
theorem Fg {D:DataW Unit} (h:Maps.IsMap D):(strKeys D).length=Maps.size D:=by
 obtain ⟨es,rfl⟩:=h
 simp [strKeys,Maps.size]
theorem za {α:Type} {f:ByteArray->Option α} {l:List ByteArray} (h:Ak f l):l.Nodup:=h.1.imp fun {a b} hab e=>by subst e;exact List.lt_irrefl _ hab
theorem Rg (m:Nat) (W:World):Calls Tryz.prog 125 #[.map (some m)] W fun e w'=>e=.returned (.func (.func 166) #[] #[.pointer (some ⟨W.heap.size,0,none⟩)])/\w'=W.alloc (.cells #[.map (some m)] 144) :=
 (callsIn_wide (n:=5)).1 (AnyZ.keys_in Tryz.keysA Fence.wide 5 trivial rfl (some m) W)
set_option maxHeartbeats 1000000 in
theorem Ks {W:World} {m n:Nat} {f:ByteArray->Option (Nat × Nat × Nat)} (h:SM W m n f) (hn:n<=1000000000) :
  Calls Tryz.prog 120 #[.func (.func 166) #[] #[.pointer (some ⟨W.heap.size,0,none⟩)]] (W.alloc (.cells #[.map (some m)] 144)) fun e w'=>(∃ q cap l,e=.returned (.slice q l.length cap)/\OwnK jy 9 1 (W.heap.size + 1) w' q cap l/\Ak f l/\l.length<=n)/\Below (W.heap.size + 1) (W.alloc (.cells #[.map (some m)] 144)) w':=by
 obtain ⟨D,h1,h2⟩:=h
 have hsz:=h1.size_le
 have hbl:=h1.lt
 have hseq:SeqGives Fence.wide 2 Tryz.prog 166 #[.pointer (some ⟨W.heap.size,0,none⟩)] encStr (fun ss=>ss.Perm (strKeys D)) (Maps.size D) (W.alloc (.cells #[.map (some m)] 144)) :=
  AnyZ.keys_gives (ρ:=Tryz.keysA_ren) { Tryz.keysA with } Fence.wide _ trivial rfl (by omega) W.heap.size m n D _ (by simp) (by simp) (by
   obtain ⟨es,clock,hb,Ft,hs,hD⟩:=h1
   exact ⟨es,clock,(Below.heap_alloc _ _ m hbl).trans hb,Ft,hs,hD⟩)
 have cS:=AnyZ.sorted_in Tryz.sortedA Fence.wide 5 trivial trivial trivial trivial rfl (by omega) (zav _) (enters_of Tryz.func162 (by kernel_rfl) rfl) 166 #[.pointer (some ⟨W.heap.size,0,none⟩)] trivial (enters_of Tryz.func166 (by kernel_rfl) rfl) _ _ (by unfold maxLen;omega) (by omega) _ hseq
 change CallsIn _ _ Tryz.prog 120 _ _ _ at cS
 refine (callsIn_wide.1 cS).mono ?_
 rintro e w' ⟨v,ss,rfl,hS,hrow,hnil,hb⟩
 have hno:=Td h1 h2 hS
 have hlen:((ss.mergeSort fun x y=>decide (x<=y)).map Qn).length=ss.length:=by simp
 obtain ⟨q',cap',rfl,_⟩:=OwnK.shape hrow
 refine ⟨⟨q',cap',(ss.mergeSort fun x y=>decide (x<=y)).map Qn,by rw [hlen], ?_,hno,by rw [hlen,hS.length_eq,Fg h1.isMap];exact hsz⟩,by simpa using hb⟩
 unfold OwnK
 have e5:((ss.mergeSort fun x y=>decide (x<=y)).map Qn).map (fun x:ByteArray=>x.data.toList)=ss.mergeSort fun x y=>decide (x<=y):=by
  rw [List.map_map]
  conv=>rhs;rw [<- List.map_id (ss.mergeSort fun x y=>decide (x<=y))]
  exact List.map_congr_left fun x _=>re x
 rw [hlen,Zj,e5]
 exact ownsRow_base_a hrow (by simp)
theorem SM.len {w:World} {m n:Nat} {f:ByteArray->Option (Nat × Nat × Nat)} (h:SM w m n f):∃ (D:DataW Unit),w.ownsMap Tryz.prog 9 Rq m n D/\Maps.size D<=n:=by
 obtain ⟨D,h1,_⟩:=h
 exact ⟨D,h1,h1.size_le⟩
end Go.Proofs.YtimklglliffpcaaGreat
namespace Go.Proofs.YtimklglliffpcaaGreat
open Go.RowKit Go.Sort Go.Shelf
set_option maxHeartbeats 4000000 in
set_option maxRecDepth 100000 in
theorem Na (q:Option Addr) (c:Nat) (p0:Pd) (ps:List Pd) (w:World) (h:PdsOf w q c (p0 :: ps)) (hs:Small (p0 :: ps)) (hl:ps.length<=10000000000000) (hc1:c ≠ 1) (hBA:Nc) :
  Calls Tryz.prog 14 #[.slice q (ps.length + 1) c] w fun e w'=>(∃ r:Pv,e=.returned (.tuple #[.agg #[.int .i64 r.kind,.string r.attr,.slice r.qi r.ni r.ci,.slice r.qw r.nw r.cw,.int .i64 r.lo,.int .i64 r.hi],.bool (kz (p0 :: ps)).isSome])/\PdOwn w.heap.size w' r ((kz (p0 :: ps)).getD pr))/\Below w.heap.size w w':=by
 obtain ⟨b,off,u0,hq,hb,hu0,c0,c1,c2,c3,c4,c5⟩:=h.at (j:=0) (p:=p0) rfl
 subst hq
 obtain ⟨hcl,hcm⟩:=h.cap
 rw [List.length_cons] at hcl
 obtain ⟨R,hR⟩:∃ R,kz (p0 :: ps)=R:=⟨_,rfl⟩
 rw [hR]
 have HR0:=d9 (show kr (jr p0) ps=R from hR)
 obtain ⟨X,HX⟩:∃ X,w.alloc (.cells #[.int .i64 0,.string ⟨#[]⟩,.slice none 0 0,.slice none 0 0,.int .i64 0,.int .i64 0] 26)=X:=⟨_,rfl⟩
 have bX:Below w.heap.size w X:=by rw [<- HX];exact (Below.refl _ _).alloc (Nat.le_refl _) _
 have x8:X.heap[w.heap.size]? = some (.cells #[.int .i64 0,.string ⟨#[]⟩,.slice none 0 0,.slice none 0 0,.int .i64 0,.int .i64 0] 26 (0,0)):=by rw [<- HX];exact World.alloc_heap_new _ _
 have sX:X.heap.size=w.heap.size + 1:=by rw [<- HX];simp
 have hbel:=Below.refl X.heap.size X
 simp only [Nat.zero_mul,Nat.add_zero] at c0 c1 c2 c3 c4 c5
 have d0:=((d8 bX hbel).cell (p:=⟨b,_,none⟩) hb).trans c0
 have d1:=((d8 bX hbel).cell (p:=⟨b,_,none⟩) hb).trans c1
 have d2:=((d8 bX hbel).cell (p:=⟨b,_,none⟩) hb).trans c2
 have d3:=((d8 bX hbel).cell (p:=⟨b,_,none⟩) hb).trans c3
 have d4:=((d8 bX hbel).cell (p:=⟨b,_,none⟩) hb).trans c4
 have d5:=((d8 bX hbel).cell (p:=⟨b,_,none⟩) hb).trans c5
 have hN0:=sl u0 p0 X (hu0.keep bX) (hs p0 (by simp))
 unfold Pv.val at hN0
 have i1:(1:Int)<=(ps.length:Int) + 1:=by omega
 have i2:(ps.length:Int) + 1<=(c:Int):=by omega
 have i3:((ps.length:Int) + 1 == 0)=false:=by rw [beq_eq_false_iff_ne];omega
 have i4:(0:Int) < (ps.length:Int) + 1:=by omega
 have i5:(1:Int)<=(c:Int):=by omega
 have i6:(ps.length:Int) + 1<=10000000000001:=by omega
 obtain ⟨x0,x1,x2,x3,x4,x5⟩:=kq x8
 have xf:=fun o=>gy (o:=o) x8
 have BX:=d9 bX
 have X8:=d9 x8
 have HH:=d9 h
 have HS:=d9 hs
 clear bX x8 h hs hR c0 c1 c2 c3 c4 c5 hbel
 go_enter Tryz.func14,Tryz.ntmps14
 go_upto_region 4 with (go_at_call 16;refine hN0.mono ?_;rintro e w1 ⟨⟨r0,rfl,ho0,ht0⟩,b1⟩;have B1:=d9 b1;have O0:=d9 ho0;have T0:=d9 ht0;clear b1 ho0 ht0)
 obtain ⟨Y,HY⟩:∃ Y,w1.alloc (.cells #[.int .i64 r0.kind,.string r0.attr,.slice r0.qi r0.ni r0.ci,.slice r0.qw r0.nw r0.cw,.int .i64 r0.lo,.int .i64 r0.hi] 26)=Y:=⟨_,rfl⟩
 rw [HY]
 have y8:Y.heap[w1.heap.size]? = some (.cells #[.int .i64 r0.kind,.string r0.attr,.slice r0.qi r0.ni r0.ci,.slice r0.qw r0.nw r0.cw,.int .i64 r0.lo,.int .i64 r0.hi] 26 (0,0)):=by rw [<- HY];exact World.alloc_heap_new _ _
 have bY:Below w1.heap.size w1 Y:=by rw [<- HY];exact (Below.refl _ _).alloc (Nat.le_refl _) _
 have s1:=(uh B1).size
 have BY:=d9 (d8 (uh B1) bY)
 have OY:=d9 ((uh O0).below bY)
 have Y8:=d9 y8
 obtain ⟨M,hM⟩:∃ M,w1.heap.size=M:=⟨_,rfl⟩
 rw [hM] at Y8 s1 ⊢
 have HM0:=d9 (Nz (M:=M) (uh O0) (uh T0) (by omega))
 clear y8 bY HY d0 d1 d2 d3 d4 d5 x0 x1 x2 x3 x4 x5 xf hN0 hM
 go_wp2
 go_loopw [5,24] (fun ok iv wr=>∃ (k:Nat) (r:Pv) (o:Option Pd),k<=ps.length/\ok=.bool o.isSome/\iv=.int .i64 k/\Hid (kr o (ps.drop k)=R)/\Hid (wr.heap[M]? = some (.cells #[.int .i64 r.kind,.string r.attr,.slice r.qi r.ni r.ci,.slice r.qw r.nw r.cw,.int .i64 r.lo,.int .i64 r.hi] 26 (0,0)))/\Hid (PdOwn X.heap.size wr r (o.getD pr))/\Hid (∀ m,o=some m->Gd m)/\Hid (Off r (fun j=>j=M))/\Hid (Below X.heap.size X wr)) (fun _ iv _=>ps.length - (intOf iv).toNat)
 case atStart=>exact ⟨0,r0,jr p0,Nat.zero_le _,rfl,rfl,HR0,Y8,OY,d9 (fun m hm=>sj (uh HS p0 (by simp)) hm),HM0,BY⟩
 case round =>
  obtain ⟨k,r,o,hk,rfl,rfl,HR,KM,HP,HG,HO,HB⟩:=hrel
  have lM:M < wr.heap.size:=(Array.getElem?_eq_some_iff.1 (uh KM)).1
  have sB:=(uh HB).size
  have hXM:X.heap.size<=M:=by omega
  by_cases hlt:k < ps.length
  ·obtain ⟨p,hp,hpd⟩:=je hlt
   obtain ⟨b2,off2,uq,hq2,hb2,huq,c0,c1,c2,c3,c4,c5⟩:=(uh HH).at (j:=k + 1) (p:=p) (by simpa using hp)
   cases hq2
   have eo:off + (k + 1) * 6=off + 6 + k * 6:=by omega
   rw [eo] at c0 c1 c2 c3 c4 c5
   have bw:=d8 (uh BX) ((uh HB).mono (Nat.le_refl _))
   have g0:=(bw.cell (p:=⟨b,_,none⟩) hb).trans c0
   have g1:=(bw.cell (p:=⟨b,_,none⟩) hb).trans c1
   have g2:=(bw.cell (p:=⟨b,_,none⟩) hb).trans c2
   have g3:=(bw.cell (p:=⟨b,_,none⟩) hb).trans c3
   have g4:=(bw.cell (p:=⟨b,_,none⟩) hb).trans c4
   have g5:=(bw.cell (p:=⟨b,_,none⟩) hb).trans c5
   have k0:(0:Int)<=(k:Int):=by omega
   have k1:(k:Int) < (ps.length:Int):=by omega
   have HSP:=d9 (uh HS p (List.mem_cons_of_mem _ (List.mem_of_getElem? hp)))
   obtain ⟨W1,HW1⟩:∃ W1,wr.alloc (.cells #[.int .i64 uq.kind,.string uq.attr,.slice uq.qi uq.ni uq.ci,.slice uq.qw uq.nw uq.cw,.int .i64 uq.lo,.int .i64 uq.hi] 26)=W1:=⟨_,rfl⟩
   have b1:Below wr.heap.size wr W1:=by rw [<- HW1];exact (Below.refl _ _).alloc (Nat.le_refl _) _
   have w8:W1.heap[wr.heap.size]? = some (.cells #[.int .i64 uq.kind,.string uq.attr,.slice uq.qi uq.ni uq.ci,.slice uq.qw uq.nw uq.cw,.int .i64 uq.lo,.int .i64 uq.hi] 26 (0,0)):=by rw [<- HW1];exact World.alloc_heap_new _ _
   obtain ⟨e0,e1,e2,e3,e4,e5⟩:=kq w8
   have hN:=sl uq p W1 (huq.keep (d8 bw b1)) (uh HSP)
   unfold Pv.val at hN
   have HR1:=d9 (show kr o (p :: ps.drop (k + 1))=R by rw [<- hpd];exact uh HR)
   have BW1:=d9 b1
   clear c0 c1 c2 c3 c4 c5 eo bw hp hpd huq w8 b1
   go_upto_region 8 with (go_at_call 16;refine hN.mono ?_;rintro e w2 ⟨⟨r2,rfl,ho2,ht2⟩,bb2⟩;have B2:=d9 bb2;have O2:=d9 ho2;have TT2:=d9 ht2;(obtain ⟨W3,HW3⟩:∃ W3,w2.alloc (.cells #[.int .i64 r2.kind,.string r2.attr,.slice r2.qi r2.ni r2.ci,.slice r2.qw r2.nw r2.cw,.int .i64 r2.lo,.int .i64 r2.hi] 26)=W3:=⟨_,rfl⟩);clear bb2 ho2 ht2)
   have b3:Below w2.heap.size w2 W3:=by rw [<- HW3];exact (Below.refl _ _).alloc (Nat.le_refl _) _
   have q3:W3.heap[w2.heap.size]? = some (.cells #[.int .i64 r2.kind,.string r2.attr,.slice r2.qi r2.ni r2.ci,.slice r2.qw r2.nw r2.cw,.int .i64 r2.lo,.int .i64 r2.hi] 26 (0,0)):=by rw [<- HW3];exact World.alloc_heap_new _ _
   have bW3:=d8 (uh BW1) (d8 (uh B2) b3)
   have KM3:=d9 ((bW3.block M lM).trans (uh KM))
   have K83:=d9 q3
   have HP3:=d9 ((uh HP).below bW3)
   have HP2:=d9 ((uh O2).below b3)
   have HB3:=d9 (d8 (uh HB) bW3)
   have l83:w2.heap.size < W3.heap.size:=(Array.getElem?_eq_some_iff.1 q3).1
   have sW1:=(uh BW1).size
   have sw2:=(uh B2).size
   obtain ⟨f0,f1,f2,f3,f4,f5⟩:=kq (uh KM3)
   obtain ⟨h0,h1,h2,h3,h4,h5⟩:=kq (uh K83)
   have q8:=((uh HB3).block w.heap.size (by omega)).trans (uh X8)
   obtain ⟨x0,x1,x2,x3,x4,x5⟩:=kq q8
   have xf:=fun o=>gy (o:=o) q8
   have BF:=d9 ((uh BX).trans ((uh HB3).mono (by omega)))
   clear b3 q3 bW3 q8 hN e0 e1 e2 e3 e4 e5 g0 g1 g2 g3 g4 g5 HW3 HW1
   cases o with
   | none =>
    have HRN:=d9 (show none=R by rw [<- uh HR1];rfl)
    go_wp2
    exact bodyPost_ret (v:=.tuple #[.agg #[.int .i64 0,.string ⟨#[]⟩,.slice none 0 0,.slice none 0 0,.int .i64 0,.int .i64 0],.bool false]) (by simp [results,Tryz.results14,go_sem, *]) rfl ⟨⟨pc,by rw [<- uh HRN];rfl,by rw [<- uh HRN];exact ku _ _⟩,(((((((uh BF).setCell (p:=⟨w.heap.size,0,none⟩) (Nat.le_refl _) _).setCell (p:=⟨w.heap.size,1,none⟩) (Nat.le_refl _) _).setCell (p:=⟨w.heap.size,2,none⟩) (Nat.le_refl _) _).setCell (p:=⟨w.heap.size,3,none⟩) (Nat.le_refl _) _).setCell (p:=⟨w.heap.size,4,none⟩) (Nat.le_refl _) _).setCell (p:=⟨w.heap.size,5,none⟩) (Nat.le_refl _) _)⟩
   | some m =>
    cases hnq:jr p with
    | none =>
     have HRN:=d9 (show none=R by rw [<- uh HR1];simp [kr,hnq])
     rw [hnq] at HP2
     clear hnq
     go_wp2
     exact bodyPost_ret (v:=.tuple #[.agg #[.int .i64 0,.string ⟨#[]⟩,.slice none 0 0,.slice none 0 0,.int .i64 0,.int .i64 0],.bool false]) (by simp [results,Tryz.results14,go_sem, *]) rfl ⟨⟨pc,by rw [<- uh HRN];rfl,by rw [<- uh HRN];exact ku _ _⟩,(((((((uh BF).setCell (p:=⟨w.heap.size,0,none⟩) (Nat.le_refl _) _).setCell (p:=⟨w.heap.size,1,none⟩) (Nat.le_refl _) _).setCell (p:=⟨w.heap.size,2,none⟩) (Nat.le_refl _) _).setCell (p:=⟨w.heap.size,3,none⟩) (Nat.le_refl _) _).setCell (p:=⟨w.heap.size,4,none⟩) (Nat.le_refl _) _).setCell (p:=⟨w.heap.size,5,none⟩) (Nat.le_refl _) _)⟩
    | some nn =>
     rw [hnq] at HP2 TT2 O2
     have hat1:r2.attr=nn.attr:=(uh HP2).1.2.1
     have hat2:r.attr=m.attr:=(uh HP3).1.2.1
     by_cases hatt:nn.attr=m.attr
     ·have heq:(r2.attr.toList == r.attr.toList)=true:=by rw [hat1,hat2,hatt];simp
      have HRK:=d9 (show kr (ry m nn) (ps.drop (k + 1))=R by rw [<- uh HR1];simp [kr,hnq,hatt])
      have hOff2:=Nz (M:=M) (u:=r2) (uh O2) (uh TT2)
      have hC:=hBA r r2 m nn X.heap.size W3 (uh HB3).size (uh HP3) ((uh HP2).mono (by omega)) (uh HG m rfl) (sj (uh HSP) hnq) (fun x y hx hy=>by
       have i1:=zbw (uh HP) x hx
       have i2:=Za (uh HP2) y hy
       omega) (fun j=>j=M) (fun j hj=>by omega) (uh HO) (Qf (uh HP2) (fun j hj=>by omega))
      unfold Pv.val at hC
      have HGN:=d9 (fun z (hz:ry m nn=some z)=>Yv (uh HG m rfl) (sj (uh HSP) hnq) hz)
      clear hnq hat1 hat2 hatt hOff2
      go_wp2_with (go_at_call 50;refine hC.mono ?_;rintro e w4 ⟨⟨r4,rfl,ho4,hof4⟩,b4,hk4⟩;have O4:=d9 ho4;have OF4:=d9 hof4;have B4:=d9 b4;have KM4:=d9 ((hk4 M rfl).trans (uh KM3));clear f0 f1 f2 f3 f4 f5;(obtain ⟨f0,f1,f2,f3,f4,f5⟩:=kq (uh KM4));have ff:=fun o=>gy (o:=o) (uh KM4);clear ho4 hof4 b4 hk4)
      go_roundw
      case rel=>exact ⟨k + 1,r4,ry m nn,by omega,rfl,by go_num,HRK,d9 (Bu (uh KM4) _ _ _ _ _ _),d9 ((((((((uh O4).setC (uh OF4) rfl 0 _).setC (uh OF4) rfl 1 _).setC (uh OF4) rfl 2 _).setC (uh OF4) rfl 3 _).setC (uh OF4) rfl 4 _).setC (uh OF4) rfl 5 _)),HGN,OF4,d9 ((((((((uh HB3).trans (uh B4)).setCell (p:=⟨M,0,none⟩) hXM _).setCell (p:=⟨M,1,none⟩) hXM _).setCell (p:=⟨M,2,none⟩) hXM _).setCell (p:=⟨M,3,none⟩) hXM _).setCell (p:=⟨M,4,none⟩) hXM _).setCell (p:=⟨M,5,none⟩) hXM _)⟩
      case measure=>simp [intOf];omega
     ·have heq:(r2.attr.toList == r.attr.toList)=false:=mg (by rw [hat1,hat2];exact hatt)
      have HRN:=d9 (show none=R by rw [<- uh HR1];simp [kr,hnq,hatt])
      clear hnq hat1 hat2 hatt
      go_wp2
      exact bodyPost_ret (v:=.tuple #[.agg #[.int .i64 0,.string ⟨#[]⟩,.slice none 0 0,.slice none 0 0,.int .i64 0,.int .i64 0],.bool false]) (by simp [results,Tryz.results14,go_sem, *]) rfl ⟨⟨pc,by rw [<- uh HRN];rfl,by rw [<- uh HRN];exact ku _ _⟩,(((((((uh BF).setCell (p:=⟨w.heap.size,0,none⟩) (Nat.le_refl _) _).setCell (p:=⟨w.heap.size,1,none⟩) (Nat.le_refl _) _).setCell (p:=⟨w.heap.size,2,none⟩) (Nat.le_refl _) _).setCell (p:=⟨w.heap.size,3,none⟩) (Nat.le_refl _) _).setCell (p:=⟨w.heap.size,4,none⟩) (Nat.le_refl _) _).setCell (p:=⟨w.heap.size,5,none⟩) (Nat.le_refl _) _)⟩
  ·have k1:¬ (k:Int) < (ps.length:Int):=by omega
   have HRE:=d9 (show o=R by rw [<- uh HR,List.drop_eq_nil_of_le (by omega:ps.length<=k)];cases o <;> rfl)
   obtain ⟨f0,f1,f2,f3,f4,f5⟩:=kq (uh KM)
   have q8:=((uh HB).block w.heap.size (by omega)).trans (uh X8)
   obtain ⟨x0,x1,x2,x3,x4,x5⟩:=kq q8
   have xf:=fun o=>gy (o:=o) q8
   have HPF:=d9 (uh HP)
   have HNF:=d9 (show Off r (fun j=>j=w.heap.size) from Qf (uh HP) (fun k hk=>by omega))
   have BF:=d9 ((uh BX).trans ((uh HB).mono (by omega)))
   clear q8
   go_wp2
   exact bodyPost_ret (v:=.tuple #[.agg #[.int .i64 r.kind,.string r.attr,.slice r.qi r.ni r.ci,.slice r.qw r.nw r.cw,.int .i64 r.lo,.int .i64 r.hi],.bool o.isSome]) (by simp [results,Tryz.results14,go_sem, *]) rfl ⟨⟨r,by rw [<- uh HRE],by rw [<- uh HRE];exact ((((((((uh HPF).setC (uh HNF) rfl 0 _).setC (uh HNF) rfl 1 _).setC (uh HNF) rfl 2 _).setC (uh HNF) rfl 3 _).setC (uh HNF) rfl 4 _).setC (uh HNF) rfl 5 _)).mono (by omega)⟩,(((((((uh BF).setCell (p:=⟨w.heap.size,0,none⟩) (Nat.le_refl _) _).setCell (p:=⟨w.heap.size,1,none⟩) (Nat.le_refl _) _).setCell (p:=⟨w.heap.size,2,none⟩) (Nat.le_refl _) _).setCell (p:=⟨w.heap.size,3,none⟩) (Nat.le_refl _) _).setCell (p:=⟨w.heap.size,4,none⟩) (Nat.le_refl _) _).setCell (p:=⟨w.heap.size,5,none⟩) (Nat.le_refl _) _)⟩
end Go.Proofs.YtimklglliffpcaaGreat

/- The parser hangs on what it reads and on the next token alone. -/
import Derived.Test.YtencibjmiphinaaGreatDoorEZak
namespace Go.Proofs.YtencibjmiphinaaGreatDoor
open Go.RowKit

/-- What of a token the parser looks at: its kind, number, text. -/
def stp (t:Tk):Int × Int × ByteArray:=(t.1,t.2.2.2.1,t.2.2.2.2)
def bCls:ByteArray:=⟨#[41]⟩
/-- What may stand behind a part that was read ahead of r: the same next token; where there was none, none or a closing bracket. -/
def Hd:List Tk→List Tk→Prop
 | [],r'=>∀ t q,r'=t :: q→t.1=4∧t.2.2.2.2=bCls
 | t :: _,r'=>∃ t' q,r'=t' :: q∧stp t'=stp t
abbrev Pz (α:Type):=List Tk→Rs α
def Rs.bnd {α β:Type}:Rs α→(α→List Tk→Rs β)→Rs β
 | .bad p,_=>.bad p
 | .ok x r,g=>g x r
def brn {α:Type} (s:ByteArray) (F G:Pz α):Pz α:=fun l=>match skL s l with
 | none=>F l
 | some r=>G r
/-- f reads c tokens at least and hangs on what it reads and the next token alone; those of F do the same, wherever the tokens stand. -/
structure Loc {α:Type} (en:Int) (n c:Nat) (R:α→α→Prop) (f:Pz α) (F:Pz α→Prop):Prop where
 yes:∀ l x r,l.length < n→f l=.ok x r→∃ a,l=a ++ r∧c≤a.length∧∀ f',F f'→∀ a' r',a'.map stp=a.map stp→Hd r r'→∃ x',R x x'∧f' (a' ++ r')=.ok x' r'
 no:∀ l p,l.length < n→f l=.bad p→p=en ∨ ∃ a t b,l=a ++ t :: b∧p=t.2.1∧∀ f',F f'→∀ a' t' b',a'.map stp=a.map stp→stp t'=stp t→f' (a' ++ t' :: b')=.bad t'.2.1
theorem Hd.app {b r2 b' r2':List Tk} (hb:b'.map stp=b.map stp) (h:Hd r2 r2'):Hd (b ++ r2) (b' ++ r2'):=by
 cases b with
 | nil =>
  have:b'=[]:=by simpa using hb
  subst this;exact h
 | cons t b =>
  cases b' with
  | nil=>simp at hb
  | cons t' b' =>
   simp only [List.map_cons,List.cons.injEq] at hb
   exact ⟨t',b' ++ r2',rfl,hb.1⟩
theorem Hd.at {b b' b2 b2':List Tk} {t t':Tk} (hb:b'.map stp=b.map stp) (h:stp t'=stp t):Hd (b ++ t :: b2) (b' ++ t' :: b2'):=Hd.app hb ⟨t',b2',rfl,h⟩
theorem map_split {a b c:List Tk} (h:c.map stp=(a ++ b).map stp):∃ a' b',c=a' ++ b'∧a'.map stp=a.map stp∧b'.map stp=b.map stp:=by
 refine ⟨c.take a.length,c.drop a.length,(List.take_append_drop _ _).symm, ?_, ?_⟩
 ·rw [List.map_take,h,List.map_append,show a.length=(a.map stp).length by simp,List.take_left]
 ·rw [List.map_drop,h,List.map_append,show a.length=(a.map stp).length by simp,List.drop_left]
theorem stp_eq {t t':Tk} (h:stp t'=stp t):t'.1=t.1∧t'.2.2.2.1=t.2.2.2.1∧t'.2.2.2.2=t.2.2.2.2:=by
 simp only [stp,Prod.mk.injEq] at h;exact h
theorem skL_cons {s:ByteArray} {t:Tk} {l:List Tk}:skL s (t :: l)=if t.1=4∧t.2.2.2.2=s then some l else none:=rfl
theorem skL_is {s:ByteArray} {l r:List Tk} (h:skL s l=some r):∃ t,l=t :: r∧t.1=4∧t.2.2.2.2=s:=by
 cases l with
 | nil=>simp [skL] at h
 | cons t l =>
  rw [skL_cons] at h
  split at h
  ·cases h;exact ⟨t,rfl,‹_›⟩
  ·cases h
theorem skL_no {s:ByteArray} {t t':Tk} {l l':List Tk} (h:skL s (t :: l)=none) (e:stp t'=stp t):skL s (t' :: l')=none:=by
 have e:=stp_eq e
 rw [skL_cons] at h
 split at h
 ·cases h
 ·rename_i h1
  rw [skL_cons,if_neg]
  rw [e.1,e.2.2];exact h1
section
variable {α β : Type} {en : Int} {n c d : Nat} {R : α → α → Prop} {Q : β → β → Prop} {f : Pz α} {F : Pz α → Prop} {g : α → Pz β} {G : α → Pz β → Prop}
theorem Loc.sub {F2:Pz α→Prop} {c2:Nat} (h:Loc en n c R f F) (hs:∀ h,F2 h→F h) (hc:c2≤c):Loc en n c2 R f F2:=by
 constructor
 ·intro l x r hl e
  obtain ⟨a,h1,h2,h3⟩:=h.yes l x r hl e
  exact ⟨a,h1,by omega,fun f' hf=>h3 f' (hs f' hf)⟩
 ·intro l p hl e
  rcases h.no l p hl e with h | ⟨a,t,b,h1,h2,h3⟩
  ·exact Or.inl h
  ·exact Or.inr ⟨a,t,b,h1,h2,fun f' hf=>h3 f' (hs f' hf)⟩
theorem Loc.less {m:Nat} (h:Loc en n c R f F) (hm:m≤n):Loc en m c R f F :=
 ⟨fun l x r hl=>h.yes l x r (by omega),fun l p hl=>h.no l p (by omega)⟩
theorem Loc.bnd (hf:Loc en n c R f F) (hg:∀ x,Loc en (n - c) d Q (g x) (G x)) :
  Loc en n (c + d) Q (fun l=>(f l).bnd g) (fun h=>∃ f' g',F f'∧(∀ x x',R x x'→G x (g' x'))∧h=fun l=>(f' l).bnd g'):=by
 constructor
 ·intro l y r2 hl h
  cases e:f l with
  | bad p=>simp only [e,Rs.bnd] at h;cases h
  | ok x r =>
   simp only [e,Rs.bnd] at h
   obtain ⟨a,rfl,hc,hA⟩:=hf.yes l x r hl e
   have hl2:r.length < n - c:=by simp at hl;omega
   obtain ⟨a2,rfl,hd,hB⟩:=(hg x).yes r y r2 hl2 h
   refine ⟨a ++ a2,(List.append_assoc _ _ _).symm,by simp;omega, ?_⟩
   rintro _ ⟨f',g',hf',hg',rfl⟩ a' r' h1 h2
   obtain ⟨b,b2,rfl,m1,m2⟩:=map_split h1
   obtain ⟨x',hx,he⟩:=hA f' hf' b (b2 ++ r') m1 (Hd.app m2 h2)
   obtain ⟨y',hy,he2⟩:=hB _ (hg' x x' hx) b2 r' m2 h2
   exact ⟨y',hy,by simp only [List.append_assoc,he];exact he2⟩
 ·intro l p hl h
  cases e:f l with
  | bad q =>
   simp only [e,Rs.bnd] at h
   cases h
   rcases hf.no l _ hl e with h | ⟨a,t,b,h1,h2,h3⟩
   ·exact Or.inl h
   ·refine Or.inr ⟨a,t,b,h1,h2, ?_⟩
    rintro _ ⟨f',g',hf',hg',rfl⟩ a' t' b' m1 m2
    simp only [h3 f' hf' a' t' b' m1 m2];rfl
  | ok x r =>
   simp only [e,Rs.bnd] at h
   obtain ⟨a,rfl,hc,hA⟩:=hf.yes l x r hl e
   have hl2:r.length < n - c:=by simp at hl;omega
   rcases (hg x).no r p hl2 h with h | ⟨a2,t,b,rfl,h2,h3⟩
   ·exact Or.inl h
   ·refine Or.inr ⟨a ++ a2,t,b,(List.append_assoc _ _ _).symm,h2, ?_⟩
    rintro _ ⟨f',g',hf',hg',rfl⟩ a' t' b' m1 m2
    obtain ⟨c1,c2,rfl,k1,k2⟩:=map_split m1
    obtain ⟨x',hx,he⟩:=hA f' hf' c1 (c2 ++ t' :: b') k1 (Hd.at k2 m2)
    simp only [List.append_assoc,he]
    exact h3 _ (hg' x x' hx) c2 t' b' k2 m2
theorem Loc.branch {s:ByteArray} {A B:Pz α} {FA FB:Pz α→Prop} (hs:s ≠ bCls) (hA:Loc en n c R A FA) (hB:Loc en (n - 1) d R B FB) (hc:c≤d + 1) :
  Loc en n c R (brn s A B) (fun h=>∃ A' B',FA A'∧FB B'∧h=brn s A' B'):=by
 constructor
 ·intro l x r hl h
  cases e:skL s l with
  | none =>
   simp only [brn,e] at h
   obtain ⟨a,rfl,h1,h2⟩:=hA.yes l x r hl h
   refine ⟨a,rfl,h1, ?_⟩
   rintro _ ⟨A',B',hA',hB',rfl⟩ a' r' m1 m2
   obtain ⟨x',hx,he⟩:=h2 A' hA' a' r' m1 m2
   refine ⟨x',hx, ?_⟩
   have e2:skL s (a' ++ r')=none:=by
    cases a with
    | cons t a =>
     cases a' with
     | nil=>simp at m1
     | cons t' a' =>
      simp only [List.map_cons,List.cons.injEq] at m1
      exact skL_no e m1.1
    | nil =>
     have:a'=[]:=by simpa using m1
     subst this
     cases r with
     | nil =>
      cases r' with
      | nil=>rfl
      | cons t q =>
       have h9:=(m2 t q rfl).2
       show skL s (t :: q)=none
       rw [skL_cons,if_neg]
       rintro ⟨_,h8⟩;exact hs (h8.symm.trans h9)
     | cons t r =>
      obtain ⟨t',q,rfl,h9⟩:=m2
      exact skL_no e h9
   show brn s A' B' _=_
   simp only [brn,e2,he]
  | some r1 =>
   simp only [brn,e] at h
   obtain ⟨t,rfl,t1,t2⟩:=skL_is e
   obtain ⟨a,rfl,h1,h2⟩:=hB.yes r1 x r (by simp at hl;omega) h
   refine ⟨t :: a,rfl,by simp;omega, ?_⟩
   rintro _ ⟨A',B',hA',hB',rfl⟩ a' r' m1 m2
   cases a' with
   | nil=>simp at m1
   | cons t' a' =>
    simp only [List.map_cons,List.cons.injEq] at m1
    obtain ⟨x',hx,he⟩:=h2 B' hB' a' r' m1.2 m2
    have m3:=stp_eq m1.1
    have e2:skL s (t' :: a' ++ r')=some (a' ++ r'):=by
     show skL s (t' :: (a' ++ r'))=_
     rw [skL_cons,if_pos ⟨m3.1.trans t1,m3.2.2.trans t2⟩]
    exact ⟨x',hx,by simp only [brn,e2,he]⟩
 ·intro l p hl h
  cases e:skL s l with
  | none =>
   simp only [brn,e] at h
   rcases hA.no l p hl h with h | ⟨a,t,b,rfl,h2,h3⟩
   ·exact Or.inl h
   ·refine Or.inr ⟨a,t,b,rfl,h2, ?_⟩
    rintro _ ⟨A',B',hA',hB',rfl⟩ a' t' b' m1 m2
    have e2:skL s (a' ++ t' :: b')=none:=by
     cases a with
     | cons t a =>
      cases a' with
      | nil=>simp at m1
      | cons t' a' =>
       simp only [List.map_cons,List.cons.injEq] at m1
       exact skL_no e m1.1
     | nil =>
      have:a'=[]:=by simpa using m1
      subst this
      exact skL_no e m2
    simp only [brn,e2]
    exact h3 A' hA' a' t' b' m1 m2
  | some r1 =>
   simp only [brn,e] at h
   obtain ⟨t,rfl,t1,t2⟩:=skL_is e
   rcases hB.no r1 p (by simp at hl;omega) h with h | ⟨a,u,b,rfl,h2,h3⟩
   ·exact Or.inl h
   ·refine Or.inr ⟨t :: a,u,b,rfl,h2, ?_⟩
    rintro _ ⟨A',B',hA',hB',rfl⟩ a' t' b' m1 m2
    cases a' with
    | nil=>simp at m1
    | cons v a' =>
     simp only [List.map_cons,List.cons.injEq] at m1
     have m3:=stp_eq m1.1
     have e2:skL s (v :: a' ++ t' :: b')=some (a' ++ t' :: b'):=by
      show skL s (v :: (a' ++ t' :: b'))=_
      rw [skL_cons,if_pos ⟨m3.1.trans t1,m3.2.2.trans t2⟩]
     simp only [brn,e2]
     exact h3 B' hB' a' t' b' m1.2 m2
theorem Loc.ret (x:α):Loc en n 0 R (fun l=>.ok x l) (fun h=>∃ x',R x x'∧h=fun l=>.ok x' l):=by
 constructor
 ·intro l y r hl h
  cases h
  refine ⟨[],rfl,Nat.le_refl _, ?_⟩
  rintro _ ⟨x',hx,rfl⟩ a' r' m1 _
  have:a'=[]:=by simpa using m1
  subst this
  exact ⟨x',hx,rfl⟩
 ·intro l p hl h;cases h
theorem Loc.fail (c:Nat):Loc en n c R (fun l=>.bad (plc en l)) (fun h=>∃ en',h=fun l=>.bad (plc en' l)):=by
 constructor
 ·intro l y r hl h;cases h
 ·intro l p hl h
  cases h
  cases l with
  | nil=>exact Or.inl rfl
  | cons t l =>
   refine Or.inr ⟨[],t,l,rfl,rfl, ?_⟩
   rintro _ ⟨en',rfl⟩ a' t' b' m1 m2
   have:a'=[]:=by simpa using m1
   subst this;rfl
theorem Loc.nd (k:Int):Loc en n 1 (fun t t'=>stp t'=stp t) (ndL en k) (fun h=>∃ en',h=ndL en' k):=by
 constructor
 ·intro l y r hl h
  cases l with
  | nil=>cases h
  | cons t l =>
   simp only [ndL] at h
   split at h
   ·rename_i hk
    obtain ⟨rfl,rfl⟩:t=y∧l=r:=by cases h;exact ⟨rfl,rfl⟩
    refine ⟨[t],rfl,Nat.le_refl _, ?_⟩
    rintro _ ⟨en',rfl⟩ a' r' m1 _
    cases a' with
    | nil=>simp at m1
    | cons t' a' =>
     simp only [List.map_cons,List.cons.injEq,List.map_nil,List.map_eq_nil_iff] at m1
     obtain ⟨m1,rfl⟩:=m1
     refine ⟨t',m1, ?_⟩
     show ndL en' k (t' :: r')=_
     simp only [ndL]
     rw [if_pos ((stp_eq m1).1.trans hk)]
   ·cases h
 ·intro l p hl h
  cases l with
  | nil=>cases h;exact Or.inl rfl
  | cons t l =>
   simp only [ndL] at h
   split at h
   ·cases h
   ·rename_i hk
    cases h
    refine Or.inr ⟨[],t,l,rfl,rfl, ?_⟩
    rintro _ ⟨en',rfl⟩ a' t' b' m1 m2
    have:a'=[]:=by simpa using m1
    subst this
    show ndL en' k (t' :: b')=_
    simp only [ndL]
    rw [if_neg (by rw [(stp_eq m2).1];exact hk)]
theorem Loc.sg (s:ByteArray):Loc en n 1 (fun _ _=>True) (sgL en s) (fun h=>∃ en',h=sgL en' s):=by
 constructor
 ·intro l y r hl h
  unfold sgL at h
  split at h
  ·cases h
  ·cases h
   obtain ⟨t,rfl,t1,t2⟩:=skL_is ‹_›
   refine ⟨[t],rfl,Nat.le_refl _, ?_⟩
   rintro _ ⟨en',rfl⟩ a' r' m1 _
   cases a' with
   | nil=>simp at m1
   | cons t' a' =>
    simp only [List.map_cons,List.cons.injEq,List.map_nil,List.map_eq_nil_iff] at m1
    obtain ⟨m1,rfl⟩:=m1
    have m3:=stp_eq m1
    refine ⟨(),trivial, ?_⟩
    show sgL en' s (t' :: r')=_
    unfold sgL
    rw [skL_cons,if_pos ⟨m3.1.trans t1,m3.2.2.trans t2⟩]
 ·intro l p hl h
  unfold sgL at h
  split at h
  ·cases h
   cases l with
   | nil=>exact Or.inl rfl
   | cons t l =>
    refine Or.inr ⟨[],t,l,rfl,rfl, ?_⟩
    rintro _ ⟨en',rfl⟩ a' t' b' m1 m2
    have:a'=[]:=by simpa using m1
    subst this
    have e2:=skL_no (l':=b') ‹_› m2
    show sgL en' s (t' :: b')=_
    unfold sgL
    rw [e2];rfl
  ·cases h
theorem Loc.ifk {k:Int} {A B:Pz α} {FA FB:Pz α→Prop} (hA:Loc en n 1 R A FA) (hB:Loc en n 1 R B FB) :
  Loc en n 1 R (fun l=>if isK k l then A l else B l) (fun h=>∃ A' B',FA A'∧FB B'∧h=fun l=>if isK k l then A' l else B' l):=by
 have hk:∀ {t t':Tk} {l l':List Tk},stp t'=stp t→isK k (t' :: l')=isK k (t :: l):=fun e=>by
  simp only [isK];rw [(stp_eq e).1]
 constructor
 ·intro l x r hl h
  have H:∃ a,l=a ++ r∧1≤a.length∧∀ C,(isK k l=true→FA C)→(isK k l=false→FB C)→∀ a' r',a'.map stp=a.map stp→Hd r r'→∃ x',R x x'∧C (a' ++ r')=.ok x' r':=by
   cases e:isK k l with
   | true =>
    simp only [e,if_true] at h
    obtain ⟨a,h1,h2,h3⟩:=hA.yes l x r hl h
    exact ⟨a,h1,h2,fun C hC _=>h3 C (hC rfl)⟩
   | false =>
    simp only [e,Bool.false_eq_true,if_false] at h
    obtain ⟨a,h1,h2,h3⟩:=hB.yes l x r hl h
    exact ⟨a,h1,h2,fun C _ hC=>h3 C (hC rfl)⟩
  obtain ⟨a,rfl,h2,h3⟩:=H
  refine ⟨a,rfl,h2, ?_⟩
  rintro _ ⟨A',B',hA',hB',rfl⟩ a' r' m1 m2
  cases a with
  | nil=>simp at h2
  | cons t a =>
   cases a' with
   | nil=>simp at m1
   | cons t' a' =>
    have e0:stp t'=stp t:=by simp only [List.map_cons,List.cons.injEq] at m1;exact m1.1
    have e1:isK k (t' :: a' ++ r')=isK k (t :: a ++ r):=hk e0
    cases e:isK k (t :: a ++ r) with
    | true =>
     obtain ⟨x',hx,he⟩:=h3 A' (fun _=>hA') (fun h=>by rw [e] at h;cases h) _ r' m1 m2
     exact ⟨x',hx,by simp only [e1,e,if_true];exact he⟩
    | false =>
     obtain ⟨x',hx,he⟩:=h3 B' (fun h=>by rw [e] at h;cases h) (fun _=>hB') _ r' m1 m2
     exact ⟨x',hx,by simp only [e1,e,Bool.false_eq_true,if_false];exact he⟩
 ·intro l p hl h
  have H:p=en ∨ ∃ a t b,l=a ++ t :: b∧p=t.2.1∧∀ C,(isK k l=true→FA C)→(isK k l=false→FB C)→∀ a' t' b',a'.map stp=a.map stp→stp t'=stp t→C (a' ++ t' :: b')=.bad t'.2.1:=by
   cases e:isK k l with
   | true =>
    simp only [e,if_true] at h
    rcases hA.no l p hl h with h | ⟨a,t,b,h1,h2,h3⟩
    ·exact Or.inl h
    ·exact Or.inr ⟨a,t,b,h1,h2,fun C hC _=>h3 C (hC rfl)⟩
   | false =>
    simp only [e,Bool.false_eq_true,if_false] at h
    rcases hB.no l p hl h with h | ⟨a,t,b,h1,h2,h3⟩
    ·exact Or.inl h
    ·exact Or.inr ⟨a,t,b,h1,h2,fun C _ hC=>h3 C (hC rfl)⟩
  rcases H with h | ⟨a,t,b,rfl,h2,h3⟩
  ·exact Or.inl h
  ·refine Or.inr ⟨a,t,b,rfl,h2, ?_⟩
   rintro _ ⟨A',B',hA',hB',rfl⟩ a' t' b' m1 m2
   have e1:isK k (a' ++ t' :: b')=isK k (a ++ t :: b):=by
    cases a with
    | nil =>
     have:a'=[]:=by simpa using m1
     subst this
     exact hk m2
    | cons u a =>
     cases a' with
     | nil=>simp at m1
     | cons u' a' =>
      simp only [List.map_cons,List.cons.injEq] at m1
      exact hk m1.1
   cases e:isK k (a ++ t :: b) with
   | true =>
    simp only [e1,e,if_true]
    exact h3 A' (fun _=>hA') (fun h=>by rw [e] at h;cases h) a' t' b' m1 m2
   | false =>
    simp only [e1,e,Bool.false_eq_true,if_false]
    exact h3 B' (fun h=>by rw [e] at h;cases h) (fun _=>hB') a' t' b' m1 m2
end
theorem Loc.zero {α:Type} {en:Int} {c:Nat} {R:α→α→Prop} {f:Pz α} {F:Pz α→Prop}:Loc en 0 c R f F:=⟨fun _ _ _ h=>absurd h (Nat.not_lt_zero _),fun _ _ h=>absurd h (Nat.not_lt_zero _)⟩
theorem mbL_fuel {en k:Int}:∀ (m1 m2:Nat) (acc l:List Tk),l.length < m1→l.length < m2→mbL en k m1 acc l=mbL en k m2 acc l
 | 0,_,_,_,h,_=>absurd h (Nat.not_lt_zero _)
 | _ + 1,0,_,_,_,h=>absurd h (Nat.not_lt_zero _)
 | m1 + 1,m2 + 1,acc,l,h1,h2=>by
  simp only [mbL]
  cases e:skL ⟨#[44]⟩ l with
  | none=>rfl
  | some r =>
   have l1:=skL_len e
   simp only
   split
   ·rfl
   ·cases e2:ndL en k r with
    | bad p=>rfl
    | ok t r2 =>
     have l2:=ndL_len e2
     exact mbL_fuel m1 m2 _ _ (by omega) (by omega)
def mbP (en k:Int) (acc:List Tk):Pz (List Tk):=fun l=>mbL en k (l.length + 1) acc l
theorem mbP_eq (en k:Int) (acc:List Tk):mbP en k acc=brn ⟨#[44]⟩ (fun l=>(sgL en ⟨#[125]⟩ l).bnd fun _ r=>.ok acc r) (fun r=>if acc.length=64 then .bad (plc en r) else (ndL en k r).bnd fun t=>mbP en k (acc ++ [t])):=by
 funext l
 show mbL en k (l.length + 1) acc l=_
 simp only [mbL,brn]
 cases e:skL ⟨#[44]⟩ l with
 | none=>cases sgL en ⟨#[125]⟩ l <;> rfl
 | some r =>
  have l1:=skL_len e
  simp only
  split
  ·rfl
  ·cases e2:ndL en k r with
   | bad p=>rfl
   | ok t r2 =>
    have l2:=ndL_len e2
    exact mbL_fuel _ _ _ _ (by omega) (by omega)
def RT (ts ts':List Tk):Prop:=ts'.map stp=ts.map stp
theorem Loc.mb {en:Int} (k:Int):∀ (n:Nat) (acc:List Tk),Loc en n 1 RT (mbP en k acc) (fun h=>∃ en' acc',RT acc acc'∧h=mbP en' k acc')
 | 0,_=>Loc.zero
 | n + 1,acc=>by
  rw [mbP_eq]
  have hB:Loc en n 0 RT (fun r=>if acc.length=64 then .bad (plc en r) else (ndL en k r).bnd fun t=>mbP en k (acc ++ [t])) (fun h=>∃ en' acc',RT acc acc'∧h=fun r=>if acc'.length=64 then .bad (plc en' r) else (ndL en' k r).bnd fun t=>mbP en' k (acc' ++ [t])):=by
   by_cases h64:acc.length=64
   ·have:=Loc.fail (en:=en) (n:=n) (R:=RT) 0
    simp only [h64,if_true]
    refine this.sub ?_ (Nat.le_refl _)
    rintro _ ⟨en',acc',h1,rfl⟩
    have:acc'.length=64:=by have:=congrArg List.length h1;simp at this;omega
    exact ⟨en',by simp only [this,if_true]⟩
   ·have h1:=(Loc.nd (en:=en) (n:=n) k).bnd (Q:=RT) (d:=1) (g:=fun t=>mbP en k (acc ++ [t])) (G:=fun t h=>∃ en' acc',RT (acc ++ [t]) acc'∧h=mbP en' k acc') (fun x=>(Loc.mb k n _).less (Nat.sub_le _ _))
    simp only [h64,if_false]
    refine h1.sub ?_ (by omega)
    rintro _ ⟨en',acc',h1,rfl⟩
    have:¬ acc'.length=64:=by have:=congrArg List.length h1;simp at this;omega
    refine ⟨ndL en' k,fun t=>mbP en' k (acc' ++ [t]),⟨en',rfl⟩,fun t t' ht=>⟨en',acc' ++ [t'], ?_,rfl⟩,by simp only [this,if_false]⟩
    show (acc' ++ [t']).map stp=(acc ++ [t]).map stp
    rw [List.map_append,List.map_append,h1];simp [ht]
  have hA:=(Loc.sg (en:=en) (n:=n + 1) ⟨#[125]⟩).bnd (Q:=RT) (d:=0) (g:=fun _ r=>.ok acc r) (G:=fun _ h=>∃ x',RT acc x'∧h=fun l=>.ok x' l) (fun _=>Loc.ret acc)
  refine (Loc.branch (s:=⟨#[44]⟩) (by decide) hA hB (by omega)).sub ?_ (by omega)
  rintro _ ⟨en',acc',h1,rfl⟩
  rw [mbP_eq]
  refine ⟨_,_,⟨sgL en' ⟨#[125]⟩,fun _ r=>.ok acc' r,⟨en',rfl⟩,fun _ _ _=>⟨acc',h1,rfl⟩,rfl⟩,⟨en',acc',h1,rfl⟩,rfl⟩
theorem msL_eq (en k:Int):msL en k=fun l=>(ndL en k l).bnd fun t=>mbP en k [t]:=by
 funext l
 simp only [msL]
 cases ndL en k l <;> rfl
theorem Loc.ms {en:Int} (n:Nat) (k:Int):Loc en n 2 RT (msL en k) (fun h=>∃ en',h=msL en' k):=by
 rw [msL_eq]
 refine ((Loc.nd k).bnd (Q:=RT) (d:=1) (g:=fun t=>mbP en k [t]) (G:=fun t h=>∃ en' acc',RT [t] acc'∧h=mbP en' k acc') (fun x=>Loc.mb k _ _)).sub ?_ (by omega)
 rintro _ ⟨en',rfl⟩
 rw [msL_eq]
 exact ⟨ndL en' k,fun t=>mbP en' k [t],⟨en',rfl⟩,fun t t' ht=>⟨en',[t'],by show [t'].map stp=[t].map stp;simp [ht],rfl⟩,rfl⟩
theorem RT.words {ts ts':List Tk} (h:RT ts ts'):ts'.map (·.2.2.2.2)=ts.map (·.2.2.2.2):=by
 have e:∀ l:List Tk,l.map (·.2.2.2.2)=(l.map stp).map (·.2.2):=fun l=>by rw [List.map_map];rfl
 rw [e,e,h]
theorem RT.ints {ts ts':List Tk} (h:RT ts ts'):ts'.map (·.2.2.2.1)=ts.map (·.2.2.2.1):=by
 have e:∀ l:List Tk,l.map (·.2.2.2.1)=(l.map stp).map (·.2.1):=fun l=>by rw [List.map_map];rfl
 rw [e,e,h]
def RN (x x':Nd):Prop:=x'=x
theorem setL_eq (en:Int) (a:ByteArray):setL en a=fun l=>if isK 3 l then (msL en 3 l).bnd (fun ts r=>.ok (.mk 2 a [] (ts.map (·.2.2.2.2)) 0 0 1 []) r) else (msL en 2 l).bnd (fun ts r=>.ok (.mk 1 a (ts.map (·.2.2.2.1)) [] 0 0 1 []) r):=by
 funext l
 simp only [setL]
 cases isK 3 l with
 | true=>simp only [if_true];cases msL en 3 l <;> rfl
 | false=>simp only [Bool.false_eq_true,if_false];cases msL en 2 l <;> rfl
theorem Loc.set {en:Int} (n:Nat) (a:ByteArray):Loc en n 1 RN (setL en a) (fun h=>∃ en',h=setL en' a):=by
 rw [setL_eq]
 have hA:=(Loc.ms (en:=en) n 3).bnd (Q:=RN) (d:=0) (g:=fun ts r=>.ok (.mk 2 a [] (ts.map (·.2.2.2.2)) 0 0 1 []) r) (G:=fun ts h=>∃ x',RN (.mk 2 a [] (ts.map (·.2.2.2.2)) 0 0 1 []) x'∧h=fun l=>.ok x' l) (fun ts=>Loc.ret _)
 have hB:=(Loc.ms (en:=en) n 2).bnd (Q:=RN) (d:=0) (g:=fun ts r=>.ok (.mk 1 a (ts.map (·.2.2.2.1)) [] 0 0 1 []) r) (G:=fun ts h=>∃ x',RN (.mk 1 a (ts.map (·.2.2.2.1)) [] 0 0 1 []) x'∧h=fun l=>.ok x' l) (fun ts=>Loc.ret _)
 refine (Loc.ifk (k:=3) (hA.sub (fun _ h=>h) (by omega)) (hB.sub (fun _ h=>h) (by omega))).sub ?_ (by omega)
 rintro _ ⟨en',rfl⟩
 rw [setL_eq]
 refine ⟨_,_,⟨msL en' 3,fun ts r=>.ok (.mk 2 a [] (ts.map (·.2.2.2.2)) 0 0 1 []) r,⟨en',rfl⟩,fun ts ts' h=>⟨_, ?_,rfl⟩,rfl⟩,⟨msL en' 2,fun ts r=>.ok (.mk 1 a (ts.map (·.2.2.2.1)) [] 0 0 1 []) r,⟨en',rfl⟩,fun ts ts' h=>⟨_, ?_,rfl⟩,rfl⟩,rfl⟩
 ·show Nd.mk _ _ _ _ _ _ _ _=_;rw [h.words]
 ·show Nd.mk _ _ _ _ _ _ _ _=_;rw [h.ints]
theorem bdL_eq (en:Int) (a:ByteArray):bdL en a=fun l=>(ndL en 2 l).bnd fun t1 r1=>(sgL en ⟨#[44]⟩ r1).bnd fun _ r2=>(ndL en 2 r2).bnd fun t2 r3=>(sgL en ⟨#[93]⟩ r3).bnd fun _ r4=>.ok (.mk 3 a [] [] t1.2.2.2.1 t2.2.2.2.1 1 []) r4:=by
 funext l
 simp only [bdL]
 cases ndL en 2 l with
 | bad p=>rfl
 | ok t1 r1 =>
  simp only [Rs.bnd]
  cases sgL en ⟨#[44]⟩ r1 with
  | bad p=>rfl
  | ok u r2 =>
   simp only
   cases ndL en 2 r2 with
   | bad p=>rfl
   | ok t2 r3=>simp only;cases sgL en ⟨#[93]⟩ r3 <;> rfl
theorem Loc.bd {en:Int} (n:Nat) (a:ByteArray):Loc en n 1 RN (bdL en a) (fun h=>∃ en',h=bdL en' a):=by
 rw [bdL_eq]
 have h4:=fun (t1 t2:Tk) (m:Nat)=>(Loc.sg (en:=en) (n:=m) ⟨#[93]⟩).bnd (Q:=RN) (d:=0) (g:=fun _ r4=>.ok (.mk 3 a [] [] t1.2.2.2.1 t2.2.2.2.1 1 []) r4) (G:=fun _ h=>∃ x',RN (.mk 3 a [] [] t1.2.2.2.1 t2.2.2.2.1 1 []) x'∧h=fun l=>.ok x' l) (fun _=>Loc.ret _)
 have h3:=fun (t1:Tk) (m:Nat)=>(Loc.nd (en:=en) (n:=m) 2).bnd (Q:=RN) (fun t2=>h4 t1 t2 _)
 have h2:=fun (t1:Tk) (m:Nat)=>(Loc.sg (en:=en) (n:=m) ⟨#[44]⟩).bnd (Q:=RN) (fun _=>h3 t1 _)
 refine ((Loc.nd (en:=en) (n:=n) 2).bnd (Q:=RN) (fun t1=>h2 t1 _)).sub ?_ (by omega)
 rintro _ ⟨en',rfl⟩
 rw [bdL_eq]
 refine ⟨ndL en' 2,fun t1 r1=>_,⟨en',rfl⟩,fun t1 t1' e1=>⟨sgL en' ⟨#[44]⟩,fun _ r2=>_,⟨en',rfl⟩,fun _ _ _=>⟨ndL en' 2,fun t2 r3=>_,⟨en',rfl⟩,fun t2 t2' e2=>⟨sgL en' ⟨#[93]⟩,fun _ r4=>_,⟨en',rfl⟩,fun _ _ _=>⟨_, ?_,rfl⟩,rfl⟩,rfl⟩,rfl⟩,rfl⟩
 show Nd.mk _ _ _ _ _ _ _ _=_;rw [(stp_eq e1).2.1,(stp_eq e2).2.1]
theorem pxL_eq (en:Int) (a:ByteArray):pxL en a=fun l=>(ndL en 3 l).bnd fun t r=>(sgL en ⟨#[42]⟩ r).bnd fun _ r2=>.ok (.mk 4 a [] [t.2.2.2.2] 0 0 1 []) r2:=by
 funext l
 simp only [pxL]
 cases ndL en 3 l with
 | bad p=>rfl
 | ok t r=>simp only [Rs.bnd];cases sgL en ⟨#[42]⟩ r <;> rfl
theorem Loc.px {en:Int} (n:Nat) (a:ByteArray):Loc en n 1 RN (pxL en a) (fun h=>∃ en',h=pxL en' a):=by
 rw [pxL_eq]
 have h2:=fun (t:Tk) (m:Nat)=>(Loc.sg (en:=en) (n:=m) ⟨#[42]⟩).bnd (Q:=RN) (d:=0) (g:=fun _ r2=>.ok (.mk 4 a [] [t.2.2.2.2] 0 0 1 []) r2) (G:=fun _ h=>∃ x',RN (.mk 4 a [] [t.2.2.2.2] 0 0 1 []) x'∧h=fun l=>.ok x' l) (fun _=>Loc.ret _)
 refine ((Loc.nd (en:=en) (n:=n) 3).bnd (Q:=RN) (fun t=>h2 t _)).sub ?_ (by omega)
 rintro _ ⟨en',rfl⟩
 rw [pxL_eq]
 refine ⟨ndL en' 3,fun t r=>_,⟨en',rfl⟩,fun t t' e=>⟨sgL en' ⟨#[42]⟩,fun _ r2=>_,⟨en',rfl⟩,fun _ _ _=>⟨_, ?_,rfl⟩,rfl⟩,rfl⟩
 show Nd.mk _ _ _ _ _ _ _ _=_;rw [(stp_eq e).2.2]
theorem prL_eq (en:Int):prL en=fun l=>(ndL en 1 l).bnd fun t=>brn ⟨#[123]⟩ (brn ⟨#[91]⟩ (pxL en t.2.2.2.2) (bdL en t.2.2.2.2)) (setL en t.2.2.2.2):=by
 funext l
 simp only [prL]
 cases ndL en 1 l with
 | bad p=>rfl
 | ok t r =>
  simp only [Rs.bnd,brn]
  cases skL ⟨#[123]⟩ r with
  | some r1=>rfl
  | none=>simp only;cases skL ⟨#[91]⟩ r <;> rfl
theorem Loc.pr {en:Int} (n:Nat):Loc en n 1 RN (prL en) (fun h=>∃ en',h=prL en'):=by
 rw [prL_eq]
 have h2:=fun (t:Tk) (m:Nat)=>Loc.branch (s:=⟨#[123]⟩) (by decide) (Loc.branch (s:=⟨#[91]⟩) (by decide) (Loc.px (en:=en) m t.2.2.2.2) (Loc.bd (m - 1) t.2.2.2.2) (by omega)) (Loc.set (m - 1) t.2.2.2.2) (by omega)
 refine ((Loc.nd (en:=en) (n:=n) 1).bnd (Q:=RN) (fun t=>h2 t _)).sub ?_ (by omega)
 rintro _ ⟨en',rfl⟩
 rw [prL_eq]
 exact ⟨ndL en' 1,fun t=>_,⟨en',rfl⟩,fun t t' e=>⟨_,_,⟨_,_,⟨en',by rw [(stp_eq e).2.2]⟩,⟨en',by rw [(stp_eq e).2.2]⟩,rfl⟩,⟨en',by rw [(stp_eq e).2.2]⟩,rfl⟩,rfl⟩
/-- f reads one token at least. -/
def Dec (f:Pz Nd):Prop:=∀ l x r,f l=.ok x r→r.length + 1≤l.length
theorem chG_fuel {s:ByteArray} {f f':Pz Nd} (hf:Dec f):∀ (m1 m2:Nat) (ks:List Nd) (l:List Tk),l.length < m1→l.length < m2→(∀ l2,l2.length < l.length→f l2=f' l2)→chG s f m1 ks l=chG s f' m2 ks l
 | 0,_,_,_,h,_,_=>absurd h (Nat.not_lt_zero _)
 | _ + 1,0,_,_,_,h,_=>absurd h (Nat.not_lt_zero _)
 | m1 + 1,m2 + 1,ks,l,h1,h2,he=>by
  simp only [chG]
  cases e:skL s l with
  | none=>rfl
  | some r =>
   have l1:=skL_len e
   simp only
   rw [← he r (by omega)]
   cases e2:f r with
   | bad p=>rfl
   | ok x r2 =>
    have l2:=hf _ _ _ e2
    exact chG_fuel hf m1 m2 _ _ (by omega) (by omega) fun l3 h3=>he l3 (by omega)
def chP (s:ByteArray) (f:Pz Nd) (ks:List Nd):Pz (List Nd):=fun l=>chG s f (l.length + 1) ks l
theorem chP_eq {s:ByteArray} {f:Pz Nd} (hf:Dec f) (ks:List Nd):chP s f ks=brn s (fun l=>.ok ks l) (fun r=>(f r).bnd fun x=>chP s f (ks ++ [x])):=by
 funext l
 show chG s f (l.length + 1) ks l=_
 simp only [chG,brn]
 cases e:skL s l with
 | none=>rfl
 | some r =>
  have l1:=skL_len e
  simp only
  cases e2:f r with
  | bad p=>rfl
  | ok x r2 =>
   have l2:=hf _ _ _ e2
   exact chG_fuel hf _ _ _ _ (by omega) (by omega) fun _ _=>rfl
theorem chL_eq (op:Int) (s:ByteArray) (f:Pz Nd):chL op s f=fun l=>(f l).bnd fun x r=>(chP s f [x] r).bnd fun ks r'=>.ok (jnT op ks) r':=by
 funext l
 simp only [chL]
 cases f l with
 | bad p=>rfl
 | ok x r =>
  show _=(chG s f (r.length + 1) [x] r).bnd _
  simp only
  cases chG s f (r.length + 1) [x] r <;> rfl
theorem chL_dec {op:Int} {s:ByteArray} {f:Pz Nd} (hf:Dec f):Dec (chL op s f):=fun l x r h=>chL_rest hf l x r h
theorem chL_fuel {op:Int} {s:ByteArray} {f f':Pz Nd} (hf:Dec f) (l:List Tk) (he:∀ l2,l2.length≤l.length→f l2=f' l2):chL op s f l=chL op s f' l:=by
 simp only [chL]
 rw [← he l (Nat.le_refl _)]
 cases e:f l with
 | bad p=>rfl
 | ok x r =>
  have l1:=hf _ _ _ e
  simp only
  rw [chG_fuel hf (r.length + 1) (r.length + 1) [x] r (by omega) (by omega) fun l2 h2=>he l2 (by omega)]
theorem onL_fuel {en:Int}:∀ (m1 m2:Nat) (l:List Tk),l.length < m1→l.length < m2→onL en m1 l=onL en m2 l
 | 0,_,_,h,_=>absurd h (Nat.not_lt_zero _)
 | _ + 1,0,_,_,h=>absurd h (Nat.not_lt_zero _)
 | m1 + 1,m2 + 1,l,h1,h2=>by
  simp only [onL]
  cases e:skL ⟨#[33]⟩ l with
  | some r =>
   have l1:=skL_len e
   simp only
   rw [onL_fuel m1 m2 r (by omega) (by omega)]
  | none =>
   simp only
   cases e2:skL ⟨#[40]⟩ l with
   | none=>rfl
   | some r =>
    have l1:=skL_len e2
    simp only
    rw [chL_fuel (chL_dec (onL_rest m1)) r fun l2 h2=>chL_fuel (onL_rest m1) l2 fun l3 h3=>onL_fuel m1 m2 l3 (by omega) (by omega)]
def oneP (en:Int):Pz Nd:=fun l=>onL en (l.length + 1) l
def andP (en:Int):Pz Nd:=chL 3 ⟨#[38]⟩ (oneP en)
def orP (en:Int):Pz Nd:=chL 4 ⟨#[124]⟩ (andP en)
theorem oneP_dec (en:Int):Dec (oneP en):=fun l x r h=>onL_rest _ l x r h
theorem orL_P {en:Int} {n:Nat} {l:List Tk} (h:l.length < n):orL en n l=orP en l :=
 chL_fuel (chL_dec (onL_rest n)) l fun l2 h2=>chL_fuel (onL_rest n) l2 fun l3 h3=>onL_fuel _ _ l3 (by omega) (by omega)
theorem oneP_eq (en:Int):oneP en=brn ⟨#[33]⟩ (brn ⟨#[40]⟩ (prL en) (fun r=>(orP en r).bnd fun x r'=>(sgL en ⟨#[41]⟩ r').bnd fun _ r''=>.ok x r'')) (fun r=>(oneP en r).bnd fun x r'=>.ok (.mk 0 ⟨#[]⟩ [] [] 0 0 2 [x]) r'):=by
 funext l
 show onL en (l.length + 1) l=_
 simp only [onL,brn]
 cases e:skL ⟨#[33]⟩ l with
 | some r =>
  have l1:=skL_len e
  simp only
  rw [onL_fuel l.length (r.length + 1) r (by omega) (by omega)]
  show _=(onL en (r.length + 1) r).bnd _
  cases onL en (r.length + 1) r <;> rfl
 | none =>
  simp only
  cases e2:skL ⟨#[40]⟩ l with
  | none=>rfl
  | some r =>
   have l1:=skL_len e2
   simp only
   have:=orL_P (en:=en) (n:=l.length) (l:=r) (by omega)
   unfold orL anL at this
   rw [this]
   cases orP en r with
   | bad p=>rfl
   | ok x r'=>simp only [Rs.bnd];cases sgL en ⟨#[41]⟩ r' <;> rfl
def RL (x x':List Nd):Prop:=x'=x
/-- f and all of F read one token at least. -/
theorem Loc.chP {en:Int} {s:ByteArray} (hs:s ≠ bCls) {f:Pz Nd} {F:Pz Nd→Prop} (hd:Dec f) (hD:∀ f',F f'→Dec f'):∀ (n:Nat) (ks:List Nd),Loc en n 1 RN f F→Loc en n 0 RL (chP s f ks) (fun h=>∃ f',F f'∧h=Go.Proofs.YtencibjmiphinaaGreatDoor.chP s f' ks)
 | 0,_,_=>Loc.zero
 | n + 1,ks,hf=>by
  rw [chP_eq hd]
  have hB:=(hf.less (Nat.le_succ n)).bnd (Q:=RL) (fun x=>(Loc.chP hs hd hD n (ks ++ [x]) (hf.less (Nat.le_succ n))).less (Nat.sub_le _ _))
  refine (Loc.branch hs (Loc.ret (R:=RL) ks) hB (by omega)).sub ?_ (by omega)
  rintro _ ⟨f',hf',rfl⟩
  rw [chP_eq (hD f' hf')]
  refine ⟨_,_,⟨ks,rfl,rfl⟩,⟨f',fun x=>_,hf',fun x x' e=>⟨f',hf', ?_⟩,rfl⟩,rfl⟩
  rw [show x'=x from e]
theorem Loc.ch {en op:Int} {s:ByteArray} (hs:s ≠ bCls) {f:Pz Nd} {F:Pz Nd→Prop} (hd:Dec f) (hD:∀ f',F f'→Dec f') (n:Nat) (hf:Loc en n 1 RN f F):Loc en n 1 RN (chL op s f) (fun h=>∃ f',F f'∧h=chL op s f'):=by
 rw [chL_eq]
 have h2:=fun (x:Nd)=>((Loc.chP hs hd hD n [x] hf).less (Nat.sub_le n 1)).bnd (Q:=RN) (d:=0) (g:=fun ks r'=>.ok (jnT op ks) r') (G:=fun ks h=>∃ x',RN (jnT op ks) x'∧h=fun l=>.ok x' l) (fun ks=>Loc.ret _)
 refine (hf.bnd (Q:=RN) h2).sub ?_ (by omega)
 rintro _ ⟨f',hf',rfl⟩
 rw [chL_eq]
 refine ⟨f',fun x=>_,hf',fun x x' e=>⟨Go.Proofs.YtencibjmiphinaaGreatDoor.chP s f' [x'],fun ks r'=>_,⟨f',hf',by rw [show x'=x from e]⟩,fun ks ks' e2=>⟨_, ?_,rfl⟩,rfl⟩,rfl⟩
 show jnT op ks'=_;rw [show ks'=ks from e2]
theorem Loc.one {en:Int}:∀ (n:Nat),Loc en n 1 RN (oneP en) (fun h=>∃ en',h=oneP en')
 | 0=>Loc.zero
 | n + 1=>by
  have ih:=Loc.one (en:=en) n
  have hor:Loc en n 1 RN (orP en) (fun h=>∃ en',h=orP en'):=by
   refine (Loc.ch (op:=4) (s:=⟨#[124]⟩) (by decide) (chL_dec (oneP_dec en)) ?_ n ((Loc.ch (op:=3) (s:=⟨#[38]⟩) (by decide) (oneP_dec en) ?_ n ih).sub (F2:=fun h=>∃ en',h=andP en') ?_ (Nat.le_refl _))).sub ?_ (Nat.le_refl _)
   ·rintro _ ⟨en',rfl⟩;exact chL_dec (oneP_dec en')
   ·rintro _ ⟨en',rfl⟩;exact oneP_dec en'
   ·rintro _ ⟨en',rfl⟩;exact ⟨_,⟨en',rfl⟩,rfl⟩
   ·rintro _ ⟨en',rfl⟩;exact ⟨_,⟨en',rfl⟩,rfl⟩
  rw [oneP_eq]
  have hN:=ih.bnd (Q:=RN) (d:=0) (g:=fun x r'=>.ok (.mk 0 ⟨#[]⟩ [] [] 0 0 2 [x]) r') (G:=fun x h=>∃ x',RN (.mk 0 ⟨#[]⟩ [] [] 0 0 2 [x]) x'∧h=fun l=>.ok x' l) (fun x=>Loc.ret _)
  have hc:=fun (x:Nd)=>(Loc.sg (en:=en) (n:=n - 1) ⟨#[41]⟩).bnd (Q:=RN) (d:=0) (g:=fun _ r'=>.ok x r') (G:=fun _ h=>∃ x',RN x x'∧h=fun l=>.ok x' l) (fun _=>Loc.ret _)
  have hP:=hor.bnd (Q:=RN) hc
  refine (Loc.branch (s:=⟨#[33]⟩) (by decide) (Loc.branch (s:=⟨#[40]⟩) (by decide) (Loc.pr (n + 1)) hP (by omega)) hN (by omega)).sub ?_ (by omega)
  rintro _ ⟨en',rfl⟩
  rw [oneP_eq]
  refine ⟨_,_,⟨_,_,⟨en',rfl⟩,⟨orP en',fun x=>_,⟨en',rfl⟩,fun x x' e=>⟨sgL en' ⟨#[41]⟩,fun _ r'=>_,⟨en',rfl⟩,fun _ _ _=>⟨_,e,rfl⟩,rfl⟩,rfl⟩,rfl⟩,⟨oneP en',fun x r'=>_,⟨en',rfl⟩,fun x x' e=>⟨_, ?_,rfl⟩,rfl⟩,rfl⟩
  show Nd.mk _ _ _ _ _ _ _ _=_;rw [show x'=x from e]
end Go.Proofs.YtencibjmiphinaaGreatDoor

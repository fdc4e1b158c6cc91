/- Plain: what is read is small and made of ints; the lines ahead of the one that is wrong. -/
import Derived.Test.YtdgoibnndfibnaaGreatDoorBZaj
import Derived.Test.YtdgoibnndfibnaaGreatDoorBZam
namespace Go.Proofs.YtdgoibnndfibnaaGreatDoor
open Go.RowKit Go.Sort
/-- A script of ints, each of its ops at most K pairs and numbers long. -/
structure ScrK (K:Nat) (s:Scr):Prop where
  cfg:∀ n ∈ s.cfg.l,I64 n
  ops:∀ o ∈ s.ops,SopI o/\o.ev.length<=K/\o.nums.length<=K
theorem addS_K {K:Nat} {s s':Scr} {n:Nat} {line:Bs} (hl:line.length<=K) (hs:ScrK K s) (h:addS s n line=some s'):ScrK K s':=by
 unfold addS at h
 split at h
 ·split at h
  ·cases h
   exact ⟨rdCfg_I _,hs.ops⟩
  ·cases h
 ·split at h
  ·split at h
   ·cases h
    exact ⟨hs.cfg,hs.ops⟩
   ·cases h
  ·split at h
   ·cases h
    refine ⟨hs.cfg,fun o ho=>?_⟩
    rcases List.mem_append.1 ho with h1 | h1
    ·exact hs.ops o h1
    ·rw [List.mem_singleton] at h1
     subst h1
     have h2:=rdOp_len (nextW line).1 (nextW line).2
     have h3:=nextW_le line
     exact ⟨rdOp_I _ _,by omega,by omega⟩
   ·cases h
theorem read_K {K:Nat}:∀ (k n:Nat) (s s2:Scr) (t:Bs),t.length < k->t.length<=K->ScrK K s->readFrom n s t=(0,some s2)->ScrK K s2
 | 0,_,_,_,_,h,_,_,_=>by omega
 | k + 1,n,s,s2,t,hk,hK,hs,h=>by
  by_cases he:n ≠ 1/\t=[]
  ·obtain ⟨h1,rfl⟩:=he
   rw [readFrom_end h1] at h
   cases h
   exact hs
  ·cases hc:cut10 t with
   | none=>rw [readFrom_none he hc] at h;cases h
   | some x =>
    cases ha:addS s n x.1 with
    | none=>rw [readFrom_bad hc ha] at h;cases h
    | some s' =>
     rw [readFrom_step hc ha] at h
     obtain ⟨e,_⟩:=cut10_len hc
     have hl:t.length=x.1.length + (x.2.length + 1):=by rw [e];simp
     exact read_K k (n + 1) s' s2 x.2 (by omega) (by omega) (addS_K (by omega) hs ha) h
theorem readS_K {t:Bs} {s:Scr} (h:readS t=(0,some s)):ScrK t.length s :=
 read_K (t.length + 1) 1 scr0 s t (by omega) (Nat.le_refl _) ⟨by
  intro n hn
  simp only [scr0,Cfg.l,List.mem_cons,List.not_mem_nil,or_false] at hn
  rcases hn with rfl | rfl | rfl | rfl | rfl | rfl | rfl | rfl <;> exact I64_0,by simp [scr0]⟩ h
theorem ScrK.I {K:Nat} {s:Scr} (h:ScrK K s):ScrI s:=⟨h.cfg,fun o ho=>(h.ops o ho).1⟩
/-- What stands behind k line ends. -/
def afterL:Nat->Bs->Option Bs
  | 0,t=>some t
  | k + 1,t=>(cut10 t).bind fun x=>afterL k x.2
/-- The first line, its end with it where it has one. -/
def lineF (t:Bs):Bs:=(cut10 t).elim t fun x=>x.1 ++ [10]
theorem read_ahead:∀ (k n:Nat) (s:Scr) (t:Bs) (m:Nat),t.length < k->1<=n->readFrom n s t=(m,none) ->
  n<=m/\∃ rest pre,afterL (m - n) t=some rest/\t=pre ++ rest/\(m ≠ 1->∃ s',readFrom n s pre=(0,some s'))/\readFrom n s (pre ++ lineF rest)=(m,none)
 | 0,_,_,_,_,h,_,_=>by omega
 | k + 1,n,s,t,m,hk,hn,h=>by
  by_cases he:n ≠ 1/\t=[]
  ·obtain ⟨h1,rfl⟩:=he
   rw [readFrom_end h1] at h
   cases h
  ·cases hc:cut10 t with
   | none =>
    rw [readFrom_none he hc] at h
    obtain rfl:n=m:=congrArg Prod.fst h
    refine ⟨Nat.le_refl _,t,[],by rw [Nat.sub_self];rfl,rfl,fun h1=>⟨s,readFrom_end h1 s⟩, ?_⟩
    have e:lineF t=t:=by unfold lineF;rw [hc];rfl
    rw [e,List.nil_append,readFrom_none he hc]
   | some x =>
    cases ha:addS s n x.1 with
    | none =>
     rw [readFrom_bad hc ha] at h
     obtain rfl:n=m:=congrArg Prod.fst h
     refine ⟨Nat.le_refl _,t,[],by rw [Nat.sub_self];rfl,rfl,fun h1=>⟨s,readFrom_end h1 s⟩, ?_⟩
     have e:lineF t=x.1 ++ [10]:=by unfold lineF;rw [hc];rfl
     rw [e,List.nil_append]
     exact readFrom_bad (cut10_at (cut10_len hc).2) ha
    | some s' =>
     rw [readFrom_step hc ha] at h
     obtain ⟨e,hne⟩:=cut10_len hc
     have hl:t.length=x.1.length + (x.2.length + 1):=by rw [e];simp
     obtain ⟨h1,rest,pre,h2,h3,h4,h5⟩:=read_ahead k (n + 1) s' x.2 m (by omega) (by omega) h
     refine ⟨by omega,rest,x.1 ++ 10 :: pre, ?_, ?_,fun h6=>?_, ?_⟩
     ·rw [show m - n=(m - (n + 1)) + 1 by omega]
      unfold afterL
      rw [hc]
      exact h2
     ·conv=>lhs;rw [e,h3]
      simp
     ·obtain ⟨s2,h7⟩:=h4 (by omega)
      exact ⟨s2,by rw [readFrom_step (x:=(x.1,pre)) (cut10_at hne) ha];exact h7⟩
     ·rw [show x.1 ++ 10 :: pre ++ lineF rest=x.1 ++ 10 :: (pre ++ lineF rest) by simp]
      rw [readFrom_step (x:=(x.1,pre ++ lineF rest)) (cut10_at hne) ha]
      exact h5
theorem readS_ahead {t:Bs} {m:Nat} (h:readS t=(m,none)) :
  1<=m/\∃ rest pre,afterL (m - 1) t=some rest/\t=pre ++ rest/\(m ≠ 1->∃ s',readS pre=(0,some s'))/\readS (pre ++ lineF rest)=(m,none) :=
 read_ahead (t.length + 1) 1 scr0 t m (by omega) (Nat.le_refl _) h
end Go.Proofs.YtdgoibnndfibnaaGreatDoor
namespace Go.Proofs.YtdgoibnndfibnaaGreatDoor
open Go.RowKit Go.Sort
theorem go_cases:∀ (k n:Nat) (s:Scr) (t:Bs),t.length < k->(∃ s',readFrom n s t=(0,some s')) ∨ ∃ m,readFrom n s t=(m,none)
 | 0,_,_,_,h=>by omega
 | k + 1,n,s,t,hk=>by
  by_cases he:n ≠ 1/\t=[]
  ·obtain ⟨h1,rfl⟩:=he
   exact Or.inl ⟨s,readFrom_end h1 s⟩
  ·cases hc:cut10 t with
   | none=>exact Or.inr ⟨n,readFrom_none he hc⟩
   | some x =>
    cases ha:addS s n x.1 with
    | none=>exact Or.inr ⟨n,readFrom_bad hc ha⟩
    | some s' =>
     rw [readFrom_step hc ha]
     obtain ⟨e,_⟩:=cut10_len hc
     have hl:t.length=x.1.length + (x.2.length + 1):=by rw [e];simp
     exact go_cases k (n + 1) s' x.2 (by omega)
theorem readS_cases (t:Bs):(∃ s,readS t=(0,some s)) ∨ ∃ n,readS t=(n,none):=go_cases (t.length + 1) 1 scr0 t (by omega)
theorem lb_self (s:ByteArray):s=⟨(Lb s).toArray⟩:=str_eq rfl
theorem lb_len (s:ByteArray):(Lb s).length=s.size:=by unfold Lb;rw [Array.length_toList];rfl
end Go.Proofs.YtdgoibnndfibnaaGreatDoor

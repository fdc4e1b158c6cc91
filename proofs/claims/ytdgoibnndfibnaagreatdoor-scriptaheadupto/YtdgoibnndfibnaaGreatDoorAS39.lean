/- Plain: what is read is small and made of ints; the lines ahead of the one that is wrong. -/
import Derived.Test.YtdgoibnndfibnaaGreatDoorAZag
namespace Go.Proofs.YtdgoibnndfibnaaGreatDoor
open Go.RowKit Go.Sort
/-- A script of ints, each of its ops at most K pairs and numbers long. -/
structure ScrK (K:Nat) (s:Scr):Prop where
 cfg:∀ n ∈ s.cfg.l,I64 n
 ops:∀ o ∈ s.ops,SopI o/\o.ev.length<=K/\o.nums.length<=K
theorem ScrK.I {K:Nat} {s:Scr} (h:ScrK K s):ScrI s:=⟨h.cfg,fun o ho=>(h.ops o ho).1⟩
/-- What stands behind k line ends. -/
def afterL:Nat->Bs->Option Bs
 | 0,t=>some t
 | k + 1,t=>(cut10 t).bind fun x=>afterL k x.2
/-- The first line, its end with it where it has one. -/
def lineF (t:Bs):Bs:=(cut10 t).elim t fun x=>x.1 ++ [10]
theorem read_ahead:∀ (k n:Nat) (s:Scr) (t:Bs) (m:Nat),t.length < k->1<=n->readFrom n s t=(m,none) ->
  n<=m/\∃ rest pre,afterL (m - n) t=some rest/\t=pre ++ rest/\(m ≠ 1->∃ s',readFrom n s pre=(0,some s'))/\readFrom n s (pre ++ lineF rest)=(m,none)
 | 0,_,_,_,_,h,_,_=>by omega
 | k + 1,n,s,t,m,hk,hn,h=>by
  by_cases he:n ≠ 1/\t=[]
  ·obtain ⟨h1,rfl⟩:=he
   rw [readFrom_end h1] at h
   cases h
  ·cases hc:cut10 t with
   | none =>
    rw [readFrom_none he hc] at h
    obtain rfl:n=m:=congrArg Prod.fst h
    refine ⟨Nat.le_refl _,t,[],by rw [Nat.sub_self];rfl,rfl,fun h1=>⟨s,readFrom_end h1 s⟩, ?_⟩
    have e:lineF t=t:=by unfold lineF;rw [hc];rfl
    rw [e,List.nil_append,readFrom_none he hc]
   | some x =>
    cases ha:addS s n x.1 with
    | none =>
     rw [readFrom_bad hc ha] at h
     obtain rfl:n=m:=congrArg Prod.fst h
     refine ⟨Nat.le_refl _,t,[],by rw [Nat.sub_self];rfl,rfl,fun h1=>⟨s,readFrom_end h1 s⟩, ?_⟩
     have e:lineF t=x.1 ++ [10]:=by unfold lineF;rw [hc];rfl
     rw [e,List.nil_append]
     exact readFrom_bad (cut10_at (cut10_len hc).2) ha
    | some s' =>
     rw [readFrom_step hc ha] at h
     obtain ⟨e,hne⟩:=cut10_len hc
     have hl:t.length=x.1.length + (x.2.length + 1):=by rw [e];simp
     obtain ⟨h1,rest,pre,h2,h3,h4,h5⟩:=read_ahead k (n + 1) s' x.2 m (by omega) (by omega) h
     refine ⟨by omega,rest,x.1 ++ 10 :: pre, ?_, ?_,fun h6=>?_, ?_⟩
     ·rw [show m - n=(m - (n + 1)) + 1 by omega]
      unfold afterL
      rw [hc]
      exact h2
     ·conv=>lhs;rw [e,h3]
      simp
     ·obtain ⟨s2,h7⟩:=h4 (by omega)
      exact ⟨s2,by rw [readFrom_step (x:=(x.1,pre)) (cut10_at hne) ha];exact h7⟩
     ·rw [show x.1 ++ 10 :: pre ++ lineF rest=x.1 ++ 10 :: (pre ++ lineF rest) by simp]
      rw [readFrom_step (x:=(x.1,pre ++ lineF rest)) (cut10_at hne) ha]
      exact h5
theorem readS_ahead {t:Bs} {m:Nat} (h:readS t=(m,none)) :
  1<=m/\∃ rest pre,afterL (m - 1) t=some rest/\t=pre ++ rest/\(m ≠ 1->∃ s',readS pre=(0,some s'))/\readS (pre ++ lineF rest)=(m,none) :=
 read_ahead (t.length + 1) 1 scr0 t m (by omega) (Nat.le_refl _) h
/-- A byte that is no line end is passed. -/
theorem afterL_pass {k:Nat} {c:UInt8} {r rest:Bs} (hc:c ≠ 10) (h:afterL (k + 1) (c :: r)=some rest):afterL (k + 1) r=some rest:=by
 unfold afterL at h ⊢
 rw [cut10,if_neg hc] at h
 cases hx:cut10 r with
 | none=>rw [hx] at h;cases h
 | some x=>rw [hx] at h;exact h
theorem afterL_end {k:Nat} {r rest:Bs} (h:afterL (k + 1) (10 :: r)=some rest):afterL k r=some rest:=by
 unfold afterL at h
 rw [cut10,if_pos rfl] at h
 exact h
theorem afterL_nil {k:Nat} {rest:Bs} (h:afterL (k + 1) []=some rest):False:=by
 unfold afterL at h
 cases h
theorem lineF_pass {c:UInt8} {r:Bs} (hc:c ≠ 10):lineF (c :: r)=c :: lineF r:=by
 unfold lineF
 rw [cut10,if_neg hc]
 cases cut10 r <;> rfl
theorem lineF_end (r:Bs):lineF (10 :: r)=[10]:=by
 unfold lineF
 rw [cut10,if_pos rfl]
 rfl
end Go.Proofs.YtdgoibnndfibnaaGreatDoor

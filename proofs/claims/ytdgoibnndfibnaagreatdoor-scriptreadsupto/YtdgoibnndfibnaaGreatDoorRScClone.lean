/- What slices.Clone returns of attributes and of pairs, for every list: new memory that holds the same. -/
import Derived.Test.YtdgoibnndfibnaaGreatDoorRZas
namespace Go.Proofs.YtdgoibnndfibnaaGreatDoor.Sc
open Go.RowKit Go.Sort Go.Shelf
theorem info_parts {P:Program} {t:TypeId} {z:Value} {k b:Nat} (h:(P.info? t).map (fun i=>(i.zero,i.size,i.bytes))=some (some z,k,b)):∃ i0,P.info? t=some i0/\i0.zero=some z/\i0.size=k/\i0.bytes=b:=by
 cases hi:P.info? t with
 | none=>rw [hi] at h;cases h
 | some i =>
  rw [hi] at h
  simp only [Option.map_some,Option.some.injEq,Prod.mk.injEq] at h
  exact ⟨i,rfl,h.1,h.2.1,h.2.2⟩
theorem frozen_free {w:World} {g o:Nat} {cur:Array Value} {e:TypeId} (h:w.heap[g]? = some (.cells cur e (0,0))):w.frozen? ⟨g,o,none⟩=false:=by
 unfold World.frozen?;simp [h]
/-- A row that is the call's own, as the sort's kit says it. -/
theorem holds_own {α:Type} [Inhabited α] {enc:α->List Value} {k:Nat} {w:World} {B:Nat} {e:TypeId} {v:Value} {d:Array α} (hv:v ≠ .slice none 0 0) (h:w.ownsRow B e k v d.size (flatK enc k d).toList) :
    ∃ g cap,v=.slice (some ⟨g,0,none⟩) d.size cap/\B<=g/\g < w.heap.size/\HoldsK enc k w g 0 d/\d.size<=cap/\cap<=maxLen:=by
  rcases h.2 with ⟨h0,_⟩ | ⟨g,cap,cur,rfl,hB,hblk,hc,hm,_,_⟩
  · exact absurd h0 hv
  · refine ⟨g,cap,rfl,hB,(Array.getElem?_eq_some_iff.1 hblk).1,fun t ht=>⟨?_,frozen_free hblk⟩,hc,hm⟩
    rw [Nat.zero_add,h.cellAt t (by simpa using ht)]
    have ht':t < (flatK enc k d).size:=ht
    rw [Array.getElem?_toList,Array.getElem?_eq_getElem ht',getElem!_pos _ t ht']
    rfl
theorem get_bang {α:Type} [Inhabited α] {l:List α} {j:Nat} {x:α} (h:l[j]? = some x):l.toArray[j]! = x:=by
 have hj:j < l.length:=(List.getElem?_eq_some_iff.1 h).1
 rw [getElem!_pos _ j (by simpa using hj)]
 simpa [List.getElem?_eq_getElem hj] using h
theorem bang_get {α:Type} [Inhabited α] {l:List α} {j:Nat} (h:j < l.length):l[j]? = some l.toArray[j]!:=by
 rw [getElem!_pos _ j (by simpa using h)]
 simp [List.getElem?_eq_getElem h]
/-- New memory of the list l: q, behind B. -/
def NewA (B:Nat) (w:World) (q:Option Addr) (cap:Nat) (l:List (ByteArray × Int)):Prop :=
  (q=none/\l=[]/\cap=0) ∨ ∃ g,q=some ⟨g,0,none⟩/\B<=g/\g < w.heap.size/\HoldsK encA 2 w g 0 l.toArray/\l.length<=cap/\cap<=maxLen
theorem AtsAt.of_holds {w:World} {g off:Nat} {l:List (ByteArray × Int)} (h:HoldsK encA 2 w g off l.toArray):AtsAt w g off l:=fun j x hj=>by
 have hl:j < l.length:=(List.getElem?_eq_some_iff.1 hj).1
 have e:=get_bang hj
 have hc:=fun c (hc:c < 2)=>(h.cell (i:=j) (c:=c) (by simpa using hl) hc).1
 rw [e] at hc
 exact ⟨hc 0 (by omega),hc 1 (by omega)⟩
theorem AtsAt.flat {w:World} {b off:Nat} {l:List (ByteArray × Int)} (h:AtsAt w b off l):∀ (j:Nat) (u:Value),(flatK encA 2 l.toArray).toList[j]? = some u->w.cell? ⟨b,off + j,none⟩=some u:=by
 intro j u hj
 rw [Array.getElem?_toList] at hj
 obtain ⟨hs,hu⟩:=Array.getElem?_eq_some_iff.1 hj
 have hlt:j < l.toArray.size * 2:=by simpa using hs
 have hg:=get_flatK encA 2 l.toArray j hlt
 rw [getElem!_pos _ j hs,hu] at hg
 have hq:j / 2 < l.length:=by simp at hlt;omega
 have hx:=h (j / 2) _ (bang_get hq)
 rw [hg]
 have hj2:j=j / 2 * 2 + j % 2:=by omega
 have hm:j % 2=0 ∨ j % 2=1:=by omega
 rcases hm with e | e
 ·rw [e];rw [e] at hj2
  have:off + j=off + j / 2 * 2:=by omega
  rw [this];exact hx.1
 ·rw [e];rw [e] at hj2
  have:off + j=off + j / 2 * 2 + 1:=by omega
  rw [this];exact hx.2
theorem NewA.of {B:Nat} {w:World} {q:Option Addr} {cap:Nat} {l:List (ByteArray × Int)} (h:NewA B w q cap l):AtsOf w q l:=fun h0=>by
 rcases h with ⟨_,rfl,_⟩ | ⟨g,rfl,_,hg,hH,_,_⟩
 ·simp at h0
 ·exact ⟨g,0,rfl,hg,AtsAt.of_holds hH⟩
theorem NewA.below {B:Nat} {w w':World} {q:Option Addr} {cap:Nat} {l:List (ByteArray × Int)} (h:NewA B w q cap l) (hb:Below w.heap.size w w'):NewA B w' q cap l:=by
 rcases h with h | ⟨g,rfl,hB,hg,hH,hc⟩
 ·exact Or.inl h
 ·exact Or.inr ⟨g,rfl,hB,Nat.lt_of_lt_of_le hg hb.size,fun t ht=>⟨(hb.cell (by exact hg)).trans (hH t ht).1,(hb.frozen (by exact hg)).trans (hH t ht).2⟩,hc⟩
theorem NewA.mono {B B':Nat} {w:World} {q:Option Addr} {cap:Nat} {l:List (ByteArray × Int)} (h:NewA B w q cap l) (hb:B'<=B):NewA B' w q cap l:=by
 rcases h with h | ⟨g,rfl,hB,hr⟩
 ·exact Or.inl h
 ·exact Or.inr ⟨g,rfl,Nat.le_trans hb hB,hr⟩
theorem Tryz.info62:(Tryz.prog.info? 62).map (fun i=>(i.zero,i.size,i.bytes))=some (some (.agg #[.string ⟨#[]⟩,.int .i64 0]),2,24):=by kernel_rfl
theorem cloneA_some (b off cap:Nat) (l:List (ByteArray × Int)) (w:World) (hl:l.length * 24<=140737488355328) (hA:AtsAt w b off l) :
  Calls Tryz.prog 80 #[.slice (some ⟨b,off,none⟩) l.length cap] w fun e w'=>∃ q cap',e=.returned (.slice q l.length cap')/\NewA w.heap.size w' q cap' l/\q ≠ none/\Below w.heap.size w w':=by
 obtain ⟨i0,hi,hz0,hz1,hz2⟩:=info_parts Tryz.info62
 have hc:=AnyE.slices_Clone Tryz.cloneA i0 (.agg #[.string ⟨#[]⟩,.int .i64 0]) 2 24 hi hz0 hz1 hz2 rfl (by decide) Tryz.sizeOf62 b off l.length cap (flatK encA 2 l.toArray).toList w (by simp) (by unfold maxLen;omega) hl hA.flat (fun u hu=>by
  rw [Array.mem_toList_iff] at hu
  obtain ⟨j,hj,rfl⟩:=Array.mem_iff_getElem.1 hu
  have hg:=get_flatK encA 2 l.toArray j (by simpa using hj)
  rw [getElem!_pos _ j hj] at hg
  rw [hg]
  have hm:j % 2=0 ∨ j % 2=1:=by omega
  rcases hm with e | e <;> rw [e] <;> rfl)
 change Calls Tryz.prog 80 _ _ _ at hc
 refine hc.mono fun e w' ⟨v',he,hown,hv,hb⟩=>?_
 obtain ⟨g,cap',rfl,hB,hg,hH,hcc⟩:=holds_own (d:=l.toArray) (enc:=encA) hv (by simpa using hown)
 exact ⟨_,cap',by rw [he];simp,Or.inr ⟨g,rfl,hB,hg,hH,by simpa using hcc⟩,by simp,hb⟩
theorem cloneA_nil (w:World):Calls Tryz.prog 80 #[.slice none 0 0] w fun e w'=>e=.returned (.slice none 0 0)/\w'=w:=by
 have hc:=AnyE.slices_Clone_nil Tryz.cloneA 0 0 w
 change Calls Tryz.prog 80 _ _ _ at hc
 exact hc
set_option maxHeartbeats 1000000 in
theorem cloneA_empty (a:Addr) (cap:Nat) (w:World) :
  Calls Tryz.prog 80 #[.slice (some a) 0 cap] w fun e w'=>∃ q cap',e=.returned (.slice q 0 cap')/\NewA w.heap.size w' q cap' []/\q ≠ none/\Below w.heap.size w w':=by
 obtain ⟨i0,hi,hz0,hz1,hz2⟩:=info_parts Tryz.info62
 have q22:∀ (w:World) (a:Option Addr) (n c n' c':Nat),(binOp .eql 26 (.slice a n c) (.slice none n' c')).run Tryz.prog w=.ok (.bool a.isNone) w:=fun w a n c n' c'=>Lib.run_eql_slice_nil w _ _ a n c n' c' Tryz.underlying26
 go_enter Tryz.func80,Tryz.ntmps80
 go_wp2_with (at_builtin;refine wpList_append_own _ rfl _ _ 26 rfl w.heap.size 62 i0 (.agg #[.string ⟨#[]⟩,.int .i64 0]) 2 24 Tryz.underlying26 hi hz0 hz1 hz2 rfl (by decide) _ _ _ rfl (World.ownsRow_made w #[] 0 (Nat.le_refl _) (Nat.zero_le _) (by simp)) a 0 cap [] rfl rfl (fun j u h=>by simp at h) (fun u h=>by simp at h) (by unfold maxLen;omega) (by omega) (by simp) ?_)
 intro v' w1 hown hgrow hnil
 go_wp2
 go_ret
 have hown2:w1.ownsRow w.heap.size 62 2 v' (#[]:Array (ByteArray × Int)).size (flatK encA 2 #[]).toList:=by simpa [flatK] using hown
 obtain ⟨g,cap',rfl,hB,hg,hH,hcc⟩:=holds_own (d:=#[]) (enc:=encA) hnil hown2
 exact ⟨_,cap',rfl,Or.inr ⟨g,rfl,hB,hg,hH,by simpa using hcc⟩,by simp,((Below.refl _ w).alloc (Nat.le_refl _) _).grown hgrow (by simp) (by intro k hk;simp [Value.ownBlock] at hk;omega)⟩
/-- Clone, at every list. -/
theorem cloneA_any (p:Option Addr) (cap:Nat) (l:List (ByteArray × Int)) (w:World) (hl:l.length * 24<=140737488355328) (hp:p=none->l.length=0/\cap=0) (hA:AtsOf w p l) :
    Calls Tryz.prog 80 #[.slice p l.length cap] w fun e w'=>∃ q cap',e=.returned (.slice q l.length cap')/\NewA w.heap.size w' q cap' l/\(q=none ↔ p=none)/\Below w.heap.size w w':=by
  cases p with
  | none =>
    obtain ⟨h0,rfl⟩:=hp rfl
    obtain rfl:l=[]:=List.length_eq_zero_iff.1 h0
    refine (cloneA_nil w).mono fun e w' ⟨he,hw⟩=>?_
    subst hw
    exact ⟨none,0,he,Or.inl ⟨rfl,rfl,rfl⟩,by simp,Below.refl _ _⟩
  | some a =>
    by_cases h0:l.length=0
    · obtain rfl:l=[]:=List.length_eq_zero_iff.1 h0
      exact (cloneA_empty a cap w).mono fun e w' ⟨q,cap',he,hN,hq,hb⟩=>⟨q,cap',he,hN,by simp [hq],hb⟩
    · obtain ⟨b,off,hpe,_,hAt⟩:=hA (by omega)
      obtain rfl:a=⟨b,off,none⟩:=by simpa using hpe
      exact (cloneA_some b off cap l w hl hAt).mono fun e w' ⟨q,cap',he,hN,hq,hb⟩=>⟨q,cap',he,hN,by simp [hq],hb⟩
/-- New memory of the list l: q, behind B. -/
def NewP (B:Nat) (w:World) (q:Option Addr) (cap:Nat) (l:List (ByteArray × Int × Int × ByteArray)):Prop :=
  (q=none/\l=[]/\cap=0) ∨ ∃ g,q=some ⟨g,0,none⟩/\B<=g/\g < w.heap.size/\HoldsK encP 4 w g 0 l.toArray/\l.length<=cap/\cap<=maxLen
theorem PrsAt.of_holds {w:World} {g off:Nat} {l:List (ByteArray × Int × Int × ByteArray)} (h:HoldsK encP 4 w g off l.toArray):PrsAt w g off l:=fun j x hj=>by
 have hl:j < l.length:=(List.getElem?_eq_some_iff.1 hj).1
 have e:=get_bang hj
 have hc:=fun c (hc:c < 4)=>(h.cell (i:=j) (c:=c) (by simpa using hl) hc).1
 rw [e] at hc
 exact ⟨hc 0 (by omega),hc 1 (by omega),hc 2 (by omega),hc 3 (by omega)⟩
theorem PrsAt.flat {w:World} {b off:Nat} {l:List (ByteArray × Int × Int × ByteArray)} (h:PrsAt w b off l):∀ (j:Nat) (u:Value),(flatK encP 4 l.toArray).toList[j]? = some u->w.cell? ⟨b,off + j,none⟩=some u:=by
 intro j u hj
 rw [Array.getElem?_toList] at hj
 obtain ⟨hs,hu⟩:=Array.getElem?_eq_some_iff.1 hj
 have hlt:j < l.toArray.size * 4:=by simpa using hs
 have hg:=get_flatK encP 4 l.toArray j hlt
 rw [getElem!_pos _ j hs,hu] at hg
 have hq:j / 4 < l.length:=by simp at hlt;omega
 have hx:=h (j / 4) _ (bang_get hq)
 rw [hg]
 have hj2:j=j / 4 * 4 + j % 4:=by omega
 have hm:j % 4=0 ∨ j % 4=1 ∨ j % 4=2 ∨ j % 4=3:=by omega
 rcases hm with e | e | e | e
 ·rw [e];rw [e] at hj2
  have:off + j=off + j / 4 * 4:=by omega
  rw [this];exact hx.1
 ·rw [e];rw [e] at hj2
  have:off + j=off + j / 4 * 4 + 1:=by omega
  rw [this];exact hx.2.1
 ·rw [e];rw [e] at hj2
  have:off + j=off + j / 4 * 4 + 2:=by omega
  rw [this];exact hx.2.2.1
 ·rw [e];rw [e] at hj2
  have:off + j=off + j / 4 * 4 + 3:=by omega
  rw [this];exact hx.2.2.2
theorem NewP.of {B:Nat} {w:World} {q:Option Addr} {cap:Nat} {l:List (ByteArray × Int × Int × ByteArray)} (h:NewP B w q cap l):PrsOf w q l:=fun h0=>by
 rcases h with ⟨_,rfl,_⟩ | ⟨g,rfl,_,hg,hH,_,_⟩
 ·simp at h0
 ·exact ⟨g,0,rfl,hg,PrsAt.of_holds hH⟩
theorem NewP.below {B:Nat} {w w':World} {q:Option Addr} {cap:Nat} {l:List (ByteArray × Int × Int × ByteArray)} (h:NewP B w q cap l) (hb:Below w.heap.size w w'):NewP B w' q cap l:=by
 rcases h with h | ⟨g,rfl,hB,hg,hH,hc⟩
 ·exact Or.inl h
 ·exact Or.inr ⟨g,rfl,hB,Nat.lt_of_lt_of_le hg hb.size,fun t ht=>⟨(hb.cell (by exact hg)).trans (hH t ht).1,(hb.frozen (by exact hg)).trans (hH t ht).2⟩,hc⟩
theorem NewP.mono {B B':Nat} {w:World} {q:Option Addr} {cap:Nat} {l:List (ByteArray × Int × Int × ByteArray)} (h:NewP B w q cap l) (hb:B'<=B):NewP B' w q cap l:=by
 rcases h with h | ⟨g,rfl,hB,hr⟩
 ·exact Or.inl h
 ·exact Or.inr ⟨g,rfl,Nat.le_trans hb hB,hr⟩
end Go.Proofs.YtdgoibnndfibnaaGreatDoor.Sc

/- What the program's Tokens returns, for every text. -/
import Derived.Test.YtencibjmiphinaaGreatDoorELxLexAt
import Derived.Test.YtencibjmiphinaaGreatDoorEZac
import Derived.Test.YtencibjmiphinaaGreatDoorEPaWh
namespace Go.Proofs.YtencibjmiphinaaGreatDoor.Lx
open Go.RowKit

theorem toksL_skip (l:List UInt8) (i:Nat):toksL l i=toksL (l.drop (rl isBlank l)) (i + rl isBlank l):=by
 have h0:=rl_drop (p:=isBlank) l
 have hl:=rl_le isBlank l
 by_cases h:l.length≤rl isBlank l
 ·rw [toksL_end h,toksL_end (by rw [h0];simp;omega)]
 ·have h':¬ (l.drop (rl isBlank l)).length≤rl isBlank (l.drop (rl isBlank l)):=by rw [h0];simp;omega
  cases ht:tokL (l.drop (rl isBlank l)) with
  | none =>
   rw [toksL_bad h ht,toksL_bad h' (by rw [h0];simpa using ht),h0];rfl
  | some q =>
   obtain ⟨k,n,v,t⟩:=q
   rw [toksL_step h ht,toksL_step h' (by rw [h0];simpa using ht),h0]
   simp
theorem toksL_stop {s:ByteArray} {k:Nat} (hk:k < s.size) (h0:rl isBlank (s.data.toList.drop k)=0) (ht:tokL (s.data.toList.drop k)=none):toksL (s.data.toList.drop k) k=([],some k):=by
 have:=toksL_bad (i:=k) (l:=s.data.toList.drop k) (by rw [h0];simp;omega) (by rw [h0];simpa using ht)
 rw [this,h0];rfl
theorem toksL_fin {s:ByteArray} {k:Nat} (hk:¬ k < s.size):toksL (s.data.toList.drop k) k=([],none):=by
 rw [drop_end s k hk];exact toksL_end (by simp)
theorem toksL_next {s:ByteArray} {k:Nat} {kd:Int} {n:Nat} {v:Int} {t:ByteArray} (hk:k < s.size) (h0:rl isBlank (s.data.toList.drop k)=0) (ht:tokL (s.data.toList.drop k)=some (kd,n,v,t)) :
  toksL (s.data.toList.drop k) k=((kd,(k:Int),((k + n:Nat):Int),v,t) :: (toksL (s.data.toList.drop (k + n)) (k + n)).1,(toksL (s.data.toList.drop (k + n)) (k + n)).2):=by
 have:=toksL_step (i:=k) (l:=s.data.toList.drop k) (by rw [h0];simp;omega) (by rw [h0];simpa using ht)
 rw [this,h0]
 simp
/-- Up to the place k the tokens l1 have been found. -/
def Seen (s:ByteArray) (l1:List Tok) (k:Nat):Prop :=
 k≤s.size∧l1.length≤k∧rl isBlank (s.data.toList.drop k)=0∧toksL s.data.toList 0=(l1 ++ (toksL (s.data.toList.drop k) k).1,(toksL (s.data.toList.drop k) k).2)
theorem Seen.first (s:ByteArray):Seen s [] (rl isBlank s.data.toList):=by
 refine ⟨by simpa using rl_le isBlank s.data.toList,by simp,rl_drop _, ?_⟩
 have:=toksL_skip s.data.toList 0
 rw [Nat.zero_add] at this
 rw [this];simp
theorem Seen.next {s:ByteArray} {l1:List Tok} {k:Nat} (h:Seen s l1 k) (hk:k < s.size) {kd:Int} {n:Nat} {v:Int} {t:ByteArray} (ht:tokL (s.data.toList.drop k)=some (kd,n,v,t)) :
  Seen s (l1 ++ [(kd,(k:Int),((k + n:Nat):Int),v,t)]) (k + n + rl isBlank (s.data.toList.drop (k + n))):=by
 obtain ⟨h1,h2,h3,h4⟩:=h
 have hn:=tokL_len ht
 simp only [List.length_drop,Array.length_toList] at hn
 have hsz:s.data.size=s.size:=rfl
 have hr:=rl_le isBlank (s.data.toList.drop (k + n))
 simp only [List.length_drop,Array.length_toList] at hr
 have e:s.data.toList.drop (k + n + rl isBlank (s.data.toList.drop (k + n)))=(s.data.toList.drop (k + n)).drop (rl isBlank (s.data.toList.drop (k + n))):=by rw [List.drop_drop]
 refine ⟨by omega,by simp;omega,by rw [e];exact rl_drop _, ?_⟩
 rw [h4,toksL_next hk h3 ht,toksL_skip (s.data.toList.drop (k + n)) (k + n),e]
 simp
theorem Seen.bad {s:ByteArray} {l1:List Tok} {k:Nat} (h:Seen s l1 k) (hk:k < s.size) (ht:tokL (s.data.toList.drop k)=none):toksL s.data.toList 0=(l1,some k):=by
 rw [h.2.2.2,toksL_stop hk h.2.2.1 ht];simp
theorem Seen.done {s:ByteArray} {l1:List Tok} {k:Nat} (h:Seen s l1 k) (hk:¬ k < s.size):toksL s.data.toList 0=(l1,none):=by
 rw [h.2.2.2,toksL_fin hk];simp

/-- What Tokens answers. -/
def ToksPost (B:Nat) (w':World) (r:List Tok × Option Nat) (e:Ending):Prop :=
 (∃ p,r.2=some p∧e=.returned (.tuple #[.slice none 0 0,.int .i64 p,.int .i64 10])) ∨ (r.2=none∧∃ q cap,e=.returned (.tuple #[.slice q r.1.length cap,.int .i64 0,.int .i64 0])∧OwnK encT 56 5 B w' q cap r.1)

set_option maxHeartbeats 400000 in
theorem tokens_long (s:ByteArray) (w:World) (hs:4096 < s.size) :
  Calls Tryz.prog 23 #[.string s] w fun e w'=>e=.returned (.tuple #[.slice none 0 0,.int .i64 4096,.int .i64 10])∧w'=w:=by
 have a0:(4096:Int) < (s.size:Int):=by omega
 go_enter Tryz.func23,Tryz.ntmps23
 go_wp2
 refine bodyPost_ret (v:=.tuple #[.slice none 0 0,.int .i64 4096,.int .i64 10]) (by simp [results,Tryz.results23,go_sem]) rfl ⟨rfl,rfl⟩

theorem own_far {B:Nat} {w w1:World} {q:Option Addr} {cap:Nat} {l:List Tok} (h:OwnK encT 56 5 B w q cap l) (hb:Below w.heap.size w w1):some w1.heap.size ≠ (Value.slice q l.length cap).ownBlock:=by
 intro e
 have:=(World.ownsRow.lt h _ e.symm).2
 have:=hb.size
 omega
set_option maxHeartbeats 2000000 in
theorem tokens_any (s:ByteArray) (w:World) (hG:G w) (hs:s.size≤4096) :
  Calls Tryz.prog 23 #[.string s] w fun e w'=>ToksPost w.heap.size w' (toksL s.data.toList 0) e∧Below w.heap.size w w':=by
 have a0:(s.size:Int)≤4096:=by omega
 obtain ⟨j0,HJ0⟩:∃ j0,rl isBlank s.data.toList=j0:=⟨_,rfl⟩
 have hr0:=fun w=>runBlank_any s 0 w (by omega) (by omega) j0 (by simpa using HJ0)
 have HS:=hide (show Seen s [] j0 by rw [← HJ0];exact Seen.first s)
 clear HJ0
 go_enter Tryz.func23,Tryz.ntmps23
 go_wp2_with (go_at_call 47;refine (hr0 _).mono ?_;rintro e w' ⟨rfl,hw⟩;obtain rfl:=hw.symm;clear hw)
 clear hr0
 go_loopw [5,6] (fun v a wr=>∃ (l1:List Tok) (q:Option Addr) (cap k:Nat),v=.slice q l1.length cap∧a=.int .i64 k∧Seen s l1 k∧Below w.heap.size w wr∧OwnK encT 56 5 w.heap.size wr q cap l1) (fun _ a _=>s.size - (intOf a).toNat)
 case atStart=>exact ⟨[],none,0,j0,rfl,rfl,uh HS,Below.refl _ _,OwnK.nil _ _⟩
 case round =>
  clear HS
  obtain ⟨l1,q,cap,k,rfl,rfl,hseen,hbel,hown⟩:=hrel
  have hks:=hseen.1
  have hlk:=hseen.2.1
  have HS:=hide hseen
  have HB:=hide hbel
  have HO:=hide hown
  clear hseen hbel hown
  by_cases hlt:k < s.size
  ·have b0:(0:Int)≤(k:Int):=by omega
   have b1:(k:Int) < (s.size:Int):=by omega
   have hta:=tokAt_any s k wr (G_below hG (uh HB)) hlt (by omega)
   cases ht:tokL (s.data.toList.drop k) with
   | none =>
    have Hbad:=hide ((uh HS).bad hlt ht)
    rw [ht] at hta
    simp only [tokV] at hta
    clear ht
    go_wp2_with (go_at_call 49;refine hta.mono ?_;rintro e w1 ⟨rfl,hb⟩;have Hb:=hide hb;clear hb)
    refine bodyPost_ret (v:=.tuple #[.slice none 0 0,.int .i64 k,.int .i64 10]) (by simp [results,Tryz.results23,go_sem]) rfl ?_
    refine ⟨Or.inl ⟨k,by rw [uh Hbad],rfl⟩, ?_⟩
    exact (below_sub (uh HB) (uh Hb)).alloc (below_sub (uh HB) (uh Hb)).size _
   | some x =>
    obtain ⟨kd,n,v,t⟩:=x
    have hn:=tokL_len ht
    simp only [List.length_drop,Array.length_toList] at hn
    have hsz:s.data.size=s.size:=rfl
    have Hnext:=hide ((uh HS).next hlt ht)
    rw [ht] at hta
    simp only [tokV] at hta
    clear ht
    obtain ⟨m,Hm⟩:∃ m,k + n=m:=⟨_,rfl⟩
    rw [Hm] at hta Hnext
    obtain ⟨j,HJ⟩:∃ j,m + rl isBlank (s.data.toList.drop m)=j:=⟨_,rfl⟩
    have hr:=fun w=>runBlank_any s m w (by omega) (by omega) j HJ
    rw [HJ] at Hnext
    have HKJ:=hide (show k < j by omega)
    clear HJ
    have HM:=hide Hm
    clear Hm
    go_wp2_with (first
     | (go_at_call 47;refine (hr _).mono ?_;rintro e w' ⟨rfl,rfl⟩)
     | (go_at_call 49;refine hta.mono ?_;rintro e w1 ⟨rfl,hb⟩;have Hb:=hide hb;clear hb)
     | (at_builtin;refine wpList_app rowT rfl _ _ rfl w.heap.size q cap l1 (some ⟨w1.heap.size + 1,0,none⟩) 1 [(kd,(k:Int),(m:Int),v,t)] l1.length 1 (l1.length + 1) rfl rfl rfl rfl rfl ((uh HO).below (((uh Hb).alloc (uh Hb).size _).alloc (by have:=(uh Hb).size;simp;omega) _)) (SrcK.ofT (fun h=>by cases h) (TksOf.one (by simp) (by go_simp) (by go_simp) (by go_simp) (by go_simp) (by go_simp))) (by unfold maxLen;omega) (by omega) (by have h1:=(uh HB).size;have h2:=(uh Hb).size;simp;omega) ?_;intro q2 cap2 w2 hown2 hb2 _ hg2;have ct:w2.cell? ⟨w1.heap.size,2,none⟩=some (.int .i64 m):=(hg2.cell (a:=⟨w1.heap.size,2,none⟩) (by go_simp) (own_far (uh HO) (uh Hb)));have HO2:=hide hown2;have HB2:=hide ((((below_sub (uh HB) (uh Hb)).alloc (below_sub (uh HB) (uh Hb)).size _).alloc (by have:=(below_sub (uh HB) (uh Hb)).size;simp;omega) _).trans hb2);clear hown2 hb2 hg2))
    exact ⟨⟨l1 ++ [(kd,(k:Int),(m:Int),v,t)],q2,cap2,j,by simp,rfl,uh Hnext,uh HB2,uh HO2⟩,by have:=uh HKJ;simp [intOf];omega⟩
  ·have b1:¬ (k:Int) < (s.size:Int):=by omega
   have Hdone:=hide ((uh HS).done hlt)
   go_wp2
   refine bodyPost_ret (v:=.tuple #[.slice q l1.length cap,.int .i64 0,.int .i64 0]) (by simp [results,Tryz.results23,go_sem]) rfl ?_
   refine ⟨Or.inr ⟨by rw [uh Hdone],q,cap,by rw [uh Hdone],by rw [uh Hdone];exact uh HO⟩,uh HB⟩
end Go.Proofs.YtencibjmiphinaaGreatDoor.Lx
namespace Go.Proofs.YtencibjmiphinaaGreatDoor
open Go.RowKit

/-- What a token may hold. -/
def TkFit (x:Int × Int × ByteArray):Prop:=(x.1=1∧Lx.nameOk x.2.2=true) ∨ (x.1=2∧-2147483648≤x.2.1∧x.2.1≤2147483647) ∨ (x.1=3∧x.2.2.size≤64) ∨ (x.1=4∧x.2.2.size=1)
theorem tokL_fit {l:List UInt8} {k:Int} {n:Nat} {v:Int} {t:ByteArray} (h:Lx.tokL l=some (k,n,v,t)):TkFit (k,v,t)∧t.size≤max l.length 64:=by
 cases l with
 | nil=>simp [Lx.tokL] at h
 | cons c r =>
  change Lx.tokC c r=_ at h
  unfold Lx.tokC at h
  split at h
  ·split at h
   ·rename_i hn
    cases h
    refine ⟨Or.inl ⟨rfl,hn⟩, ?_⟩
    have:(⟨((c :: r).take (Lx.rl Lx.okB (c :: r))).toArray⟩:ByteArray).size=((c :: r).take (Lx.rl Lx.okB (c :: r))).length:=rfl
    rw [this,List.length_take];omega
   ·cases h
  ·have hv:∀ (m:List UInt8) (j:Nat),(Lx.pv m).map (fun q=>((if q.1=2 then (3:Int) else 2),j,q.2.1,q.2.2))=some (k,n,v,t)→TkFit (k,v,t)∧t.size≤64:=fun m j hm=>by
    obtain ⟨q,h1,hq⟩:=Option.map_eq_some_iff.1 hm
    rcases Lx.isVal_cases (Lx.pv_of h1) with ⟨z,rfl,a1,a2,_⟩ | ⟨z,rfl,a1,_⟩
    ·cases hq;exact ⟨Or.inr (Or.inl ⟨rfl,a1,a2⟩),by show (0:Nat)≤64;omega⟩
    ·cases hq;exact ⟨Or.inr (Or.inr (Or.inl ⟨rfl,a1⟩)),a1⟩
   split at h
   ·have:=hv _ _ h;exact ⟨this.1,by have:=this.2;omega⟩
   ·split at h
    ·split at h
     ·have:=hv _ _ h;exact ⟨this.1,by have:=this.2;omega⟩
     ·cases h
    ·split at h
     ·cases h;exact ⟨Or.inr (Or.inr (Or.inr ⟨rfl,rfl⟩)),by show 1≤_;simp;omega⟩
     ·cases h
theorem toksL_fit:∀ (m:Nat) (l:List UInt8) (i:Nat),l.length≤m→m≤4096→(Lx.toksL l i).1.length≤l.length∧∀ t ∈ (Lx.toksL l i).1,TkFit (t.1,t.2.2.2.1,t.2.2.2.2)∧t.2.2.2.2.size≤4096
 | m,l,i,hl,hm=>by
  rw [Lx.toksL]
  simp only
  split
  ·simp
  ·split
   ·simp
   ·rename_i k n v t ht
    have h1:=Lx.tokL_len ht
    have h2:=tokL_fit ht
    simp only [List.length_drop] at h1 h2
    have h3:0 < m:=by omega
    have ih:=toksL_fit (m - 1) ((l.drop (Lx.rl Lx.isBlank l)).drop n) (i + Lx.rl Lx.isBlank l + n) (by simp only [List.length_drop];omega) (by omega)
    simp only [List.length_drop] at ih
    refine ⟨by simp only [List.length_cons];omega,fun x hx=>?_⟩
    rcases List.mem_cons.1 hx with rfl | hx
    ·exact ⟨h2.1,by have:=h2.2;simp only;omega⟩
    ·exact ih.2 x hx
termination_by m=>m
decreasing_by omega
end Go.Proofs.YtencibjmiphinaaGreatDoor
namespace Go.Proofs.YtencibjmiphinaaGreatDoor
open Go.RowKit

noncomputable def parL (s:ByteArray):Rs Nd:=if 4096 < s.size then .bad 4096 else match (Lx.toksL s.data.toList 0).2 with
 | some p=>.bad p
 | none=>whL s.size (Lx.toksL s.data.toList 0).1
/-- What Parse leaves. -/
def PrR (w:World) (x:Rs Nd) (e:Ending) (w':World):Prop:=match x with
 | .bad p=>e=.returned (.tuple #[zVal,.int .i64 p,.int .i64 10])∧Below w.heap.size w w'
 | .ok t _=>(∃ v,e=.returned (.tuple #[v.val,.int .i64 0,.int .i64 0])∧NdFrom w' w.heap.size v t)∧Below w.heap.size w w'
theorem own_cap {B cap:Nat} {w:World} {q:Option Addr} {l:List Tk} (h:Lx.OwnK Lx.encT 56 5 B w q cap l):l.length≤cap∧cap≤maxLen:=by
 rcases h.2 with ⟨h0,h1⟩ | ⟨g,c,cur,h0,_,_,h1,h2,_⟩
 ·simp only [Value.slice.injEq] at h0
  obtain ⟨_,h3,h4⟩:=h0
  exact ⟨by omega,by unfold maxLen;omega⟩
 ·simp only [Value.slice.injEq] at h0
  obtain ⟨_,_,h4⟩:=h0
  subst h4;exact ⟨h1,h2⟩
theorem res_far {w w1 w2:World} {o:Obj} (hb:Below (w.alloc (.cells #[.int .i64 0,.string ⟨#[]⟩,.slice none 0 0,.slice none 0 0,.int .i64 0,.int .i64 0,.int .i64 0,.slice none 0 0] 29)).heap.size (w.alloc (.cells #[.int .i64 0,.string ⟨#[]⟩,.slice none 0 0,.slice none 0 0,.int .i64 0,.int .i64 0,.int .i64 0,.slice none 0 0] 29)) w1) (hg:(w1.alloc o).grownBy w2 (some w1.heap.size)):w2.heap[w.heap.size]? = some (.cells #[.int .i64 0,.string ⟨#[]⟩,.slice none 0 0,.slice none 0 0,.int .i64 0,.int .i64 0,.int .i64 0,.slice none 0 0] 29)∧w.heap.size + 1≤w1.heap.size∧Below w.heap.size w w2:=by
 have hs:=hb.size
 simp at hs
 refine ⟨(hg.block _ (by simp;omega) (fun e=>by have e2:w.heap.size=w1.heap.size:=(by simpa using e);omega)).trans ((Below.heap_alloc w1 o _ (by omega)).trans ((hb.block _ (by simp)).trans (box_nw w _))),hs, ?_⟩
 exact ((below_sub (bel_z w) hb).alloc (by omega) o).grown hg (by simp;omega) (fun k e=>by cases e;omega)
/-- The parser's box is made. -/
theorem ps_new {B cap:Nat} {w:World} {q:Option Addr} {l:List Tk} (h:Lx.OwnK Lx.encT 56 5 B w q cap l) (en:Int) (hs:∀ t ∈ l,t.2.2.2.2.size≤4096):Ps (w.alloc (.cells #[.slice q l.length cap,.int .i64 en] 66)) w.heap.size en l:=by
 have hc:=own_cap h
 refine ⟨q,cap,box_nw w _,hc.1,by have:=hc.2;unfold maxLen at this;omega,fun h0=>?_,hs⟩
 obtain ⟨b,off,hq,hb,ht⟩:=h.tks.1 h0
 exact ⟨b,off,hq,hb,ht.below ((Below.refl w.heap.size w).alloc (Nat.le_refl _) _) hb⟩
set_option maxHeartbeats 4000000 in
theorem parse_any (s:ByteArray) (w:World) (hG:Lx.G w) :
  Calls Tryz.prog 10 #[.string s] w fun e w'=>PrR w (parL s) e w':=by
 by_cases hs:4096 < s.size
 ·have hx:parL s=.bad 4096:=by unfold parL;rw [if_pos hs]
  rw [hx]
  have hc:=Lx.tokens_long s (w.alloc (.cells #[.int .i64 0,.string ⟨#[]⟩,.slice none 0 0,.slice none 0 0,.int .i64 0,.int .i64 0,.int .i64 0,.slice none 0 0] 29)) hs
  clear hx hs hG
  go_enter Tryz.func10,Tryz.ntmps10
  go_wp2_with (go_at_call 23;refine hc.mono ?_;rintro e w1 ⟨rfl,rfl⟩)
  refine bodyPost_ret (v:=.tuple #[zVal,.int .i64 4096,.int .i64 10]) (by simp [results,Tryz.results10,go_sem,zVal]) rfl ⟨rfl, ?_⟩
  exact bel_z w
 ·have hc:=Lx.tokens_any s (w.alloc (.cells #[.int .i64 0,.string ⟨#[]⟩,.slice none 0 0,.slice none 0 0,.int .i64 0,.int .i64 0,.int .i64 0,.slice none 0 0] 29)) (Lx.G_below hG (bel_z w)) (by omega)
  have hf:=toksL_fit 4096 s.data.toList 0 (by simp;omega) (Nat.le_refl _)
  cases ht:(Lx.toksL s.data.toList 0).2 with
  | some p =>
   have hx:parL s=.bad p:=by unfold parL;rw [if_neg hs,ht]
   rw [hx]
   have HT:=hide ht
   clear hx hs hG hf ht
   go_enter Tryz.func10,Tryz.ntmps10
   go_wp2_with (go_at_call 23;refine hc.mono ?_;rintro e w1 ⟨h1,hb⟩;obtain ⟨p',h2,rfl⟩ | ⟨h2,_⟩:=h1 <;> rw [uh HT] at h2 <;> cases h2;have HB:=hide hb;clear hb;obtain ⟨z1,⟨q0,q1,q2,q3,q4,q5,q6,q7⟩,qf⟩:=boxR (uh HB))
   refine bodyPost_ret (v:=.tuple #[zVal,.int .i64 p,.int .i64 10]) (by simp [results,Tryz.results10,go_sem,zVal, *]) rfl ⟨rfl, ?_⟩
   exact set8_below (below_sub (bel_z w) (uh HB)) (Nat.le_refl _) _ _ _ _ _ _ _ _
  | none =>
   obtain ⟨l,hl⟩:∃ l,(Lx.toksL s.data.toList 0).1=l:=⟨_,rfl⟩
   have hx:parL s=whL s.size l:=by unfold parL;rw [if_neg hs,ht,hl]
   rw [hx]
   have HT:=hide ht
   rw [hl] at hf
   have hll:l.length≤100000:=by have:=hf.1;simp at this;omega
   have HF:=hide (fun t ht=>(hf.2 t ht).2)
   have HL:=hide hl
   clear hx hs hG hf ht hl
   cases ew:whL s.size l with
   | bad p =>
    have EW:=hide ew
    clear ew
    go_enter Tryz.func10,Tryz.ntmps10
    go_wp2_with first
     | (go_at_call 23;refine hc.mono ?_;rintro e w1 ⟨h1,hb⟩;obtain ⟨p',h2,_⟩ | ⟨_,q,cap,rfl,ho⟩:=h1;(rw [uh HT] at h2;cases h2);rw [uh HL] at ho;have HO:=hide ho;have HB:=hide hb;clear hb ho;rw [uh HL])
     | (go_at_call 25;refine (whole_any w1.heap.size s.size l _ (ps_new (uh HO) _ (uh HF)) hll).mono ?_;rintro e w2 hq;rw [uh EW] at hq;obtain ⟨rfl,hg⟩:=hq;obtain ⟨y1,y2,y3⟩:=res_far (uh HB) hg;obtain ⟨q0,q1,q2,q3,q4,q5,q6,q7⟩:=of8' y1;have qf:∀ o,w2.frozen? ⟨w.heap.size,o,none⟩=false:=fun o=>frozen_free y1;have Y3:=hide y3;clear hg y1 y2 y3;unfold zVal)
    refine bodyPost_ret (v:=.tuple #[zVal,.int .i64 p,.int .i64 10]) (by simp [results,Tryz.results10,go_sem,zVal, *]) rfl ⟨rfl, ?_⟩
    exact set8_below (uh Y3) (Nat.le_refl _) _ _ _ _ _ _ _ _
   | ok t r =>
    have EW:=hide ew
    clear ew
    go_enter Tryz.func10,Tryz.ntmps10
    go_wp2_with first
     | (go_at_call 23;refine hc.mono ?_;rintro e w1 ⟨h1,hb⟩;obtain ⟨p',h2,_⟩ | ⟨_,q,cap,rfl,ho⟩:=h1;(rw [uh HT] at h2;cases h2);rw [uh HL] at ho;have HO:=hide ho;have HB:=hide hb;clear hb ho;rw [uh HL])
     | (go_at_call 25;refine (whole_any w1.heap.size s.size l _ (ps_new (uh HO) _ (uh HF)) hll).mono ?_;rintro e w2 hq;rw [uh EW] at hq;obtain ⟨⟨v,rfl,hv⟩,hg⟩:=hq;obtain ⟨y1,y2,y3⟩:=res_far (uh HB) hg;obtain ⟨q0,q1,q2,q3,q4,q5,q6,q7⟩:=of8' y1;have qf:∀ o,w2.frozen? ⟨w.heap.size,o,none⟩=false:=fun o=>frozen_free y1;have Y3:=hide y3;have HV:=hide hv;have Y2:=hide y2;clear hg y1 y2 y3 hv;unfold Nv.val)
    refine bodyPost_ret (v:=.tuple #[v.val,.int .i64 0,.int .i64 0]) (by simp [results,Tryz.results10,go_sem,Nv.val, *]) rfl ⟨⟨v,rfl, ?_⟩,set8_below (uh Y3) (Nat.le_refl _) _ _ _ _ _ _ _ _⟩
    have h9:=uh HV
    simp at h9
    exact (h9.up (set8_up _ (by have:=uh Y2;omega) _ _ _ _ _ _ _ _)).mono (by have:=uh Y2;omega)
end Go.Proofs.YtencibjmiphinaaGreatDoor

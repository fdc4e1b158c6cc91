/- What the program's Tokens returns, for every text. -/
import Derived.Test.YtencibjmiphinaaGreatDoorELxLexAt
namespace Go.Proofs.YtencibjmiphinaaGreatDoor.Lx
open Go.RowKit
theorem toksL_skip (l:List UInt8) (i:Nat):toksL l i=toksL (l.drop (rl isBlank l)) (i + rl isBlank l):=by
 have h0:=rl_drop (p:=isBlank) l
 have hl:=rl_le isBlank l
 by_cases h:l.length<=rl isBlank l
 ·rw [toksL_end h,toksL_end (by rw [h0];simp;omega)]
 ·have h':¬ (l.drop (rl isBlank l)).length<=rl isBlank (l.drop (rl isBlank l)):=by rw [h0];simp;omega
  cases ht:tokL (l.drop (rl isBlank l)) with
  | none =>
   rw [toksL_bad h ht,toksL_bad h' (by rw [h0];simpa using ht),h0];rfl
  | some q =>
   obtain ⟨k,n,v,t⟩:=q
   rw [toksL_step h ht,toksL_step h' (by rw [h0];simpa using ht),h0]
   simp
theorem toksL_stop {s:ByteArray} {k:Nat} (hk:k < s.size) (h0:rl isBlank (s.data.toList.drop k)=0) (ht:tokL (s.data.toList.drop k)=none):toksL (s.data.toList.drop k) k=([],some k):=by
 have:=toksL_bad (i:=k) (l:=s.data.toList.drop k) (by rw [h0];simp;omega) (by rw [h0];simpa using ht)
 rw [this,h0];rfl
theorem toksL_fin {s:ByteArray} {k:Nat} (hk:¬ k < s.size):toksL (s.data.toList.drop k) k=([],none):=by
 rw [drop_end s k hk];exact toksL_end (by simp)
theorem toksL_next {s:ByteArray} {k:Nat} {kd:Int} {n:Nat} {v:Int} {t:ByteArray} (hk:k < s.size) (h0:rl isBlank (s.data.toList.drop k)=0) (ht:tokL (s.data.toList.drop k)=some (kd,n,v,t)) :
  toksL (s.data.toList.drop k) k=((kd,(k:Int),((k + n:Nat):Int),v,t) :: (toksL (s.data.toList.drop (k + n)) (k + n)).1,(toksL (s.data.toList.drop (k + n)) (k + n)).2):=by
 have:=toksL_step (i:=k) (l:=s.data.toList.drop k) (by rw [h0];simp;omega) (by rw [h0];simpa using ht)
 rw [this,h0]
 simp
/-- Up to the place k the tokens l1 have been found. -/
def Seen (s:ByteArray) (l1:List Tok) (k:Nat):Prop :=
 k<=s.size/\l1.length<=k/\rl isBlank (s.data.toList.drop k)=0/\toksL s.data.toList 0=(l1 ++ (toksL (s.data.toList.drop k) k).1,(toksL (s.data.toList.drop k) k).2)
theorem Seen.first (s:ByteArray):Seen s [] (rl isBlank s.data.toList):=by
 refine ⟨by simpa using rl_le isBlank s.data.toList,by simp,rl_drop _, ?_⟩
 have:=toksL_skip s.data.toList 0
 rw [Nat.zero_add] at this
 rw [this];simp
theorem Seen.next {s:ByteArray} {l1:List Tok} {k:Nat} (h:Seen s l1 k) (hk:k < s.size) {kd:Int} {n:Nat} {v:Int} {t:ByteArray} (ht:tokL (s.data.toList.drop k)=some (kd,n,v,t)) :
  Seen s (l1 ++ [(kd,(k:Int),((k + n:Nat):Int),v,t)]) (k + n + rl isBlank (s.data.toList.drop (k + n))):=by
 obtain ⟨h1,h2,h3,h4⟩:=h
 have hn:=tokL_len ht
 simp only [List.length_drop,Array.length_toList] at hn
 have hsz:s.data.size=s.size:=rfl
 have hr:=rl_le isBlank (s.data.toList.drop (k + n))
 simp only [List.length_drop,Array.length_toList] at hr
 have e:s.data.toList.drop (k + n + rl isBlank (s.data.toList.drop (k + n)))=(s.data.toList.drop (k + n)).drop (rl isBlank (s.data.toList.drop (k + n))):=by rw [List.drop_drop]
 refine ⟨by omega,by simp;omega,by rw [e];exact rl_drop _, ?_⟩
 rw [h4,toksL_next hk h3 ht,toksL_skip (s.data.toList.drop (k + n)) (k + n),e]
 simp
theorem Seen.bad {s:ByteArray} {l1:List Tok} {k:Nat} (h:Seen s l1 k) (hk:k < s.size) (ht:tokL (s.data.toList.drop k)=none):toksL s.data.toList 0=(l1,some k):=by
 rw [h.2.2.2,toksL_stop hk h.2.2.1 ht];simp
theorem Seen.done {s:ByteArray} {l1:List Tok} {k:Nat} (h:Seen s l1 k) (hk:¬ k < s.size):toksL s.data.toList 0=(l1,none):=by
 rw [h.2.2.2,toksL_fin hk];simp
/-- What Tokens answers. -/
def ToksPost (B:Nat) (w':World) (r:List Tok × Option Nat) (e:Ending):Prop :=
 (∃ p,r.2=some p/\e=.returned (.tuple #[.slice none 0 0,.int .i64 p,.int .i64 10])) ∨ (r.2=none/\∃ q cap,e=.returned (.tuple #[.slice q r.1.length cap,.int .i64 0,.int .i64 0])/\OwnK encT 56 5 B w' q cap r.1)
set_option maxHeartbeats 400000 in
theorem tokens_long (s:ByteArray) (w:World) (hs:4096 < s.size) :
  Calls Tryz.prog 23 #[.string s] w fun e w'=>e=.returned (.tuple #[.slice none 0 0,.int .i64 4096,.int .i64 10])/\w'=w:=by
 have a0:(4096:Int) < (s.size:Int):=by omega
 go_enter Tryz.func23,Tryz.ntmps23
 go_wp2
 refine bodyPost_ret (v:=.tuple #[.slice none 0 0,.int .i64 4096,.int .i64 10]) (by simp [results,Tryz.results23,go_sem]) rfl ⟨rfl,rfl⟩
theorem own_far {B:Nat} {w w1:World} {q:Option Addr} {cap:Nat} {l:List Tok} (h:OwnK encT 56 5 B w q cap l) (hb:Below w.heap.size w w1):some w1.heap.size ≠ (Value.slice q l.length cap).ownBlock:=by
 intro e
 have:=(World.ownsRow.lt h _ e.symm).2
 have:=hb.size
 omega
set_option maxHeartbeats 2000000 in
theorem tokens_any (s:ByteArray) (w:World) (hG:G w) (hs:s.size<=4096) :
  Calls Tryz.prog 23 #[.string s] w fun e w'=>ToksPost w.heap.size w' (toksL s.data.toList 0) e/\Below w.heap.size w w':=by
 have a0:(s.size:Int)<=4096:=by omega
 obtain ⟨j0,HJ0⟩:∃ j0,rl isBlank s.data.toList=j0:=⟨_,rfl⟩
 have hr0:=fun w=>runBlank_any s 0 w (by omega) (by omega) j0 (by simpa using HJ0)
 have HS:=hide (show Seen s [] j0 by rw [<- HJ0];exact Seen.first s)
 clear HJ0
 go_enter Tryz.func23,Tryz.ntmps23
 go_wp2_with (go_at_call 47;refine (hr0 _).mono ?_;rintro e w' ⟨rfl,hw⟩;obtain rfl:=hw.symm;clear hw)
 clear hr0
 go_loopw [5,6] (fun v a wr=>∃ (l1:List Tok) (q:Option Addr) (cap k:Nat),v=.slice q l1.length cap/\a=.int .i64 k/\Seen s l1 k/\Below w.heap.size w wr/\OwnK encT 56 5 w.heap.size wr q cap l1) (fun _ a _=>s.size - (intOf a).toNat)
 case atStart=>exact ⟨[],none,0,j0,rfl,rfl,uh HS,Below.refl _ _,OwnK.nil _ _⟩
 case round =>
  clear HS
  obtain ⟨l1,q,cap,k,rfl,rfl,hseen,hbel,hown⟩:=hrel
  have hks:=hseen.1
  have hlk:=hseen.2.1
  have HS:=hide hseen
  have HB:=hide hbel
  have HO:=hide hown
  clear hseen hbel hown
  by_cases hlt:k < s.size
  ·have b0:(0:Int)<=(k:Int):=by omega
   have b1:(k:Int) < (s.size:Int):=by omega
   have hta:=tokAt_any s k wr (G_below hG (uh HB)) hlt (by omega)
   cases ht:tokL (s.data.toList.drop k) with
   | none =>
    have Hbad:=hide ((uh HS).bad hlt ht)
    rw [ht] at hta
    simp only [tokV] at hta
    clear ht
    go_wp2_with (go_at_call 49;refine hta.mono ?_;rintro e w1 ⟨rfl,hb⟩;have Hb:=hide hb;clear hb)
    refine bodyPost_ret (v:=.tuple #[.slice none 0 0,.int .i64 k,.int .i64 10]) (by simp [results,Tryz.results23,go_sem]) rfl ?_
    refine ⟨Or.inl ⟨k,by rw [uh Hbad],rfl⟩, ?_⟩
    exact (below_sub (uh HB) (uh Hb)).alloc (below_sub (uh HB) (uh Hb)).size _
   | some x =>
    obtain ⟨kd,n,v,t⟩:=x
    have hn:=tokL_len ht
    simp only [List.length_drop,Array.length_toList] at hn
    have hsz:s.data.size=s.size:=rfl
    have Hnext:=hide ((uh HS).next hlt ht)
    rw [ht] at hta
    simp only [tokV] at hta
    clear ht
    obtain ⟨m,Hm⟩:∃ m,k + n=m:=⟨_,rfl⟩
    rw [Hm] at hta Hnext
    obtain ⟨j,HJ⟩:∃ j,m + rl isBlank (s.data.toList.drop m)=j:=⟨_,rfl⟩
    have hr:=fun w=>runBlank_any s m w (by omega) (by omega) j HJ
    rw [HJ] at Hnext
    have HKJ:=hide (show k < j by omega)
    clear HJ
    have HM:=hide Hm
    clear Hm
    go_wp2_with (first
     | (go_at_call 47;refine (hr _).mono ?_;rintro e w' ⟨rfl,rfl⟩)
     | (go_at_call 49;refine hta.mono ?_;rintro e w1 ⟨rfl,hb⟩;have Hb:=hide hb;clear hb)
     | (at_builtin;refine wpList_app rowT rfl _ _ rfl w.heap.size q cap l1 (some ⟨w1.heap.size + 1,0,none⟩) 1 [(kd,(k:Int),(m:Int),v,t)] l1.length 1 (l1.length + 1) rfl rfl rfl rfl rfl ((uh HO).below (((uh Hb).alloc (uh Hb).size _).alloc (by have:=(uh Hb).size;simp;omega) _)) (SrcK.ofT (fun h=>by cases h) (TksOf.one (by simp) (by go_simp) (by go_simp) (by go_simp) (by go_simp) (by go_simp))) (by unfold maxLen;omega) (by omega) (by have h1:=(uh HB).size;have h2:=(uh Hb).size;simp;omega) ?_;intro q2 cap2 w2 hown2 hb2 _ hg2;have ct:w2.cell? ⟨w1.heap.size,2,none⟩=some (.int .i64 m):=(hg2.cell (a:=⟨w1.heap.size,2,none⟩) (by go_simp) (own_far (uh HO) (uh Hb)));have HO2:=hide hown2;have HB2:=hide ((((below_sub (uh HB) (uh Hb)).alloc (below_sub (uh HB) (uh Hb)).size _).alloc (by have:=(below_sub (uh HB) (uh Hb)).size;simp;omega) _).trans hb2);clear hown2 hb2 hg2))
    exact ⟨⟨l1 ++ [(kd,(k:Int),(m:Int),v,t)],q2,cap2,j,by simp,rfl,uh Hnext,uh HB2,uh HO2⟩,by have:=uh HKJ;simp [intOf];omega⟩
  ·have b1:¬ (k:Int) < (s.size:Int):=by omega
   have Hdone:=hide ((uh HS).done hlt)
   go_wp2
   refine bodyPost_ret (v:=.tuple #[.slice q l1.length cap,.int .i64 0,.int .i64 0]) (by simp [results,Tryz.results23,go_sem]) rfl ?_
   refine ⟨Or.inr ⟨by rw [uh Hdone],q,cap,by rw [uh Hdone],by rw [uh Hdone];exact uh HO⟩,uh HB⟩
end Go.Proofs.YtencibjmiphinaaGreatDoor.Lx

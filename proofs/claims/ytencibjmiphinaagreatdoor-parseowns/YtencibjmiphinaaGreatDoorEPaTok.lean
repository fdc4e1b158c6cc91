/- The parser's tokens in memory: place, isNext, skip, giveUp, need, needSign. -/
import Derived.Test.YtencibjmiphinaaGreatDoorEZac
namespace Go.Proofs.YtencibjmiphinaaGreatDoor
open Go.RowKit
/-- The parser's box g: the tokens that are left, and the text's end. -/
def Ps (w:World) (g:Nat) (en:Int) (l:List Tk):Prop :=
  ∃ q c,w.heap[g]? = some (.cells #[.slice q l.length c,.int .i64 en] 66 (0,0))/\l.length<=c/\c<=9223372036854775807 /\
    (0 < l.length->∃ b off,q=some ⟨b,off,none⟩/\b < g/\Lx.TksAt w b off l)/\∀ t ∈ l,t.2.2.2.2.size<=4096
theorem of2 {w:World} {N:Nat} {a0 a1:Value} {T:TypeId} (h:w.heap[N]? = some (.cells #[a0,a1] T (0,0))):w.cell? ⟨N,0,none⟩=some a0/\w.cell? ⟨N,1,none⟩=some a1/\(∀ o,w.frozen? ⟨N,o,none⟩=false)/\N < w.heap.size:=by
 refine ⟨by unfold World.cell?;simp [h],by unfold World.cell?;simp [h],fun o=>by unfold World.frozen?;simp [h],(Array.getElem?_eq_some_iff.1 h).1⟩
theorem Ps.lt {w:World} {g:Nat} {en:Int} {l:List Tk} (h:Ps w g en l):g < w.heap.size:=by
 obtain ⟨q,c,h,_⟩:=h
 exact (of2 h).2.2.2
theorem Ps.low {w w':World} {g:Nat} {en:Int} {l:List Tk} (h:Ps w g en l) (hk:∀ k,k<=g->w'.heap[k]? = w.heap[k]?):Ps w' g en l:=by
 obtain ⟨q,c,h0,h1,h2,h3⟩:=h
 refine ⟨q,c,(hk g (Nat.le_refl _)).trans h0,h1,h2,fun h4=>?_,h3.2⟩
 obtain ⟨b,off,rfl,hb,ht⟩:=h3.1 h4
 have hc:∀ o,w'.cell? ⟨b,o,none⟩=w.cell? ⟨b,o,none⟩:=fun o=>World.cell?_of_block (w:=w) (a:=⟨b,o,none⟩) (hk b (by omega))
 exact ⟨b,off,rfl,hb,fun j x hj=>⟨(hc _).trans (ht j x hj).1,(hc _).trans (ht j x hj).2.1,(hc _).trans (ht j x hj).2.2.1,(hc _).trans (ht j x hj).2.2.2.1,(hc _).trans (ht j x hj).2.2.2.2⟩⟩
theorem Ps.below {w w':World} {g:Nat} {en:Int} {l:List Tk} (h:Ps w g en l) (hb:Below w.heap.size w w'):Ps w' g en l:=h.low fun k hk=>hb.block k (by have:=h.lt;omega)
theorem Ps.small {w:World} {g:Nat} {en:Int} {l:List Tk} (h:Ps w g en l):∀ t ∈ l,t.2.2.2.2.size<=4096:=by
 obtain ⟨q,c,h0,h1,h2,h3⟩:=h
 exact h3.2
def tkV (t:Tk):Value:=.agg #[.int .i64 t.1,.int .i64 t.2.1,.int .i64 t.2.2.1,.int .i64 t.2.2.2.1,.string t.2.2.2.2]
def refusal (p:Int):Ending:=.panicked [{ v:=.iface 100 (.int .i64 p),recovered:=false }]
/-- One token is read. -/
theorem Ps.head {w:World} {g:Nat} {en:Int} {t:Tk} {l:List Tk} (h:Ps w g en (t :: l)):∃ b off c,w.cell? ⟨g,0,none⟩=some (.slice (some ⟨b,off,none⟩) (l.length + 1) c)/\w.cell? ⟨g,1,none⟩=some (.int .i64 en)/\(∀ o,w.frozen? ⟨g,o,none⟩=false)/\b < w.heap.size/\l.length + 1<=c/\c<=9223372036854775807 /\
    w.cell? ⟨b,off,none⟩=some (.int .i64 t.1)/\w.cell? ⟨b,off + 1,none⟩=some (.int .i64 t.2.1)/\w.cell? ⟨b,off + 2,none⟩=some (.int .i64 t.2.2.1)/\w.cell? ⟨b,off + 3,none⟩=some (.int .i64 t.2.2.2.1)/\w.cell? ⟨b,off + 4,none⟩=some (.string t.2.2.2.2) /\
    (∀ q',(0 < l.length->q'=some ⟨b,off + 5,none⟩)->Ps (w.setCell ⟨g,0,none⟩ (.slice q' l.length (c - 1))) g en l/\w.grownBy (w.setCell ⟨g,0,none⟩ (.slice q' l.length (c - 1))) (some g)):=by
  obtain ⟨q,c,h0,h1,h2,h3⟩:=h
  obtain ⟨b,off,rfl,hbg,ht⟩:=h3.1 (by simp)
  have hc:=of2 h0
  have hb:b < w.heap.size:=by have:=hc.2.2.2;omega
  have hn:b ≠ g:=by omega
  have t0:=ht 0 t rfl
  simp only [Nat.zero_mul,Nat.add_zero] at t0
  refine ⟨b,off,c,hc.1,hc.2.1,hc.2.2.1,hb,h1,h2,t0.1,t0.2.1,t0.2.2.1,t0.2.2.2.1,t0.2.2.2.2,fun q' hq=>?_⟩
  have hgr:w.grownBy (w.setCell ⟨g,0,none⟩ (.slice q' l.length (c - 1))) (some g):=⟨by simp [World.setCell],by simp [World.setCell],by simp [World.setCell],by simp [World.setCell],fun k hk hr=>by
    have:k ≠ g:=fun e=>hr (by rw [e])
    exact Below.heap_setCell w ⟨g,0,none⟩ _ k this⟩
  refine ⟨⟨q',c - 1, ?_,by simp only [List.length_cons] at h1;omega,by omega,fun hl=>?_,fun x hx=>h3.2 x (List.mem_cons_of_mem _ hx)⟩,hgr⟩
  · have:(w.setCell ⟨g,0,none⟩ (.slice q' l.length (c - 1))).heap[g]? = some (.cells #[.slice q' l.length (c - 1),.int .i64 en] 66 (0,0)):=by
      unfold World.setCell;simp only [Array.getElem?_modify,if_true,h0];simp
    exact this
  · refine ⟨b,off + 5,hq hl,hbg,fun j x hj=>?_⟩
    have hk:∀ o,(w.setCell ⟨g,0,none⟩ (.slice q' l.length (c - 1))).cell? ⟨b,o,none⟩=w.cell? ⟨b,o,none⟩:=fun o=>hgr.cell_far ⟨b,o,none⟩ hb (fun e=>hn (by cases e;rfl))
    have hj':=ht (j + 1) x (by simpa using hj)
    have e:off + (j + 1) * 5=off + 5 + j * 5:=by omega
    rw [e] at hj'
    exact ⟨(hk _).trans hj'.1,(hk _).trans hj'.2.1,(hk _).trans hj'.2.2.1,(hk _).trans hj'.2.2.2.1,(hk _).trans hj'.2.2.2.2⟩
theorem isNext_any (g:Nat) (en k:Int) (l:List Tk) (w:World) (h:Ps w g en l) :
  Calls Tryz.prog 139 #[.pointer (some ⟨g,0,none⟩),.int .i64 k] w fun e w'=>e=.returned (.bool (isK k l))/\w'=w:=by
 cases l with
 | nil =>
  obtain ⟨q,c,h0,h1,h2,h3⟩:=h
  obtain ⟨c0,c1,_⟩:=of2 h0
  clear h3 h0
  simp only [List.length_nil] at c0
  go_enter Tryz.func139,Tryz.ntmps139
  go_wp2
  refine bodyPost_ret (v:=.bool false) (by simp [results,Tryz.results139,go_sem]) rfl ⟨rfl,rfl⟩
 | cons t l =>
  obtain ⟨b,off,c,c0,c1,hf,hb,h1,h2,t0,t1,t2,t3,t4,hp⟩:=h.head
  clear hp
  have a0:(0:Int) < (l.length:Int) + 1:=by omega
  go_enter Tryz.func139,Tryz.ntmps139
  go_wp2
  refine bodyPost_ret (v:=.bool (t.1 == k)) (by simp [results,Tryz.results139,go_sem]) rfl ⟨rfl,rfl⟩
theorem place_any (g:Nat) (en:Int) (l:List Tk) (w:World) (h:Ps w g en l) :
  Calls Tryz.prog 93 #[.pointer (some ⟨g,0,none⟩)] w fun e w'=>e=.returned (.int .i64 (plc en l))/\w'=w:=by
 cases l with
 | nil =>
  obtain ⟨q,c,h0,h1,h2,h3⟩:=h
  obtain ⟨c0,c1,_⟩:=of2 h0
  clear h3 h0
  simp only [List.length_nil] at c0
  go_enter Tryz.func93,Tryz.ntmps93
  go_wp2
  refine bodyPost_ret (v:=.int .i64 en) (by simp [results,Tryz.results93,go_sem]) rfl ⟨rfl,rfl⟩
 | cons t l =>
  obtain ⟨b,off,c,c0,c1,hf,hb,h1,h2,t0,t1,t2,t3,t4,hp⟩:=h.head
  clear hp
  have a0:¬ ((l.length:Int) + 1=0):=by omega
  go_enter Tryz.func93,Tryz.ntmps93
  go_wp2
  refine bodyPost_ret (v:=.int .i64 t.2.1) (by simp [results,Tryz.results93,go_sem]) rfl ⟨rfl,rfl⟩
theorem giveUp_any (g:Nat) (en:Int) (l:List Tk) (w:World) (h:Ps w g en l) :
  Calls Tryz.prog 53 #[.pointer (some ⟨g,0,none⟩)] w fun e w'=>e=refusal (plc en l)/\w'=w:=by
 have hp:=place_any g en l w h
 clear h
 go_enter Tryz.func53,Tryz.ntmps53
 go_wp2_with (go_at_call 93;refine hp.mono ?_;rintro e w' ⟨rfl,rfl⟩)
 simp [bodyPost,refusal]
theorem str_ne {a b:ByteArray} (h:¬ a=b):(a.toList == b.toList)=false:=by
 cases e:(a.toList == b.toList) with
 | false=>rfl
 | true =>
  have e2:a.toList=b.toList:=by simpa using e
  rw [ByteArray.toList_eq,ByteArray.toList_eq] at e2
  exact absurd (ByteArray.ext (Array.toList_inj.1 e2)) h
theorem skip_no (g:Nat) (en:Int) (s:ByteArray) (l:List Tk) (w:World) (h:Ps w g en l) (hs:skL s l=none) :
  Calls Tryz.prog 119 #[.pointer (some ⟨g,0,none⟩),.string s] w fun e w'=>e=.returned (.bool false)/\w'=w:=by
 have hn:=isNext_any g en 4 l w h
 cases l with
 | nil =>
  simp only [isK] at hn
  clear h hs
  go_enter Tryz.func119,Tryz.ntmps119
  go_wp2_with (go_at_call 139;refine hn.mono ?_;rintro e w' ⟨rfl,rfl⟩)
  refine bodyPost_ret (v:=.bool false) (by simp [results,Tryz.results119,go_sem]) rfl ⟨rfl,rfl⟩
 | cons t l =>
  obtain ⟨b,off,c,c0,c1,hf,hb,h1,h2,t0,t1,t2,t3,t4,hp⟩:=h.head
  clear hp h
  simp only [isK] at hn
  by_cases hk:t.1=4
  ·have hne:¬ t.2.2.2.2=s:=fun e=>by simp [skL,hk,e] at hs
   have hn':(t.1 == 4)=true:=by simp [hk]
   rw [hn'] at hn
   have hne2:=str_ne hne
   clear hk hn' hs hne
   go_enter Tryz.func119,Tryz.ntmps119
   go_wp2_with (go_at_call 139;refine hn.mono ?_;rintro e w' ⟨rfl,rfl⟩)
   refine bodyPost_ret (v:=.bool false) (by simp [results,Tryz.results119,go_sem]) rfl ⟨rfl,rfl⟩
  ·have hn':(t.1 == 4)=false:=by simp [hk]
   rw [hn'] at hn
   clear hk hn' hs
   go_enter Tryz.func119,Tryz.ntmps119
   go_wp2_with (go_at_call 139;refine hn.mono ?_;rintro e w' ⟨rfl,rfl⟩)
   refine bodyPost_ret (v:=.bool false) (by simp [results,Tryz.results119,go_sem]) rfl ⟨rfl,rfl⟩
/-- A token more is read. -/
def Nx (g:Nat) (en:Int) (r:List Tk) (w w':World):Prop:=Ps w' g en r/\w.grownBy w' (some g)
theorem skip_yes (g:Nat) (en:Int) (s:ByteArray) (l r:List Tk) (w:World) (h:Ps w g en l) (hs:skL s l=some r) :
  Calls Tryz.prog 119 #[.pointer (some ⟨g,0,none⟩),.string s] w fun e w'=>e=.returned (.bool true)/\Nx g en r w w':=by
 have hn:=isNext_any g en 4 l w h
 cases l with
 | nil=>simp [skL] at hs
 | cons t l =>
  obtain ⟨b,off,c,c0,c1,hf,hb,h1,h2,t0,t1,t2,t3,t4,hp⟩:=h.head
  have HP:=hide hp
  simp only [skL] at hs
  split at hs
  case isFalse=>cases hs
  case isTrue hk =>
   obtain rfl:l=r:=by cases hs;rfl
   clear hs
   have hn':isK 4 (t :: l)=true:=by simp [isK,hk.1]
   rw [hn'] at hn
   obtain ⟨hk1,hk2⟩:=hk
   subst hk2
   have hf0:=hf 0
   clear hk1 hn' hp h hf
   have a1:(1:Int)<=(l.length:Int) + 1:=by omega
   have a2:(1:Int)<=(c:Int):=by omega
   by_cases hc1:c=1
   ·go_enter Tryz.func119,Tryz.ntmps119
    go_wp2_with (go_at_call 139;refine hn.mono ?_;rintro e w' ⟨rfl,rfl⟩)
    refine bodyPost_ret (v:=.bool true) (by simp [results,Tryz.results119,go_sem]) rfl ⟨rfl, ?_⟩
    have h9:=uh HP (some ⟨b,off,none⟩) (fun h=>by omega)
    rw [hc1] at h9
    exact h9
   ·go_enter Tryz.func119,Tryz.ntmps119
    go_wp2_with (go_at_call 139;refine hn.mono ?_;rintro e w' ⟨rfl,rfl⟩)
    refine bodyPost_ret (v:=.bool true) (by simp [results,Tryz.results119,go_sem]) rfl ⟨rfl, ?_⟩
    exact uh HP _ (fun _=>rfl)
theorem grown_bel {w w':World} (h:Below w.heap.size w w') (r:Option Nat):w.grownBy w' r:=⟨h.os,h.tape,h.output,h.size,fun k hk _=>h.block k hk⟩
theorem Nx.bel {g:Nat} {en:Int} {r:List Tk} {w w1 w2:World} (h:Nx g en r w w1) (hb:Below w1.heap.size w1 w2):Nx g en r w w2:=⟨h.1.below hb,h.2.trans (grown_bel hb _)⟩
theorem Nx.trans {g:Nat} {en:Int} {r r2:List Tk} {w w1 w2:World} (h:Nx g en r w w1) (k:Nx g en r2 w1 w2):Nx g en r2 w w2:=⟨k.1,h.2.trans k.2⟩
theorem two_alloc (w:World) (o o':Obj):Below w.heap.size w ((w.alloc o).alloc o'):=((Below.refl _ _).alloc (Nat.le_refl _) _).alloc (by simp) _
theorem need_no (g:Nat) (en k:Int) (l:List Tk) (p:Int) (w:World) (h:Ps w g en l) (hs:ndL en k l=.bad p) :
  Calls Tryz.prog 155 #[.pointer (some ⟨g,0,none⟩),.int .i64 k] w fun e w'=>e=refusal p/\Below w.heap.size w w':=by
 have hw:Below w.heap.size w (w.alloc (.cells #[.int .i64 0,.int .i64 0,.int .i64 0,.int .i64 0,.string ⟨#[]⟩] 56)):=(Below.refl _ _).alloc (Nat.le_refl _) _
 have hn:=isNext_any g en k l _ (h.below hw)
 have hg:=giveUp_any g en l _ (h.below hw)
 have hk:isK k l=false/\plc en l=p:=by
  cases l with
  | nil=>simp [ndL] at hs;simp [isK,plc,hs]
  | cons t l =>
   simp only [ndL] at hs
   split at hs
   ·cases hs
   ·rename_i h1;cases hs;simp [isK,plc,h1]
 rw [hk.1] at hn
 rw [hk.2] at hg
 have HW:=hide hw
 clear hk hs h hw
 go_enter Tryz.func155,Tryz.ntmps155
 go_wp2_with first | (go_at_call 139;refine hn.mono ?_;rintro e w' ⟨rfl,rfl⟩) | (go_at_call 53;refine hg.mono ?_;rintro e w' ⟨rfl,rfl⟩;simp only [refusal])
 exact ⟨rfl,rfl,uh HW⟩
theorem need_yes (g:Nat) (en k:Int) (l r:List Tk) (t:Tk) (w:World) (h:Ps w g en l) (hs:ndL en k l=.ok t r) :
  Calls Tryz.prog 155 #[.pointer (some ⟨g,0,none⟩),.int .i64 k] w fun e w'=>e=.returned (tkV t)/\Nx g en r w w':=by
 have hw:Below w.heap.size w (w.alloc (.cells #[.int .i64 0,.int .i64 0,.int .i64 0,.int .i64 0,.string ⟨#[]⟩] 56)):=(Below.refl _ _).alloc (Nat.le_refl _) _
 cases l with
 | nil=>simp [ndL] at hs
 | cons t' l =>
  simp only [ndL] at hs
  split at hs
  case isFalse=>cases hs
  case isTrue hk =>
   obtain ⟨rfl,rfl⟩:t'=t/\l=r:=by cases hs;exact ⟨rfl,rfl⟩
   clear hs
   have hn:=isNext_any g en k (t' :: l) _ (h.below hw)
   have hn':isK k (t' :: l)=true:=by simp [isK,hk]
   rw [hn'] at hn
   obtain ⟨b,off,c,c0,c1,hf,hb,h1,h2,t0,t1,t2,t3,t4,hp⟩:=h.head
   have hf0:=hf 0
   have HP:=hide hp
   have hlt:=h.lt
   clear hk hn' hp h hf
   have a1:(1:Int)<=(l.length:Int) + 1:=by omega
   have a2:(1:Int)<=(c:Int):=by omega
   have a3:(0:Int) < (l.length:Int) + 1:=by omega
   by_cases hc1:c=1
   ·go_enter Tryz.func155,Tryz.ntmps155
    go_wp2_with (go_at_call 139;refine hn.mono ?_;rintro e w' ⟨rfl,rfl⟩)
    refine bodyPost_ret (v:=tkV t') (by simp [results,Tryz.results155,go_sem,tkV]) rfl ⟨rfl, ?_⟩
    have h9:=uh HP (some ⟨b,off,none⟩) (fun h=>by omega)
    rw [hc1] at h9
    exact Nx.bel h9 (two_alloc _ _ _)
   ·go_enter Tryz.func155,Tryz.ntmps155
    go_wp2_with (go_at_call 139;refine hn.mono ?_;rintro e w' ⟨rfl,rfl⟩)
    refine bodyPost_ret (v:=tkV t') (by simp [results,Tryz.results155,go_sem,tkV]) rfl ⟨rfl, ?_⟩
    exact Nx.bel (uh HP _ (fun _=>rfl)) (two_alloc _ _ _)
theorem sign_no (g:Nat) (en:Int) (s:ByteArray) (l:List Tk) (p:Int) (w:World) (h:Ps w g en l) (hs:sgL en s l=.bad p) :
  Calls Tryz.prog 140 #[.pointer (some ⟨g,0,none⟩),.string s] w fun e w'=>e=refusal p/\w'=w:=by
 have hk:skL s l=none/\plc en l=p:=by
  unfold sgL at hs
  split at hs
  ·rename_i h1;cases hs;exact ⟨h1,rfl⟩
  ·cases hs
 have hn:=skip_no g en s l w h hk.1
 have hg:=giveUp_any g en l w h
 rw [hk.2] at hg
 clear hk hs h
 go_enter Tryz.func140,Tryz.ntmps140
 go_wp2_with first | (go_at_call 119;refine hn.mono ?_;rintro e w' ⟨rfl,rfl⟩) | (go_at_call 53;refine hg.mono ?_;rintro e w' ⟨rfl,rfl⟩;simp only [refusal])
 exact ⟨rfl,rfl,rfl⟩
theorem sign_yes (g:Nat) (en:Int) (s:ByteArray) (l r:List Tk) (u:Unit) (w:World) (h:Ps w g en l) (hs:sgL en s l=.ok u r) :
  Calls Tryz.prog 140 #[.pointer (some ⟨g,0,none⟩),.string s] w fun e w'=>e=.returned (.tuple #[])/\Nx g en r w w':=by
 have hk:skL s l=some r:=by
  unfold sgL at hs
  split at hs
  ·cases hs
  ·rename_i h1;cases hs;exact h1
 have hn:=skip_yes g en s l r w h hk
 clear hk hs h
 go_enter Tryz.func140,Tryz.ntmps140
 go_wp2_with (go_at_call 119;refine hn.mono ?_;rintro e w' ⟨rfl,hx⟩;have HX:=hide hx;clear hx)
 exact ⟨rfl,.tuple #[],by simp [results,Tryz.results140,go_sem],rfl,uh HX⟩
end Go.Proofs.YtencibjmiphinaaGreatDoor

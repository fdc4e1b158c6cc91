/- The document's reader: its tokens in memory; is, kind. -/
import Derived.Test.YtencibjmiphinaaGreatDoorEZaf
import Derived.Test.YtencibjmiphinaaGreatDoorESameNode
namespace Go.Proofs.YtencibjmiphinaaGreatDoor
open Go.RowKit Go.Sort

/-- The reader's box g: all tokens, where it stands, whether something can't stand there. -/
def Rd (w:World) (g:Nat) (L:List Tk) (i:Nat) (bad:Bool):Prop :=
 ∃ q c,w.heap[g]? = some (.cells #[.slice q L.length c,.int .i64 i,.bool bad] 70 (0,0))∧i≤L.length∧L.length≤4096 ∧
  (0 < L.length→∃ b off,q=some ⟨b,off,none⟩∧b < g∧Lx.TksAt w b off L)
theorem of3 {w:World} {M:Nat} {a0 a1 a2:Value} {T:TypeId} (h:w.heap[M]? = some (.cells #[a0,a1,a2] T (0,0))):w.cell? ⟨M,0,none⟩=some a0∧w.cell? ⟨M,1,none⟩=some a1∧w.cell? ⟨M,2,none⟩=some a2∧(∀ o,w.frozen? ⟨M,o,none⟩=false)∧M < w.heap.size:=by
 refine ⟨by unfold World.cell?;simp [h],by unfold World.cell?;simp [h],by unfold World.cell?;simp [h],fun o=>by unfold World.frozen?;simp [h],(Array.getElem?_eq_some_iff.1 h).1⟩
theorem Rd.lt {w:World} {g i:Nat} {L:List Tk} {bad:Bool} (h:Rd w g L i bad):g < w.heap.size:=by
 obtain ⟨q,c,h,_⟩:=h
 exact (of3 h).2.2.2.2
theorem Rd.low {w w':World} {g i:Nat} {L:List Tk} {bad:Bool} (h:Rd w g L i bad) (hk:∀ k,k≤g→w'.heap[k]? = w.heap[k]?):Rd w' g L i bad:=by
 obtain ⟨q,c,h0,h1,h2,h3⟩:=h
 refine ⟨q,c,(hk g (Nat.le_refl _)).trans h0,h1,h2,fun h4=>?_⟩
 obtain ⟨b,off,rfl,hb,ht⟩:=h3 h4
 have hc:∀ o,w'.cell? ⟨b,o,none⟩=w.cell? ⟨b,o,none⟩:=fun o=>World.cell?_of_block (w:=w) (a:=⟨b,o,none⟩) (hk b (by omega))
 exact ⟨b,off,rfl,hb,fun j x hj=>⟨(hc _).trans (ht j x hj).1,(hc _).trans (ht j x hj).2.1,(hc _).trans (ht j x hj).2.2.1,(hc _).trans (ht j x hj).2.2.2.1,(hc _).trans (ht j x hj).2.2.2.2⟩⟩
theorem Rd.below {w w':World} {g i:Nat} {L:List Tk} {bad:Bool} (h:Rd w g L i bad) (hb:RowKit.Below w.heap.size w w'):Rd w' g L i bad:=h.low fun k hk=>hb.block k (by have:=h.lt;omega)
/-- What a call leaves of the reader. -/
def Rx (g:Nat) (L:List Tk) (i:Nat) (bad:Bool) (w w':World):Prop:=Rd w' g L i bad∧w.grownBy w' (some g)
theorem Rx.bel {g i:Nat} {L:List Tk} {bad:Bool} {w w1 w2:World} (h:Rx g L i bad w w1) (hb:RowKit.Below w1.heap.size w1 w2):Rx g L i bad w w2:=⟨h.1.below hb,h.2.trans (grown_bel hb _)⟩
theorem Rx.trans {g i j:Nat} {L:List Tk} {a b:Bool} {w w1 w2:World} (h:Rx g L i a w w1) (k:Rx g L j b w1 w2):Rx g L j b w w2:=⟨k.1,h.2.trans k.2⟩
theorem grown_set1 (w:World) (g o:Nat) (v:Value):w.grownBy (w.setCell ⟨g,o,none⟩ v) (some g):=⟨by simp [World.setCell],by simp [World.setCell],by simp [World.setCell],by simp [World.setCell],fun k _ hr=>Below.heap_setCell w ⟨g,o,none⟩ _ k (fun e=>hr (by rw [e]))⟩
theorem heap_set (w:World) (g o:Nat) (v:Value):(w.setCell ⟨g,o,none⟩ v).heap[g]? = (match w.heap[g]? with | some (.cells c T f)=>some (.cells (c.setIfInBounds o v) T f) | x=>x):=by
 unfold World.setCell
 simp only [Array.getElem?_modify,if_true]
 cases w.heap[g]? with
 | none=>rfl
 | some x=>cases x <;> rfl
theorem Rd.turn {w w':World} {g i i':Nat} {L:List Tk} {bad bad':Bool} (h:Rd w g L i bad) (hi:i'≤L.length) (hw:∀ q c,w.heap[g]? = some (.cells #[.slice q L.length c,.int .i64 i,.bool bad] 70 (0,0))→w'.heap[g]? = some (.cells #[.slice q L.length c,.int .i64 i',.bool bad'] 70 (0,0))) (hg:w.grownBy w' (some g)):Rx g L i' bad' w w':=by
 obtain ⟨q,c,h0,h1,h2,h3⟩:=h
 refine ⟨⟨q,c,hw q c h0,hi,h2,fun h4=>?_⟩,hg⟩
 obtain ⟨b,off,rfl,hb,ht⟩:=h3 h4
 have hlt:=(of3 h0).2.2.2.2
 have hc:∀ o,w'.cell? ⟨b,o,none⟩=w.cell? ⟨b,o,none⟩:=fun o=>hg.cell_far ⟨b,o,none⟩ (by show b < _;omega) (fun e=>by have e2:b=g:=(by simpa using e);omega)
 exact ⟨b,off,rfl,hb,fun j x hj=>⟨(hc _).trans (ht j x hj).1,(hc _).trans (ht j x hj).2.1,(hc _).trans (ht j x hj).2.2.1,(hc _).trans (ht j x hj).2.2.2.1,(hc _).trans (ht j x hj).2.2.2.2⟩⟩
theorem Rd.put1 {w:World} {g i i':Nat} {L:List Tk} {bad:Bool} (h:Rd w g L i bad) (hi:i'≤L.length):Rx g L i' bad w (w.setCell ⟨g,1,none⟩ (.int .i64 i')) :=
 h.turn hi (fun q c h0=>by rw [heap_set,h0];rfl) (grown_set1 _ _ _ _)
theorem Rd.put2 {w:World} {g i:Nat} {L:List Tk} {bad:Bool} (h:Rd w g L i bad) (b:Bool):Rx g L i b w (w.setCell ⟨g,2,none⟩ (.bool b)) :=
 h.turn (by obtain ⟨_,_,_,h1,_⟩:=h;exact h1) (fun q c h0=>by rw [heap_set,h0];rfl) (grown_set1 _ _ _ _)
theorem Rd.le {w:World} {g i:Nat} {L:List Tk} {bad:Bool} (h:Rd w g L i bad):i≤L.length∧L.length≤4096:=by obtain ⟨_,_,_,h1,h2,_⟩:=h;exact ⟨h1,h2⟩
def kdL:List Tk→Int
 | []=>0
 | t :: _=>t.1
/-- The cells of the reader, in every world that has grown. -/
theorem Rd.cells {w:World} {g i:Nat} {L:List Tk} {bad:Bool} (h:Rd w g L i bad):∃ q c,(∀ n os,(grow (redrawn w n) os).cell? ⟨g,0,none⟩=some (.slice q L.length c))∧(∀ n os,(grow (redrawn w n) os).cell? ⟨g,1,none⟩=some (.int .i64 i))∧(∀ n os,(grow (redrawn w n) os).cell? ⟨g,2,none⟩=some (.bool bad))∧w.cell? ⟨g,0,none⟩=some (.slice q L.length c)∧w.cell? ⟨g,1,none⟩=some (.int .i64 i)∧w.cell? ⟨g,2,none⟩=some (.bool bad)∧(∀ o,w.frozen? ⟨g,o,none⟩=false)∧L.length≤4096 ∧
  (∀ t r,L.drop i=t :: r→∃ b off,q=some ⟨b,off,none⟩∧i < L.length∧(∀ n os,(grow (redrawn w n) os).cell? ⟨b,off + i * 5,none⟩=some (.int .i64 t.1))∧(∀ n os,(grow (redrawn w n) os).cell? ⟨b,off + i * 5 + 4,none⟩=some (.string t.2.2.2.2))∧w.cell? ⟨b,off + i * 5,none⟩=some (.int .i64 t.1)∧w.cell? ⟨b,off + i * 5 + 1,none⟩=some (.int .i64 t.2.1)∧w.cell? ⟨b,off + i * 5 + 2,none⟩=some (.int .i64 t.2.2.1)∧w.cell? ⟨b,off + i * 5 + 3,none⟩=some (.int .i64 t.2.2.2.1)∧w.cell? ⟨b,off + i * 5 + 4,none⟩=some (.string t.2.2.2.2)∧b < w.heap.size∧b < g):=by
 obtain ⟨q,c,h0,h1,h2,h3⟩:=h
 obtain ⟨c0,c1,c2,hf,hlt⟩:=of3 h0
 refine ⟨q,c,cell_regrown c0,cell_regrown c1,cell_regrown c2,c0,c1,c2,hf,h2,fun t r hd=>?_⟩
 have hi:i < L.length:=by
  have:=congrArg List.length hd
  simp at this;omega
 have hx:L[i]? = some t:=by
  have:=congrArg (fun l=>l[0]?) hd
  simpa using this
 obtain ⟨b,off,rfl,hb,ht⟩:=h3 (by omega)
 have t0:=ht i t hx
 exact ⟨b,off,rfl,hi,cell_regrown t0.1,cell_regrown t0.2.2.2.2,t0.1,t0.2.1,t0.2.2.1,t0.2.2.2.1,t0.2.2.2.2,by omega,hb⟩
theorem drop_nil {L:List Tk} {i:Nat} (h:L.drop i=[]):¬ i < L.length:=by
 have:=congrArg List.length h
 simp at this;omega
/-- Is the next token this sign? -/
def isS (s:ByteArray) (bad:Bool) (l:List Tk):Bool:=!bad && (skL s l).isSome
set_option maxHeartbeats 2000000 in
theorem is_any (g:Nat) (L:List Tk) (i:Nat) (bad:Bool) (s:ByteArray) (w:World) (h:Rd w g L i bad) :
  Calls Tryz.prog 57 #[.pointer (some ⟨g,0,none⟩),.string s] w fun e w'=>e=.returned (.bool (isS s bad (L.drop i)))∧RowKit.Below w.heap.size w w':=by
 have mixed:Tryz.prog.follows .mixedOrders=true:=by kernel_rfl
 obtain ⟨q,c,k0,k1,k2,c0,c1,c2,hf,hl,ht⟩:=h.cells
 clear c0 c1 c2 hf h
 cases bad with
 | true =>
  have e1:isS s true (L.drop i)=false:=rfl
  rw [e1]
  clear ht e1
  go_enter Tryz.func57,Tryz.ntmps57
  go_wp2
  refine wp_region_quiet_below (by assumption) (by kernel_rfl) ?_
  repeat (go_big_quiet_step (fail))
  refine wpQuiet_nil ?_
  intro _ hw'
  obtain ⟨⟨dq,osq⟩,hw''⟩:=hw'
  subst hw''
  go_wp2
  go_ret
  exact ⟨rfl,below_regrown _ _ _⟩
 | false =>
  cases hd:L.drop i with
  | nil =>
   have e1:isS s false []=false:=rfl
   rw [e1]
   have h1:=drop_nil hd
   have b1:decide (i < L.length)=false:=decide_eq_false h1
   clear ht e1 hd h1
   go_enter Tryz.func57,Tryz.ntmps57
   go_wp2
   refine wp_region_quiet_below (by assumption) (by kernel_rfl) ?_
   repeat (go_big_quiet_step (fail))
   refine wpQuiet_nil ?_
   intro _ hw'
   obtain ⟨⟨dq,osq⟩,hw''⟩:=hw'
   subst hw''
   go_wp2
   go_ret
   exact ⟨rfl,below_regrown _ _ _⟩
  | cons t r =>
   obtain ⟨b,off,rfl,hi,t0,t4,_⟩:=ht t r hd
   have b0:(0:Int)≤(i:Int):=by omega
   have b1:(i:Int) < (L.length:Int):=by omega
   clear ht hd
   by_cases h4:t.1=4
   ·have b2:(t.1 == 4)=true:=by simp [h4]
    by_cases hs:t.2.2.2.2=s
    ·have e1:isS s false (t :: r)=true:=by simp [isS,skL,h4,hs]
     rw [e1]
     have b3:(t.2.2.2.2.toList == s.toList)=true:=by rw [hs];simp
     clear h4 hs e1
     go_enter Tryz.func57,Tryz.ntmps57
     go_wp2
     refine wp_region_quiet_below (by assumption) (by kernel_rfl) ?_
     repeat (go_big_quiet_step (fail))
     refine wpQuiet_nil ?_
     intro _ hw'
     obtain ⟨⟨dq,osq⟩,hw''⟩:=hw'
     subst hw''
     go_wp2
     go_ret
     exact ⟨rfl,below_regrown _ _ _⟩
    ·have e1:isS s false (t :: r)=false:=by simp [isS,skL,hs]
     rw [e1]
     have b3:=str_ne hs
     clear h4 hs e1
     go_enter Tryz.func57,Tryz.ntmps57
     go_wp2
     refine wp_region_quiet_below (by assumption) (by kernel_rfl) ?_
     repeat (go_big_quiet_step (fail))
     refine wpQuiet_nil ?_
     intro _ hw'
     obtain ⟨⟨dq,osq⟩,hw''⟩:=hw'
     subst hw''
     go_wp2
     go_ret
     exact ⟨rfl,below_regrown _ _ _⟩
   ·have e1:isS s false (t :: r)=false:=by simp [isS,skL,h4]
    rw [e1]
    have b2:(t.1 == 4)=false:=by simp [h4]
    clear h4 e1
    go_enter Tryz.func57,Tryz.ntmps57
    go_wp2
    refine wp_region_quiet_below (by assumption) (by kernel_rfl) ?_
    repeat (go_big_quiet_step (fail))
    refine wpQuiet_nil ?_
    intro _ hw'
    obtain ⟨⟨dq,osq⟩,hw''⟩:=hw'
    subst hw''
    go_wp2
    go_ret
    exact ⟨rfl,below_regrown _ _ _⟩
/-- The next token's kind. -/
def kdB (bad:Bool) (l:List Tk):Int:=if bad then 0 else kdL l
set_option maxHeartbeats 2000000 in
theorem kind_r (g:Nat) (L:List Tk) (i:Nat) (bad:Bool) (w:World) (h:Rd w g L i bad) :
  Calls Tryz.prog 124 #[.pointer (some ⟨g,0,none⟩)] w fun e w'=>e=.returned (.int .i64 (kdB bad (L.drop i)))∧RowKit.Below w.heap.size w w':=by
 have mixed:Tryz.prog.follows .mixedOrders=true:=by kernel_rfl
 obtain ⟨q,c,k0,k1,k2,c0,c1,c2,hf,hl,ht⟩:=h.cells
 clear c0 c1 c2 hf h
 cases bad with
 | true =>
  have e1:kdB true (L.drop i)=0:=rfl
  rw [e1]
  clear ht e1
  go_enter Tryz.func124,Tryz.ntmps124
  go_wp2
  refine wp_region_quiet_below (by assumption) (by kernel_rfl) ?_
  repeat (go_big_quiet_step (fail))
  refine wpQuiet_nil ?_
  intro _ hw'
  obtain ⟨⟨dq,osq⟩,hw''⟩:=hw'
  subst hw''
  go_wp2
  go_ret
  exact ⟨rfl,below_regrown _ _ _⟩
 | false =>
  cases hd:L.drop i with
  | nil =>
   have e1:kdB false []=0:=rfl
   rw [e1]
   have h1:=drop_nil hd
   have b1:decide (L.length≤i)=true:=decide_eq_true (by omega)
   clear ht e1 hd h1
   go_enter Tryz.func124,Tryz.ntmps124
   go_wp2
   refine wp_region_quiet_below (by assumption) (by kernel_rfl) ?_
   repeat (go_big_quiet_step (fail))
   refine wpQuiet_nil ?_
   intro _ hw'
   obtain ⟨⟨dq,osq⟩,hw''⟩:=hw'
   subst hw''
   go_wp2
   go_ret
   exact ⟨rfl,below_regrown _ _ _⟩
  | cons t r =>
   obtain ⟨b,off,rfl,hi,t0,t4,_⟩:=ht t r hd
   have e1:kdB false (t :: r)=t.1:=rfl
   rw [e1]
   have b0:(0:Int)≤(i:Int):=by omega
   have b1:(i:Int) < (L.length:Int):=by omega
   have b2:decide (L.length≤i)=false:=decide_eq_false (by omega)
   clear ht hd e1
   go_enter Tryz.func124,Tryz.ntmps124
   go_wp2
   refine wp_region_quiet_below (by assumption) (by kernel_rfl) ?_
   repeat (go_big_quiet_step (fail))
   refine wpQuiet_nil ?_
   intro _ hw'
   obtain ⟨⟨dq,osq⟩,hw''⟩:=hw'
   subst hw''
   go_wp2
   have hbX:=below_regrown w dq osq
   have x0:=k0 dq osq
   have x1:=k1 dq osq
   have x3:=t0 dq osq
   obtain ⟨X,HX⟩:∃ X,grow (redrawn w dq) osq=X:=⟨_,rfl⟩
   rw [HX] at hbX x0 x1 x3
   rw [HX]
   have j0:∀ n os,(grow (redrawn X n) os).cell? ⟨g,0,none⟩=some _:=cell_regrown x0
   have j1:∀ n os,(grow (redrawn X n) os).cell? ⟨g,1,none⟩=some _:=cell_regrown x1
   have j3:∀ n os,(grow (redrawn X n) os).cell? ⟨b,off + i * 5,none⟩=some _:=cell_regrown x3
   have HB:=hide hbX
   clear hbX x0 x1 x3 HX k0 k1 k2 t0 t4
   refine wp_region_quiet_below (by assumption) (by kernel_rfl) ?_
   repeat (go_big_quiet_step (fail))
   refine wpQuiet_nil ?_
   intro _ hw'
   obtain ⟨⟨dr,osr⟩,hw''⟩:=hw'
   subst hw''
   go_wp2
   go_ret
   exact ⟨rfl,below_sub (uh HB) (below_regrown _ _ _)⟩
set_option maxHeartbeats 2000000 in
theorem sgn_yes (g:Nat) (L:List Tk) (i:Nat) (s:ByteArray) (r:List Tk) (w:World) (h:Rd w g L i false) (hs:skL s (L.drop i)=some r) :
  Calls Tryz.prog 100 #[.pointer (some ⟨g,0,none⟩),.string s] w fun e w'=>e=.returned (.tuple #[])∧Rx g L (i + 1) false w w':=by
 have hc:=is_any g L i false s w h
 have e1:isS s false (L.drop i)=true:=by simp [isS,hs]
 rw [e1] at hc
 have hle:=h.le
 have hl:=skL_len hs
 have hi:i + 1≤L.length:=by simp at hl;omega
 have H:=hide h
 have a0:(i:Int)≤4096:=by omega
 clear hs e1 h hl hle
 go_enter Tryz.func100,Tryz.ntmps100
 go_wp2_with (go_at_call 57;refine hc.mono ?_;rintro e w1 ⟨rfl,hb⟩;have H1:=hide ((uh H).below hb);obtain ⟨q,c,_,_,_,_,c1,_,hf,_⟩:=(uh H1).cells;have HB:=hide hb;clear hb)
 exact ⟨rfl,.tuple #[],by simp [results,Tryz.results100,go_sem],rfl,Rx.trans ⟨uh H1,grown_bel (uh HB) _⟩ ((uh H1).put1 (i':=i + 1) hi)⟩
theorem sgn_no (g:Nat) (L:List Tk) (i:Nat) (bad:Bool) (s:ByteArray) (w:World) (h:Rd w g L i bad) (hs:isS s bad (L.drop i)=false) :
  Calls Tryz.prog 100 #[.pointer (some ⟨g,0,none⟩),.string s] w fun e w'=>e=.returned (.tuple #[])∧Rx g L i true w w':=by
 have hc:=is_any g L i bad s w h
 rw [hs] at hc
 have H:=hide h
 clear hs h
 go_enter Tryz.func100,Tryz.ntmps100
 go_wp2_with (go_at_call 57;refine hc.mono ?_;rintro e w1 ⟨rfl,hb⟩;have H1:=hide ((uh H).below hb);obtain ⟨q,c,_,_,_,_,_,c2,hf,_⟩:=(uh H1).cells;have HB:=hide hb;clear hb)
 exact ⟨rfl,.tuple #[],by simp [results,Tryz.results100,go_sem],rfl,Rx.trans ⟨uh H1,grown_bel (uh HB) _⟩ ((uh H1).put2 true)⟩
end Go.Proofs.YtencibjmiphinaaGreatDoor
namespace Go.Proofs.YtencibjmiphinaaGreatDoor
open Go.RowKit Go.Sort

def zTk:Tk:=(0,0,0,0,⟨#[]⟩)
theorem of5 {w:World} {M:Nat} {a0 a1 a2 a3 a4:Value} {T:TypeId} (h:w.heap[M]? = some (.cells #[a0,a1,a2,a3,a4] T (0,0))):w.cell? ⟨M,0,none⟩=some a0∧w.cell? ⟨M,1,none⟩=some a1∧w.cell? ⟨M,2,none⟩=some a2∧w.cell? ⟨M,3,none⟩=some a3∧w.cell? ⟨M,4,none⟩=some a4∧(∀ o,w.frozen? ⟨M,o,none⟩=false)∧M < w.heap.size:=by
 refine ⟨by unfold World.cell?;simp [h],by unfold World.cell?;simp [h],by unfold World.cell?;simp [h],by unfold World.cell?;simp [h],by unfold World.cell?;simp [h],fun o=>by unfold World.frozen?;simp [h],(Array.getElem?_eq_some_iff.1 h).1⟩
theorem set5_low {M:Nat} (w:World) (a0 a1 a2 a3 a4:Value):RowKit.Below M w (((((w.setCell ⟨M,0,none⟩ a0).setCell ⟨M,1,none⟩ a1).setCell ⟨M,2,none⟩ a2).setCell ⟨M,3,none⟩ a3).setCell ⟨M,4,none⟩ a4) :=
 (((((RowKit.Below.refl _ _).setCell (Nat.le_refl M) _).setCell (Nat.le_refl M) _).setCell (Nat.le_refl M) _).setCell (Nat.le_refl M) _).setCell (Nat.le_refl M) _
theorem Rx.lowr {g i M:Nat} {L:List Tk} {bad:Bool} {w w1 w2:World} (h:Rx g L i bad w w1) (hb:RowKit.Below M w1 w2) (hw:w.heap.size≤M) (hg:g < M):Rx g L i bad w w2 :=
 ⟨h.1.low fun k hk=>hb.block k (by omega),⟨hb.os.trans h.2.os,hb.tape.trans h.2.tape,hb.output.trans h.2.output,Nat.le_trans h.2.size hb.size,fun k hk hr=>(hb.block k (by omega)).trans (h.2.block k hk hr)⟩⟩
theorem blk_far2 {w w':World} {g b:Nat} {o:Obj} (h:w.heap[b]? = some o) (hg:w.grownBy w' (some g)) (hne:b ≠ g):w'.heap[b]? = some o:=(hg.block b (Array.getElem?_eq_some_iff.1 h).1 (fun e=>hne (by simpa using e))).trans h
theorem wrapR (x:Int) (h0:0≤x) (h1:x≤10000000000):IntKind.i64.wrap x=x:=by
 have e:(2:Int) ^ IntKind.i64.bits=18446744073709551616:=by decide
 have e2:(2:Int) ^ (IntKind.i64.bits - 1)=9223372036854775808:=by decide
 simp [IntKind.wrap,e,e2]
 omega
theorem bel_t (w:World):RowKit.Below w.heap.size w (w.alloc (.cells #[.int .i64 0,.int .i64 0,.int .i64 0,.int .i64 0,.string ⟨#[]⟩] 56)):=(RowKit.Below.refl _ _).alloc (Nat.le_refl _) _
set_option maxHeartbeats 2000000 in
theorem take_no (g:Nat) (L:List Tk) (i:Nat) (bad:Bool) (k:Int) (w:World) (h:Rd w g L i bad) (hk:¬ kdB bad (L.drop i)=k) :
  Calls Tryz.prog 123 #[.pointer (some ⟨g,0,none⟩),.int .i64 k] w fun e w'=>e=.returned (tkV zTk)∧Rx g L i true w w':=by
 have hc:=kind_r g L i bad _ (h.below (bel_t w))
 have hg:=h.lt
 obtain ⟨m,hm⟩:∃ m,kdB bad (L.drop i)=m:=⟨_,rfl⟩
 rw [hm] at hc hk
 have b1:(m == k)=false:=by simp [hk]
 have H:=hide (h.below (bel_t w))
 clear hm h hk
 go_enter Tryz.func123,Tryz.ntmps123
 go_wp2_with (go_at_call 124;refine hc.mono ?_;rintro e w1 ⟨rfl,hb⟩;have H1:=hide ((uh H).below hb);obtain ⟨q,c,_,_,_,_,_,c2,hf,_⟩:=(uh H1).cells;have hx:=(hb.block w.heap.size (by simp)).trans (box_nw w (.cells #[.int .i64 0,.int .i64 0,.int .i64 0,.int .i64 0,.string ⟨#[]⟩] 56));obtain ⟨y0,y1,y2,y3,y4,yf,yl⟩:=of5 hx;have HB:=hide hb;clear hb hx)
 refine bodyPost_ret (v:=tkV zTk) (by simp [results,Tryz.results123,go_sem,tkV,zTk, *]) rfl ⟨rfl, ?_⟩
 have r1:Rx g L i true w (w1.setCell ⟨g,2,none⟩ (.bool true)):=Rx.trans ⟨uh H1,grown_bel (below_sub (bel_t w) (uh HB)) _⟩ ((uh H1).put2 true)
 exact r1.lowr (set5_low _ _ _ _ _ _) (Nat.le_refl _) hg
set_option maxHeartbeats 2000000 in
theorem take_yes (g:Nat) (L:List Tk) (i:Nat) (k:Int) (t:Tk) (r:List Tk) (w:World) (h:Rd w g L i false) (hd:L.drop i=t :: r) (hk:t.1=k) :
  Calls Tryz.prog 123 #[.pointer (some ⟨g,0,none⟩),.int .i64 k] w fun e w'=>e=.returned (tkV t)∧Rx g L (i + 1) false w w':=by
 have hc:=kind_r g L i false _ (h.below (bel_t w))
 have hg:=h.lt
 have hm:kdB false (L.drop i)=k:=by rw [hd];exact hk
 rw [hm] at hc
 have hle:=h.le
 have hi:i + 1≤L.length:=by
  have:=congrArg List.length hd
  simp at this;omega
 have H:=hide (h.below (bel_t w))
 have HD:=hide hd
 have a0:(i:Int)≤4096:=by omega
 clear hm h hk hd
 go_enter Tryz.func123,Tryz.ntmps123
 go_wp2_with (go_at_call 124;refine hc.mono ?_;rintro e w1 ⟨rfl,hb⟩;have H1:=hide ((uh H).below hb);obtain ⟨q,c,_,_,_,c0,c1,c2,hf,_⟩:=(uh H1).cells;have hx:=(hb.block w.heap.size (by simp)).trans (box_nw w (.cells #[.int .i64 0,.int .i64 0,.int .i64 0,.int .i64 0,.string ⟨#[]⟩] 56));have HX:=hide hx;have HB:=hide hb;clear hb hx)
 have ec:((i + 1:Nat):Int)=(i:Int) + 1:=by omega
 have r1:Rx g L (i + 1) false w (w1.setCell ⟨g,1,none⟩ (.int .i64 (i + 1:Nat))):=Rx.trans ⟨uh H1,grown_bel (below_sub (bel_t w) (uh HB)) _⟩ ((uh H1).put1 (i':=i + 1) hi)
 have g1:w1.grownBy (w1.setCell ⟨g,1,none⟩ (.int .i64 (i + 1:Nat))) (some g):=grown_set1 _ _ _ _
 rw [ec] at r1 g1
 obtain ⟨q2,cc2,_,_,_,d0,_,_,_,_,htk⟩:=(uh H1).cells
 obtain ⟨b,off,hq2,_,_,_,s0,s1,s2,s3,s4,hbl,hbg⟩:=htk t r (uh HD)
 have c01:=hg
 have hbn:b ≠ g:=by omega
 subst hq2
 have x0:(w1.setCell ⟨g,1,none⟩ (.int .i64 ((i:Int) + 1))).cell? ⟨g,0,none⟩=some (.slice (some ⟨b,off,none⟩) L.length cc2):=by clear c0;go_simp
 have x1:(w1.setCell ⟨g,1,none⟩ (.int .i64 ((i:Int) + 1))).cell? ⟨g,1,none⟩=some (.int .i64 ((i:Int) + 1)):=by go_simp
 obtain ⟨X,EX⟩:∃ X,w1.setCell ⟨g,1,none⟩ (.int .i64 ((i:Int) + 1))=X:=⟨_,rfl⟩
 have fX:∀ o,X.cell? ⟨b,o,none⟩=w1.cell? ⟨b,o,none⟩:=fun o=>by rw [← EX];exact g1.cell_far ⟨b,o,none⟩ hbl (fun e=>hbn (by simpa using e))
 have hx:=blk_far2 (uh HX) g1 (by omega)
 rw [EX] at r1 x0 x1 hx
 rw [EX]
 obtain ⟨y0,y1,y2,y3,y4,yf,yl⟩:=of5 hx
 have z0:=(fX _).trans s0
 have z1:=(fX _).trans s1
 have z2:=(fX _).trans s2
 have z3:=(fX _).trans s3
 have z4:=(fX _).trans s4
 have R1:=hide r1
 have b0:(0:Int)≤(i:Int):=by omega
 have b1:(i:Int) < (L.length:Int):=by omega
 have n1:¬ b=w.heap.size:=by omega
 have n2:¬ g=w.heap.size:=by omega
 have n3:¬ w.heap.size=b:=by omega
 have n4:¬ w.heap.size=g:=by omega
 have sb:IntKind.i64.wrap (i:Int)=(i:Int):=wrapR _ (by omega) (by omega)
 clear EX fX hx g1 s0 s1 s2 s3 s4 d0 c0 c1 c2 hf ec htk r1 H1 HX hc HD
 go_region_held3 (fun W=>W.cell? ⟨g,0,none⟩=some (.slice (some ⟨b,off,none⟩) L.length cc2)∧W.cell? ⟨g,1,none⟩=some (.int .i64 ((i:Int) + 1))∧W.cell? ⟨b,off + i * 5,none⟩=some (.int .i64 t.1)∧W.cell? ⟨b,off + i * 5 + 1,none⟩=some (.int .i64 t.2.1)∧W.cell? ⟨b,off + i * 5 + 2,none⟩=some (.int .i64 t.2.2.1)∧W.cell? ⟨b,off + i * 5 + 3,none⟩=some (.int .i64 t.2.2.2.1)∧W.cell? ⟨b,off + i * 5 + 4,none⟩=some (.string t.2.2.2.2)) (go_keep) (fail)
 all_goals
  go_wp2
  refine bodyPost_ret (v:=tkV t) (by simp [results,Tryz.results123,go_sem,tkV, *]) rfl ⟨rfl, ?_⟩
  exact (uh R1).lowr (set5_low _ _ _ _ _ _).drew (Nat.le_refl _) hg
end Go.Proofs.YtencibjmiphinaaGreatDoor

/- What the helpers that look at copies return: a copy is as the list is. -/
import Derived.Test.YtikhopiegaoacacDZad
import Derived.Test.YtikhopiegaoacacDPred
namespace Go.Proofs.Ytikhopiegaoacac
open Go.RowKit Go.Sort

set_option maxRecDepth 100000 in
set_option maxHeartbeats 2000000 in
theorem memEqI (q:Option Addr) (c:Nat) (l:List Int) (q':Option Addr) (c':Nat) (m:List Int) (w:World) (h1:SlOf encI 1 w q c l) (h2:SlOf encI 1 w q' c' m) (hl:l.length≤100000000000000) :
  Calls Try.prog 47 #[.slice q l.length c,.slice q' m.length c'] w fun e w'=>e=.returned (.bool (decide (l=m)))∧Below w.heap.size w w':=by
 by_cases hlm:l.length=m.length
 ·rw [← hlm]
  have H1:=hide h1
  have H2:=hide h2
  have hnn:((l.length:Int) != (l.length:Int))=false:=by simp
  have a0:(l.length:Int)≤100000000000000:=by omega
  have HLM:=hide hlm
  clear h1 h2 hlm
  go_enter Try.func47,Try.ntmps47
  go_wp2
  go_loopw [13] (fun i wr=>∃ k:Nat,k≤l.length∧i=.int .i64 k∧l.take k=m.take k∧Below w.heap.size w wr) (fun i _=>l.length - (intOf i).toNat)
  case atStart=>exact ⟨0,by omega,rfl,rfl,Below.refl _ _⟩
  case round =>
   obtain ⟨k,hk,rfl,hpre,hbel⟩:=hrel
   have HB:=hide hbel
   have HP:=hide hpre
   by_cases hlt:k < l.length
   ·obtain ⟨x,hx,_⟩:=get_at hlt
    obtain ⟨y,hy,_⟩:=get_at (l:=m) (k:=k) (by have:=uh HLM;omega)
    obtain ⟨b,off,hq,_,g1⟩:=intsAt ((uh H1).below hbel) hx
    obtain ⟨b',off',hq',_,g2⟩:=intsAt ((uh H2).below hbel) hy
    subst hq
    subst hq'
    have ki0:(0:Int)≤(k:Int):=by omega
    have ki1:(k:Int) < (l.length:Int):=by omega
    by_cases hxy:x=y
    ·subst hxy
     have HN:=hide (pre_snoc hpre hx hy)
     clear hx hy hbel hpre
     go_wp2
     go_region_held3 (fun w'=>w'.cell? ⟨b,off + k,none⟩=some (.int .i64 x)∧w'.cell? ⟨b',off' + k,none⟩=some (.int .i64 x)) (go_keep) (fail)
     all_goals
      go_wp2
      go_roundw
      case rel=>exact ⟨k + 1,by omega,by go_num,uh HN,(uh HB).drew⟩
      case measure=>simp [intOf];omega
    ·have HN:=hide (pre_ne hx hy hxy)
     have hne:(x != y)=true:=by simpa using hxy
     clear hx hy hbel hpre
     go_wp2
     go_region_held3 (fun w'=>w'.cell? ⟨b,off + k,none⟩=some (.int .i64 x)∧w'.cell? ⟨b',off' + k,none⟩=some (.int .i64 y)) (go_keep) (fail)
     all_goals
      go_wp2
      go_ret
      exact ⟨ret_bool (by simp [uh HN]),(uh HB).drew⟩
   ·have ki1:¬ (k:Int) < (l.length:Int):=by omega
    have HN:=hide (show l=m by rw [← List.take_of_length_le (l:=l) (i:=k) (by omega),hpre,List.take_of_length_le (by have:=uh HLM;omega)])
    clear hpre
    go_wp2
    go_ret
    exact ⟨ret_bool (by simp [uh HN]),uh HB⟩
 ·have hnn:((l.length:Int) != (m.length:Int))=true:=by rw [bne_iff_ne];omega
  have HN:=hide (show l ≠ m from fun e=>hlm (by rw [e]))
  clear h1 h2
  go_enter Try.func47,Try.ntmps47
  go_wp2
  go_ret
  exact ⟨ret_bool (by simp [uh HN]),Below.refl _ _⟩
set_option maxRecDepth 100000 in
set_option maxHeartbeats 2000000 in
theorem memEqS (q:Option Addr) (c:Nat) (l:List ByteArray) (q':Option Addr) (c':Nat) (m:List ByteArray) (w:World) (h1:SlOf encS 1 w q c l) (h2:SlOf encS 1 w q' c' m) (hl:l.length≤100000000000000) :
  Calls Try.prog 48 #[.slice q l.length c,.slice q' m.length c'] w fun e w'=>e=.returned (.bool (decide (l=m)))∧Below w.heap.size w w':=by
 by_cases hlm:l.length=m.length
 ·rw [← hlm]
  have H1:=hide h1
  have H2:=hide h2
  have hnn:((l.length:Int) != (l.length:Int))=false:=by simp
  have a0:(l.length:Int)≤100000000000000:=by omega
  have HLM:=hide hlm
  clear h1 h2 hlm
  go_enter Try.func48,Try.ntmps48
  go_wp2
  go_loopw [13] (fun i wr=>∃ k:Nat,k≤l.length∧i=.int .i64 k∧l.take k=m.take k∧Below w.heap.size w wr) (fun i _=>l.length - (intOf i).toNat)
  case atStart=>exact ⟨0,by omega,rfl,rfl,Below.refl _ _⟩
  case round =>
   obtain ⟨k,hk,rfl,hpre,hbel⟩:=hrel
   have HB:=hide hbel
   have HP:=hide hpre
   by_cases hlt:k < l.length
   ·obtain ⟨x,hx,_⟩:=get_at hlt
    obtain ⟨y,hy,_⟩:=get_at (l:=m) (k:=k) (by have:=uh HLM;omega)
    obtain ⟨b,off,hq,_,g1⟩:=wordsAt ((uh H1).below hbel) hx
    obtain ⟨b',off',hq',_,g2⟩:=wordsAt ((uh H2).below hbel) hy
    subst hq
    subst hq'
    have ki0:(0:Int)≤(k:Int):=by omega
    have ki1:(k:Int) < (l.length:Int):=by omega
    by_cases hxy:x=y
    ·subst hxy
     have HN:=hide (pre_snoc hpre hx hy)
     clear hx hy hbel hpre
     go_wp2
     go_region_held3 (fun w'=>w'.cell? ⟨b,off + k,none⟩=some (.string x)∧w'.cell? ⟨b',off' + k,none⟩=some (.string x)) (go_keep) (fail)
     all_goals
      go_wp2
      go_roundw
      case rel=>exact ⟨k + 1,by omega,by go_num,uh HN,(uh HB).drew⟩
      case measure=>simp [intOf];omega
    ·have HN:=hide (pre_ne hx hy hxy)
     have hne:(x.toList == y.toList)=false:=toList_ne hxy
     clear hx hy hbel hpre
     go_wp2
     go_region_held3 (fun w'=>w'.cell? ⟨b,off + k,none⟩=some (.string x)∧w'.cell? ⟨b',off' + k,none⟩=some (.string y)) (go_keep) (fail)
     all_goals
      go_wp2
      go_ret
      exact ⟨ret_bool (by simp [uh HN]),(uh HB).drew⟩
   ·have ki1:¬ (k:Int) < (l.length:Int):=by omega
    have HN:=hide (show l=m by rw [← List.take_of_length_le (l:=l) (i:=k) (by omega),hpre,List.take_of_length_le (by have:=uh HLM;omega)])
    clear hpre
    go_wp2
    go_ret
    exact ⟨ret_bool (by simp [uh HN]),uh HB⟩
 ·have hnn:((l.length:Int) != (m.length:Int))=true:=by rw [bne_iff_ne];omega
  have HN:=hide (show l ≠ m from fun e=>hlm (by rw [e]))
  clear h1 h2
  go_enter Try.func48,Try.ntmps48
  go_wp2
  go_ret
  exact ⟨ret_bool (by simp [uh HN]),Below.refl _ _⟩
set_option maxHeartbeats 1000000 in
set_option maxRecDepth 100000 in
theorem keptI (g cp:Nat) (q':Option Addr) (c':Nat) (l:List Int) (w:World) (hl:l.length≤100000000000000) (hN:LsOf encI 1 w (some ⟨g,0,none⟩) (l ++ spI)) (hc:l.length + 2≤cp) (hcm:cp≤maxLen) (hA':SlOf encI 1 w q' c' l) :
  Calls Try.prog 49 #[.slice (some ⟨g,0,none⟩) l.length cp,.slice q' l.length c'] w fun e w'=>e=.returned (.bool true)∧Below w.heap.size w w':=by
 have l0:(0:Int)≤(l.length:Int):=by omega
 have l1:(0:Int)≤(l.length:Int) + 2:=by omega
 have l2:(l.length:Int) + 2≤(cp:Int):=by omega
 have l3:(l.length:Int) < (l.length:Int) + 2:=by omega
 have l4:(l.length:Int) + 1 < (l.length:Int) + 2:=by omega
 have l5:(0:Int)≤(l.length:Int) + 1:=by omega
 have l6:(l.length:Int)≤100000000000000:=by omega
 obtain ⟨b,off,hb,hlt,hAt⟩:=hN (by simp [spI])
 cases hb
 have c0:w.cell? ⟨g,l.length,none⟩=some (.int .i64 (-77)):=by
  have:=hAt _ _ (flat_at (enc:=encI) (k:=1) (l:=l ++ spI) (j:=l.length) (x:=-77) (by simp [spI]) 0 (by omega))
  simpa [encI] using this
 have c1:w.cell? ⟨g,l.length + 1,none⟩=some (.int .i64 (-78)):=by
  have:=hAt _ _ (flat_at (enc:=encI) (k:=1) (l:=l ++ spI) (j:=l.length + 1) (x:=-78) (by simp [spI]) 0 (by omega))
  simpa [encI] using this
 have hAl:SlOf encI 1 w (some ⟨g,0,none⟩) cp l:=⟨(fun h=>by cases h),by omega,hcm,hN.take (by decide)⟩
 have hsame:=memEqI (some ⟨g,0,none⟩) cp l q' c' l w hAl hA' hl
 rw [decide_eq_true rfl] at hsame
 have hnn:((l.length:Int) != (l.length:Int))=false:=by simp
 clear hN hA' hAl hAt
 go_enter Try.func49,Try.ntmps49
 go_wp2_with (go_at_call 47;refine hsame.mono ?_;rintro e w1 ⟨rfl,b1⟩)
 go_ret
 exact ⟨rfl,b1⟩
set_option maxHeartbeats 1000000 in
set_option maxRecDepth 100000 in
theorem keptS (g cp:Nat) (q':Option Addr) (c':Nat) (l:List ByteArray) (w:World) (hl:l.length≤100000000000000) (hN:LsOf encS 1 w (some ⟨g,0,none⟩) (l ++ spS)) (hc:l.length + 2≤cp) (hcm:cp≤maxLen) (hA':SlOf encS 1 w q' c' l) :
  Calls Try.prog 50 #[.slice (some ⟨g,0,none⟩) l.length cp,.slice q' l.length c'] w fun e w'=>e=.returned (.bool true)∧Below w.heap.size w w':=by
 have l0:(0:Int)≤(l.length:Int):=by omega
 have l1:(0:Int)≤(l.length:Int) + 2:=by omega
 have l2:(l.length:Int) + 2≤(cp:Int):=by omega
 have l3:(l.length:Int) < (l.length:Int) + 2:=by omega
 have l4:(l.length:Int) + 1 < (l.length:Int) + 2:=by omega
 have l5:(0:Int)≤(l.length:Int) + 1:=by omega
 have l6:(l.length:Int)≤100000000000000:=by omega
 obtain ⟨b,off,hb,hlt,hAt⟩:=hN (by simp [spS])
 cases hb
 have c0:w.cell? ⟨g,l.length,none⟩=some (.string (⟨#[115,112,97,114,101]⟩)):=by
  have:=hAt _ _ (flat_at (enc:=encS) (k:=1) (l:=l ++ spS) (j:=l.length) (x:=⟨#[115,112,97,114,101]⟩) (by simp [spS]) 0 (by omega))
  simpa [encS] using this
 have c1:w.cell? ⟨g,l.length + 1,none⟩=some (.string (⟨#[114,111,111,109]⟩)):=by
  have:=hAt _ _ (flat_at (enc:=encS) (k:=1) (l:=l ++ spS) (j:=l.length + 1) (x:=⟨#[114,111,111,109]⟩) (by simp [spS]) 0 (by omega))
  simpa [encS] using this
 have hAl:SlOf encS 1 w (some ⟨g,0,none⟩) cp l:=⟨(fun h=>by cases h),by omega,hcm,hN.take (by decide)⟩
 have hsame:=memEqS (some ⟨g,0,none⟩) cp l q' c' l w hAl hA' hl
 rw [decide_eq_true rfl] at hsame
 have hnn:((l.length:Int) != (l.length:Int))=false:=by simp
 clear hN hA' hAl hAt
 go_enter Try.func50,Try.ntmps50
 go_wp2_with (go_at_call 48;refine hsame.mono ?_;rintro e w1 ⟨rfl,b1⟩)
 go_ret
 exact ⟨rfl,b1⟩
theorem of6' {w:World} {N:Nat} {a0 a1 a2 a3 a4 a5:Value} {T:TypeId} (h:w.heap[N]? = some (.cells #[a0,a1,a2,a3,a4,a5] T (0,0))):w.cell? ⟨N,0,none⟩=some a0∧w.cell? ⟨N,1,none⟩=some a1∧w.cell? ⟨N,2,none⟩=some a2∧w.cell? ⟨N,3,none⟩=some a3∧w.cell? ⟨N,4,none⟩=some a4∧w.cell? ⟨N,5,none⟩=some a5:=by
 refine ⟨?_, ?_, ?_, ?_, ?_, ?_⟩ <;> (unfold World.cell?;simp [h])
set_option maxHeartbeats 4000000 in
set_option maxRecDepth 100000 in
theorem samePred_eq (kind:Int) (attr:ByteArray) (ints:List Int) (words:List ByteArray) (lo hi:Int) (qi:Option Addr) (ci:Nat) (qw:Option Addr) (cw:Nat) (qi':Option Addr) (ci':Nat) (qw':Option Addr) (cw':Nat) (w:World) (s1:SlOf encI 1 w qi ci ints) (s2:SlOf encI 1 w qi' ci' ints) (t1:SlOf encS 1 w qw cw words) (t2:SlOf encS 1 w qw' cw' words) (m1:ints.length≤100000000000000) (m2:words.length≤100000000000000) :
  Calls Try.prog 27 #[.agg #[.int .i64 kind,.string attr,.slice qi ints.length ci,.slice qw words.length cw,.int .i64 lo,.int .i64 hi],.agg #[.int .i64 kind,.string attr,.slice qi' ints.length ci',.slice qw' words.length cw',.int .i64 lo,.int .i64 hi]] w fun e w'=>e=.returned (.bool true)∧Below w.heap.size w w':=by
 obtain ⟨X,HX⟩:∃ X,(w.alloc (.cells #[.int .i64 kind,.string attr,.slice qi ints.length ci,.slice qw words.length cw,.int .i64 lo,.int .i64 hi] 25)).alloc (.cells #[.int .i64 kind,.string attr,.slice qi' ints.length ci',.slice qw' words.length cw',.int .i64 lo,.int .i64 hi] 25)=X:=⟨_,rfl⟩
 have hXs:X.heap.size=w.heap.size + 2:=by rw [← HX];simp
 have hwX:Below w.heap.size w X:=by rw [← HX];exact ((Below.refl _ _).alloc (Nat.le_refl _) _).alloc (by simp) _
 have hX0:X.heap[w.heap.size]? = some (.cells #[.int .i64 kind,.string attr,.slice qi ints.length ci,.slice qw words.length cw,.int .i64 lo,.int .i64 hi] 25 (0,0)):=by rw [← HX,Below.heap_alloc _ _ _ (by simp)];exact box_nw _ _
 have hX1:X.heap[w.heap.size + 1]? = some (.cells #[.int .i64 kind,.string attr,.slice qi' ints.length ci',.slice qw' words.length cw',.int .i64 lo,.int .i64 hi] 25 (0,0)):=by rw [← HX,show w.heap.size + 1=(w.alloc (.cells #[.int .i64 kind,.string attr,.slice qi ints.length ci,.slice qw words.length cw,.int .i64 lo,.int .i64 hi] 25)).heap.size by simp];exact box_nw _ _
 obtain ⟨x0,x1,x2,x3,x4,x5⟩:=of6' hX0
 obtain ⟨y0,y1,y2,y3,y4,y5⟩:=of6' hX1
 have HX0:=hide hX0
 have HX1:=hide hX1
 have HWX:=hide hwX
 have c1:=memEqI qi ci ints qi' ci' ints X (s1.below hwX) (s2.below hwX) m1
 have c2:=fun w' (hb:Below w.heap.size w w')=>memEqS qw cw words qw' cw' words w' (t1.below hb) (t2.below hb) m2
 rw [decide_eq_true rfl] at c1 c2
 clear s1 s2 t1 t2 hwX hX0 hX1
 go_enter Try.func27,Try.ntmps27
 go_wp2_with (first
  | (go_at_call 47;refine c1.mono ?_;rintro e u1 ⟨rfl,b1⟩;obtain ⟨d0,d1,d2,d3,d4,d5⟩:=of6' ((b1.block _ (by omega)).trans (uh HX0));obtain ⟨e0,e1,e2,e3,e4,e5⟩:=of6' ((b1.block _ (by omega)).trans (uh HX1));have B1:=hide b1;clear b1)
  | (go_at_call 48;refine (c2 _ (by exact below_sub (uh HWX) (uh B1))).mono ?_;rintro e u2 ⟨rfl,b2⟩;have B2:=hide (below_sub (uh B1) b2);clear b2))
 go_ret
 exact ⟨rfl,below_sub (uh HWX) (uh B2)⟩
set_option maxHeartbeats 4000000 in
set_option maxRecDepth 100000 in
theorem keptPred_any (kind:Int) (attr:ByteArray) (ints:List Int) (words:List ByteArray) (lo hi:Int) (g1 k1 g2 k2:Nat) (qi':Option Addr) (ci':Nat) (qw':Option Addr) (cw':Nat) (w:World) (s1:LsOf encI 1 w (some ⟨g1,0,none⟩) (ints ++ spI)) (r1:ints.length + 2≤k1) (z1:k1≤maxLen) (s2:SlOf encI 1 w qi' ci' ints) (t1:LsOf encS 1 w (some ⟨g2,0,none⟩) (words ++ spS)) (r2:words.length + 2≤k2) (z2:k2≤maxLen) (t2:SlOf encS 1 w qw' cw' words) (m1:ints.length≤100000000000000) (m2:words.length≤100000000000000) :
  Calls Try.prog 28 #[.agg #[.int .i64 kind,.string attr,.slice (some ⟨g1,0,none⟩) ints.length k1,.slice (some ⟨g2,0,none⟩) words.length k2,.int .i64 lo,.int .i64 hi],.agg #[.int .i64 kind,.string attr,.slice qi' ints.length ci',.slice qw' words.length cw',.int .i64 lo,.int .i64 hi]] w fun e w'=>e=.returned (.bool true)∧Below w.heap.size w w':=by
 obtain ⟨X,HX⟩:∃ X,(w.alloc (.cells #[.int .i64 kind,.string attr,.slice (some ⟨g1,0,none⟩) ints.length k1,.slice (some ⟨g2,0,none⟩) words.length k2,.int .i64 lo,.int .i64 hi] 25)).alloc (.cells #[.int .i64 kind,.string attr,.slice qi' ints.length ci',.slice qw' words.length cw',.int .i64 lo,.int .i64 hi] 25)=X:=⟨_,rfl⟩
 have hXs:X.heap.size=w.heap.size + 2:=by rw [← HX];simp
 have hwX:Below w.heap.size w X:=by rw [← HX];exact ((Below.refl _ _).alloc (Nat.le_refl _) _).alloc (by simp) _
 have hX0:X.heap[w.heap.size]? = some (.cells #[.int .i64 kind,.string attr,.slice (some ⟨g1,0,none⟩) ints.length k1,.slice (some ⟨g2,0,none⟩) words.length k2,.int .i64 lo,.int .i64 hi] 25 (0,0)):=by rw [← HX,Below.heap_alloc _ _ _ (by simp)];exact box_nw _ _
 have hX1:X.heap[w.heap.size + 1]? = some (.cells #[.int .i64 kind,.string attr,.slice qi' ints.length ci',.slice qw' words.length cw',.int .i64 lo,.int .i64 hi] 25 (0,0)):=by rw [← HX,show w.heap.size + 1=(w.alloc (.cells #[.int .i64 kind,.string attr,.slice (some ⟨g1,0,none⟩) ints.length k1,.slice (some ⟨g2,0,none⟩) words.length k2,.int .i64 lo,.int .i64 hi] 25)).heap.size by simp];exact box_nw _ _
 obtain ⟨x0,x1,x2,x3,x4,x5⟩:=of6' hX0
 obtain ⟨y0,y1,y2,y3,y4,y5⟩:=of6' hX1
 have HX0:=hide hX0
 have HX1:=hide hX1
 have HWX:=hide hwX
 have a1:SlOf encI 1 w (some ⟨g1,0,none⟩) k1 ints:=⟨(fun h=>by cases h),by omega,z1,s1.take (by decide)⟩
 have a2:SlOf encS 1 w (some ⟨g2,0,none⟩) k2 words:=⟨(fun h=>by cases h),by omega,z2,t1.take (by decide)⟩
 have c0:=samePred_eq kind attr ints words lo hi (some ⟨g1,0,none⟩) k1 (some ⟨g2,0,none⟩) k2 qi' ci' qw' cw' X (a1.below hwX) (s2.below hwX) (a2.below hwX) (t2.below hwX) m1 m2
 have c1:=fun w' (hb:Below w.heap.size w w')=>keptI g1 k1 qi' ci' ints w' m1 (s1.below hb) r1 z1 (s2.below hb)
 have c2:=fun w' (hb:Below w.heap.size w w')=>keptS g2 k2 qw' cw' words w' m2 (t1.below hb) r2 z2 (t2.below hb)
 clear s1 s2 t1 t2 hwX hX0 hX1 a1 a2
 go_enter Try.func28,Try.ntmps28
 go_wp2_with (first
  | (go_at_call 27;refine c0.mono ?_;rintro e u1 ⟨rfl,b1⟩;obtain ⟨d0,d1,d2,d3,d4,d5⟩:=of6' ((b1.block _ (by omega)).trans (uh HX0));obtain ⟨e0,e1,e2,e3,e4,e5⟩:=of6' ((b1.block _ (by omega)).trans (uh HX1));have B1:=hide b1;clear b1)
  | (go_at_call 49;refine (c1 _ (by exact below_sub (uh HWX) (uh B1))).mono ?_;rintro e u2 ⟨rfl,b2⟩;have B2:=hide (below_sub (uh B1) b2);obtain ⟨f0,f1,f2,f3,f4,f5⟩:=of6' (((uh B2).block _ (by omega)).trans (uh HX0));obtain ⟨h0,h1,h2,h3,h4,h5⟩:=of6' (((uh B2).block _ (by omega)).trans (uh HX1));clear b2)
  | (go_at_call 50;refine (c2 _ (by exact below_sub (uh HWX) (uh B2))).mono ?_;rintro e u3 ⟨rfl,b3⟩;have B3:=hide (below_sub (uh B2) b3);clear b3))
 go_ret
 exact ⟨rfl,below_sub (uh HWX) (uh B3)⟩
end Go.Proofs.Ytikhopiegaoacac

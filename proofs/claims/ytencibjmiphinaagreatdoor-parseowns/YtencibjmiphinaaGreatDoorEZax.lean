/- OverInts, OverWords and OverPred, with what they leave as it was told by a set of blocks. -/
import Derived.Test.YtencibjmiphinaaGreatDoorEZaw
import Derived.Test.YtencibjmiphinaaGreatDoorEZae
import Derived.Test.YtencibjmiphinaaGreatDoorEOMemNode
import Derived.Test.YtencibjmiphinaaGreatDoorEOSameNode
namespace Go.Proofs.YtencibjmiphinaaGreatDoor
open Go.RowKit Go.Sort Go.Shelf
theorem Aw.grown {w w':World} {q:Option Nat} (h:w.grownBy w' q):Aw q.toList w w':=⟨h.os,h.tape,h.output,h.size,fun k hk hn=>h.block k hk (fun e=>hn (by rw [<- e];simp))⟩
theorem Aw.set (w:World) (g o:Nat) (v:Value):Aw [g] w (w.setCell ⟨g,o,none⟩ v):=Aw.grown (q:=some g) (grown_set (grown_refl w (some g)) o v)
theorem Aw.alloc {S:List Nat} {w w':World} (h:Aw S w w') (o:Obj):Aw S w (w'.alloc o):=h.trans (Aw.below S ((Below.refl _ _).alloc (Nat.le_refl _) o))
set_option maxHeartbeats 2000000 in
set_option maxRecDepth 100000 in
theorem overI_nil (w:World):Calls Tryz.prog 89 #[.slice none 0 0] w fun e w'=>e=.returned (.tuple #[])/\Aw [] w w':=by
 have mixed:Tryz.prog.follows .mixedOrders=true:=by kernel_rfl
 obtain ⟨i0,hi,hz0,hz1,hz2⟩:=info_parts Tryz.info3
 have Hi:=hide hi
 have Hz:=hide (And.intro hz0 (And.intro hz1 hz2))
 clear hi hz0 hz1 hz2
 go_enter Tryz.func89,Tryz.ntmps89
 go_wp2
 go_loopw [6] (fun i wr=>i=.int .i64 0/\wr=w) (fun i _=>0)
 case atStart=>exact ⟨rfl,rfl⟩
 case round =>
  obtain ⟨rfl,rfl⟩:=hrel
  go_wp2_with (at_builtin;refine wpList_append_own_at _ rfl _ _ 23 rfl 0 3 i0 (.int .i64 0) 1 8 Tryz.underlying23 (uh Hi) (uh Hz).1 (uh Hz).2.1 (uh Hz).2.2 rfl (by decide) (.slice none 0 0) 0 [] rfl (World.ownsRow_nil _ _ _ _) ⟨wr.heap.size,0,none⟩ 2 2 nw2I.toList rfl rfl (World.news_of_block (heap_alloc_new wr _)) (by decide) (by unfold maxLen;omega) (by omega) (Nat.zero_le _) ?_;intro v' w2 hown hgrow hnil hat;(obtain ⟨g2,cp2,rfl,hB2,hlt2⟩:=hown.form (by omega));(obtain ⟨⟨vv,cc⟩,ff⟩:=RawK.cell ⟨_,hown⟩ 0 (by omega));have Hgrow:=hide hgrow;have Hat:=hide hat;clear hown hgrow hnil hat)
  have Hend:Hid (Aw [] wr (w2.setCell ⟨g2,0,none⟩ (.int .i64 (-7)))):=hide (by
   have h1:Aw [] wr (wr.alloc (.cells nw2I 3)):=(Aw.refl [] wr).alloc _
   have h2:=h1.more (Aw.grown (uh Hgrow)) (fun k hk=>by simp [Value.ownBlock] at hk)
   refine h2.more (Aw.set w2 g2 0 _) (fun k hk=>?_)
   obtain rfl:k=g2:=by simpa using hk
   rcases uh Hat with h | h
   ·simp [Value.ownBlock] at h
   ·have h3:k=(wr.alloc (.cells nw2I 3)).heap.size:=by simpa [Value.ownBlock] using h
    exact Or.inr (by rw [h3];simp))
  go_wp2
  exact bodyPost_end (v:=.tuple #[]) (by simp [results,Tryz.results89,go_sem]) rfl ⟨rfl,uh Hend⟩
theorem overI_any (q:Option Addr) (cap:Nat) (l:List Int) (w:World) (hl:l.length * 8 + 64<=140737488355328) (hO:OwnK encI 3 1 0 w q cap l) :
  Calls Tryz.prog 89 #[.slice q l.length cap] w fun e w'=>e=.returned (.tuple #[])/\Aw (bk q) w w':=by
 have hO':=hO
 rcases hO.2 with ⟨h0,h1⟩ | ⟨g,c,cur,h0,_⟩
 ·injection h0 with h2 h3 h4
  subst h2 h4
  rw [h3]
  exact overI_nil w
 ·injection h0 with h2 h3 h4
  subst h2 h4
  exact (overI 0 g l.length cap w hl (Nat.zero_le _) ⟨_,hO'⟩).mono fun e w' h=>⟨h.1,Aw.grown h.2⟩
set_option maxHeartbeats 2000000 in
set_option maxRecDepth 100000 in
theorem overS_nil (w:World):Calls Tryz.prog 90 #[.slice none 0 0] w fun e w'=>e=.returned (.tuple #[])/\Aw [] w w':=by
 have mixed:Tryz.prog.follows .mixedOrders=true:=by kernel_rfl
 obtain ⟨i0,hi,hz0,hz1,hz2⟩:=info_parts Tryz.info9
 have Hi:=hide hi
 have Hz:=hide (And.intro hz0 (And.intro hz1 hz2))
 clear hi hz0 hz1 hz2
 go_enter Tryz.func90,Tryz.ntmps90
 go_wp2
 go_loopw [6] (fun i wr=>i=.int .i64 0/\wr=w) (fun i _=>0)
 case atStart=>exact ⟨rfl,rfl⟩
 case round =>
  obtain ⟨rfl,rfl⟩:=hrel
  go_wp2_with (at_builtin;refine wpList_append_own_at _ rfl _ _ 24 rfl 0 9 i0 (.string ⟨#[]⟩) 1 16 Tryz.underlying24 (uh Hi) (uh Hz).1 (uh Hz).2.1 (uh Hz).2.2 rfl (by decide) (.slice none 0 0) 0 [] rfl (World.ownsRow_nil _ _ _ _) ⟨wr.heap.size,0,none⟩ 2 2 nw2S.toList rfl rfl (World.news_of_block (heap_alloc_new wr _)) (by decide) (by unfold maxLen;omega) (by omega) (Nat.zero_le _) ?_;intro v' w2 hown hgrow hnil hat;(obtain ⟨g2,cp2,rfl,hB2,hlt2⟩:=hown.form (by omega));(obtain ⟨⟨vv,cc⟩,ff⟩:=RawK.cell ⟨_,hown⟩ 0 (by omega));have Hgrow:=hide hgrow;have Hat:=hide hat;clear hown hgrow hnil hat)
  have Hend:Hid (Aw [] wr (w2.setCell ⟨g2,0,none⟩ (.string ⟨#[103,114,111,119,110,32,115,116,105,108,108]⟩))):=hide (by
   have h1:Aw [] wr (wr.alloc (.cells nw2S 9)):=(Aw.refl [] wr).alloc _
   have h2:=h1.more (Aw.grown (uh Hgrow)) (fun k hk=>by simp [Value.ownBlock] at hk)
   refine h2.more (Aw.set w2 g2 0 _) (fun k hk=>?_)
   obtain rfl:k=g2:=by simpa using hk
   rcases uh Hat with h | h
   ·simp [Value.ownBlock] at h
   ·have h3:k=(wr.alloc (.cells nw2S 9)).heap.size:=by simpa [Value.ownBlock] using h
    exact Or.inr (by rw [h3];simp))
  go_wp2
  exact bodyPost_end (v:=.tuple #[]) (by simp [results,Tryz.results90,go_sem]) rfl ⟨rfl,uh Hend⟩
theorem overS_any (q:Option Addr) (cap:Nat) (l:List ByteArray) (w:World) (hl:l.length * 16 + 64<=140737488355328) (hO:OwnK encS 9 1 0 w q cap l) :
  Calls Tryz.prog 90 #[.slice q l.length cap] w fun e w'=>e=.returned (.tuple #[])/\Aw (bk q) w w':=by
 have hO':=hO
 rcases hO.2 with ⟨h0,h1⟩ | ⟨g,c,cur,h0,_⟩
 ·injection h0 with h2 h3 h4
  subst h2 h4
  rw [h3]
  exact overS_nil w
 ·injection h0 with h2 h3 h4
  subst h2 h4
  exact (overS 0 g l.length cap w hl (Nat.zero_le _) ⟨_,hO'⟩).mono fun e w' h=>⟨h.1,Aw.grown h.2⟩
end Go.Proofs.YtencibjmiphinaaGreatDoor
namespace Go.Proofs.YtencibjmiphinaaGreatDoor
open Go.RowKit Go.Sort Go.Shelf
theorem aw_blk {S:List Nat} {w w':World} {b:Nat} {o:Obj} (ha:Aw S w w') (h:w.heap[b]? = some o) (hb:b ∉ S):w'.heap[b]? = some o:=(ha.block b (Array.getElem?_eq_some_iff.1 h).1 hb).trans h
set_option maxHeartbeats 2000000 in
theorem overP_any (kind:Int) (attr:ByteArray) (qi:Option Addr) (ci:Nat) (ints:List Int) (qw:Option Addr) (cw:Nat) (words:List ByteArray) (lo hi:Int) (w:World) (l1:ints.length * 8 + 64<=140737488355328) (l2:words.length * 16 + 64<=140737488355328) (O1:OwnK encI 3 1 0 w qi ci ints) (O2:OwnK encS 9 1 0 w qw cw words) :
  Calls Tryz.prog 50 #[.agg #[.int .i64 kind,.string attr,.slice qi ints.length ci,.slice qw words.length cw,.int .i64 lo,.int .i64 hi]] w fun e w'=>e=.returned (.tuple #[])/\Aw (bk qi ++ bk qw) w w':=by
 obtain ⟨X,HX⟩:∃ X,w.alloc (.cells #[.int .i64 kind,.string attr,.slice qi ints.length ci,.slice qw words.length cw,.int .i64 lo,.int .i64 hi] 26)=X:=⟨_,rfl⟩
 have hwX:Aw (bk qi ++ bk qw) w X:=by rw [<- HX];exact (Aw.refl _ _).alloc _
 have hbx:X.heap[w.heap.size]? = some (.cells #[.int .i64 kind,.string attr,.slice qi ints.length ci,.slice qw words.length cw,.int .i64 lo,.int .i64 hi] 26 (0,0)):=by rw [<- HX];exact box_nw _ _
 have hX0:Aw [] w X:=by rw [<- HX];exact (Aw.refl _ _).alloc _
 have n1:w.heap.size ∉ bk qi:=fun h=>Nat.lt_irrefl _ (O1.bk_lt h)
 have n2:w.heap.size ∉ bk qw:=fun h=>Nat.lt_irrefl _ (O2.bk_lt h)
 have n3:=bk_ne O2 O1 (by decide)
 have h89:=overI_any qi ci ints X l1 (O1.aw hX0 (fun b _=>by simp))
 have O2X:=O2.aw hX0 (fun b _=>by simp)
 have c6:∀ W:World,W.heap[w.heap.size]? = some (.cells #[.int .i64 kind,.string attr,.slice qi ints.length ci,.slice qw words.length cw,.int .i64 lo,.int .i64 hi] 26 (0,0))->W.cell? ⟨w.heap.size,2,none⟩=some (.slice qi ints.length ci)/\W.cell? ⟨w.heap.size,3,none⟩=some (.slice qw words.length cw):=fun W h=>⟨by unfold World.cell?;simp [h],by unfold World.cell?;simp [h]⟩
 obtain ⟨a2,a3⟩:=c6 X hbx
 have HO2:=hide O2X
 have HBX:=hide hbx
 have HW:=hide hwX
 have C6:=hide c6
 have N1:=hide n1
 have N3:=hide n3
 clear O1 O2 hwX hbx hX0 n1 n2 n3 O2X c6
 go_enter Tryz.func50,Tryz.ntmps50
 go_wp2_with first
  | (go_at_call 89;refine h89.mono ?_;rintro e w1 ⟨rfl,h1⟩;have A1:=hide h1;clear a2 a3;obtain ⟨a2,a3⟩:=uh C6 w1 (aw_blk h1 (uh HBX) (uh N1));clear h1)
  | (go_at_call 90;refine (overS_any qw cw words _ l2 ((uh HO2).aw (uh A1) (uh N3))).mono ?_;rintro e w2 ⟨rfl,h1⟩;have A2:=hide h1;clear h1)
 exact bodyPost_end (v:=.tuple #[]) (by simp [results,Tryz.results50,go_sem]) rfl ⟨rfl,((uh HW).more (uh A1) (fun b hb=>Or.inl (List.mem_append_left _ hb))).more (uh A2) (fun b hb=>Or.inl (List.mem_append_right _ hb))⟩
end Go.Proofs.YtencibjmiphinaaGreatDoor
namespace Go.Proofs.YtencibjmiphinaaGreatDoor
open Go.RowKit Go.Sort
theorem spAt {w:World} {g:Nat} {l:List Nv} {j:Nat} {v:Nv} (h:LsOf encV 8 w (some ⟨g,0,none⟩) l) (hj:l[j]? = some v):g < w.heap.size/\w.cell? ⟨g,j * 8,none⟩=some (.int .i64 v.kind)/\w.cell? ⟨g,j * 8 + 1,none⟩=some (.string v.attr)/\w.cell? ⟨g,j * 8 + 2,none⟩=some (.slice v.qi v.ni v.ci)/\w.cell? ⟨g,j * 8 + 3,none⟩=some (.slice v.qw v.nw v.cw)/\w.cell? ⟨g,j * 8 + 4,none⟩=some (.int .i64 v.lo)/\w.cell? ⟨g,j * 8 + 5,none⟩=some (.int .i64 v.hi)/\w.cell? ⟨g,j * 8 + 6,none⟩=some (.int .i64 v.op)/\w.cell? ⟨g,j * 8 + 7,none⟩=some (.slice v.qk v.nk v.ck):=by
 obtain ⟨b,off,hq,hB,hc⟩:=h.at hj
 cases hq
 have:=cells8 hc
 simp only [Nat.zero_add] at this
 exact ⟨hB,this⟩
end Go.Proofs.YtencibjmiphinaaGreatDoor

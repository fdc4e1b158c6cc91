/- The law's fixed calls: they return true. -/
import Derived.Test.YtencibjmiphinaaGreatDoorEOPaFx
import Derived.Test.YtencibjmiphinaaGreatDoorEScNew
import Derived.Test.YtencibjmiphinaaGreatDoorEZah
import Derived.Maps.AppendAt
namespace Go.Proofs.YtencibjmiphinaaGreatDoor
open Go.RowKit
theorem bl_on {w w':World} {b:Nat} {o:Obj} (h:w.heap[b]? = some o) (hb:Below w.heap.size w w'):w'.heap[b]? = some o:=(hb.block b (Array.getElem?_eq_some_iff.1 h).1).trans h
/-- Parse of the first text. -/
theorem fxA (w:World) (hG:Lx.G w):Calls Tryz.prog 10 #[.string ⟨#[97,32,123,49,44,32,50,125,32,38,32,33,99,32,34,120,34,42,32,124,32,97,32,91,48,44,32,57,93]⟩] w fun e w'=>∃ qi ci qw cw kb koff ck,e=.returned (.tuple #[.agg #[.int .i64 0,.string ⟨#[]⟩,.slice qi 0 ci,.slice qw 0 cw,.int .i64 0,.int .i64 0,.int .i64 4,.slice (some ⟨kb,koff,none⟩) 2 ck],.int .i64 0,.int .i64 0]) /\
    NdIn w' ⟨0,⟨#[]⟩,qi,0,ci,qw,0,cw,0,0,4,some ⟨kb,koff,none⟩,2,ck⟩ (.mk 0 ⟨#[]⟩ [] [] 0 0 4 [.mk 0 ⟨#[]⟩ [] [] 0 0 3 [.mk 1 ⟨#[97]⟩ [1,2] [] 0 0 1 [],.mk 0 ⟨#[]⟩ [] [] 0 0 2 [.mk 4 ⟨#[99]⟩ [] [⟨#[120]⟩] 0 0 1 []]],.mk 3 ⟨#[97]⟩ [] [] 0 9 1 []])/\kb < w'.heap.size/\w'.cell? ⟨kb,koff + 13,none⟩=some (.int .i64 9)/\Below w.heap.size w w':=by
  refine (parse_any _ w hG).mono fun e w' h=>?_
  obtain ⟨⟨v,he,hv⟩,hb⟩:=h.ok parA
  have hin:=hv.toIn
  obtain ⟨qi,ci,qw,cw,qk,ck,rfl,h1,h2,hk⟩:=hin.parts
  obtain ⟨kb,koff,kv,rfl,hlt,hkin,_,_,_,_,_,k5,_⟩:=hk.at (j:=1) rfl
  obtain ⟨_,_,_,_,_,_,rfl,_⟩:=hkin.parts
  exact ⟨qi,ci,qw,cw,kb,koff,ck,he,hin,hlt,k5,hb⟩
theorem fxB (w:World) (hG:Lx.G w):Calls Tryz.prog 10 #[.string ⟨#[97,32,123,49,32,50,125]⟩] w fun e w'=>e=.returned (.tuple #[zVal,.int .i64 5,.int .i64 10])/\Below w.heap.size w w' :=
 (parse_any _ w hG).mono fun _ _ h=>h.bad parB
theorem fxN (w:World) (M:Nat) (hM:w.heap.size=M):Calls Tryz.prog 13 #[.slice (some ⟨M,0,none⟩) 1 1] (w.alloc (.cells #[.string ⟨#[97]⟩,.int .i64 1] 62)) fun e w'=>∃ b,e=.returned (.tuple #[.pointer (some ⟨b,0,none⟩),.int .i64 0])/\Sc.SchAt w' b [(⟨#[97]⟩,1)]/\Below w.heap.size w w':=by
 subst hM
 have hA:Sc.AtsOf (w.alloc (.cells #[.string ⟨#[97]⟩,.int .i64 1] 62)) (some ⟨w.heap.size,0,none⟩) [(⟨#[97]⟩,1)]:=fun _=>⟨w.heap.size,0,rfl,by simp,fun j x hj=>by
  obtain ⟨c0,c1,_⟩:=of2 (box_nw w (.cells #[.string ⟨#[97]⟩,.int .i64 1] 62))
  cases j with
  | zero=>cases hj;exact ⟨c0,c1⟩
  | succ j=>simp at hj⟩
 refine (Sc.new_any (some ⟨w.heap.size,0,none⟩) 1 [(⟨#[97]⟩,1)] (w.alloc (.cells #[.string ⟨#[97]⟩,.int .i64 1] 62)) (by decide) (fun h=>by cases h) hA).mono fun e w' h=>?_
 obtain ⟨h,hb⟩:=h
 have hb2:Below w.heap.size w w':=below_sub ((Below.refl _ _).alloc (Nat.le_refl _) _) hb
 rcases h with ⟨h,_⟩ | ⟨_,h,_⟩ | ⟨_,_,_,b,l',he,hp,_,hs⟩
 ·simp at h
 ·exact absurd ⟨by decide,by simp⟩ h
 ·have:l'=[(⟨#[97]⟩,1)]:=List.perm_singleton.1 hp
  subst this
  exact ⟨b,he,hs.at,hb2⟩
theorem fxC2 (b:Nat) (w:World) (hG:Lx.G w) (hS:Sc.SchAt w b [(⟨#[97]⟩,1)]):Calls Tryz.prog 15 #[.pointer (some ⟨b,0,none⟩),.int .i64 2,.string ⟨#[33,33,97,32,123,49,125]⟩] w fun e w'=>e=.returned (.tuple #[zVal,.int .i64 11])/\Below w.heap.size w w' :=
 (expr_any b _ (by decide) 2 _ w hG hS).mono fun e w' h=>by rw [exC2] at h;exact h
theorem fxC3 (b:Nat) (w:World) (hG:Lx.G w) (hS:Sc.SchAt w b [(⟨#[97]⟩,1)]):Calls Tryz.prog 15 #[.pointer (some ⟨b,0,none⟩),.int .i64 3,.string ⟨#[33,33,97,32,123,49,125]⟩] w fun e w'=>∃ ri di rw dw rk dk,e=.returned (.tuple #[.agg #[.int .i64 0,.string ⟨#[]⟩,.slice ri 0 di,.slice rw 0 dw,.int .i64 0,.int .i64 0,.int .i64 2,.slice rk 1 dk],.int .i64 0])/\Below w.heap.size w w' :=
 (expr_any b _ (by decide) 3 _ w hG hS).mono fun e w' h=>by
  rw [exC3] at h
  obtain ⟨⟨v,he,hv⟩,hb⟩:=h
  obtain ⟨ri,di,rw',dw,rk,dk,rfl,_⟩:=hv.toIn.parts
  exact ⟨ri,di,rw',dw,rk,dk,he,hb⟩
set_option maxHeartbeats 4000000 in
theorem fixed_any5 (w:World) (hG:Lx.G w):Calls Tryz.prog 9 #[] w fun e w'=>e=.returned (.bool true)/\Below w.heap.size w w':=by
 have HG:=hide hG
 clear hG
 go_enter Tryz.func9,Tryz.ntmps9
 go_wp2_with first
  | (go_at_call 10;refine (fxB _ (Lx.G_below (uh HG) (uh B1))).mono ?_;rintro e w2 ⟨rfl,hb⟩;have X2:=hide (bl_on (uh X1) hb);have k2:w2.cell? ⟨kb,koff + 13,none⟩=some (.int .i64 9):=(hb.cell (p:=⟨kb,koff + 13,none⟩) (by have:=uh KL;simp;omega)).trans (by have:=uh KL;go_simp);have I2:=hide ((uh I1).keep hb);have B2:=hide (below_sub (uh B1) hb);have hl2:w1.heap.size < w2.heap.size:=(by have:=hb.size;simp at this;omega);obtain ⟨x0,x1,x2,x3,x4,x5,x6,x7⟩:=of8' (uh X2);have hl3:kb < w2.heap.size:=(by have:=uh KL;omega);clear hb;unfold zVal)
  | (go_at_call 10;refine (fxA _ (uh HG)).mono ?_;rintro e w1 ⟨qi,ci,qw,cw,kb,koff,ck,rfl,hin,hlt,k1,hb⟩;have KL:=hide hlt;have K1:=hide k1;have B1:=hide (hb.alloc hb.size (.cells #[.int .i64 0,.string ⟨#[]⟩,.slice qi 0 ci,.slice qw 0 cw,.int .i64 0,.int .i64 0,.int .i64 4,.slice (some ⟨kb,koff,none⟩) 2 ck] 29));have X1:=hide (box_nw w1 (.cells #[.int .i64 0,.string ⟨#[]⟩,.slice qi 0 ci,.slice qw 0 cw,.int .i64 0,.int .i64 0,.int .i64 4,.slice (some ⟨kb,koff,none⟩) 2 ck] 29));have I1:=hide (hin.keep ((Below.refl w1.heap.size w1).alloc (Nat.le_refl _) (.cells #[.int .i64 0,.string ⟨#[]⟩,.slice qi 0 ci,.slice qw 0 cw,.int .i64 0,.int .i64 0,.int .i64 4,.slice (some ⟨kb,koff,none⟩) 2 ck] 29)));clear hin hlt hb)
  | (go_at_call 13;refine (fxN _ _ (by simp)).mono ?_;rintro e w3 ⟨b,rfl,hS,hb⟩;have hb2:=below_sub ((Below.refl w2.heap.size w2).alloc (Nat.le_refl _) (.cells #[.int .i64 0,.string ⟨#[]⟩,.slice none 0 0,.slice none 0 0,.int .i64 0,.int .i64 0,.int .i64 0,.slice none 0 0] 29)) hb;have X3:=hide (bl_on (uh X2) hb2);have I3:=hide ((uh I2).keep hb2);have B3:=hide (below_sub (uh B2) hb2);have S3:=hide hS;clear hb hb2 hS)
  | (go_at_call 15;have tst:=uh X4;clear tst;refine (fxC3 b _ (Lx.G_below (uh HG) ((uh B4).alloc (uh B4).size (.cells #[.int .i64 0,.string ⟨#[]⟩,.slice none 0 0,.slice none 0 0,.int .i64 0,.int .i64 0,.int .i64 0,.slice none 0 0] 29))) ((uh S4).below ((Below.refl _ _).alloc (Nat.le_refl _) (.cells #[.int .i64 0,.string ⟨#[]⟩,.slice none 0 0,.slice none 0 0,.int .i64 0,.int .i64 0,.int .i64 0,.slice none 0 0] 29)))).mono ?_;rintro e w5 ⟨ri,di,rw',dw,rk,dk,rfl,hb⟩;have hb2:=below_sub ((Below.refl w4.heap.size w4).alloc (Nat.le_refl _) (.cells #[.int .i64 0,.string ⟨#[]⟩,.slice none 0 0,.slice none 0 0,.int .i64 0,.int .i64 0,.int .i64 0,.slice none 0 0] 29)) hb;have hb3:=below_sub hb2 ((Below.refl w5.heap.size w5).alloc (Nat.le_refl _) (.cells #[.int .i64 0,.string ⟨#[]⟩,.slice ri 0 di,.slice rw' 0 dw,.int .i64 0,.int .i64 0,.int .i64 2,.slice rk 1 dk] 29));have X5:=hide (bl_on (uh X4) hb3);have I5:=hide ((uh I4).keep hb3);have S5:=hide ((uh S4).below hb3);have B5:=hide (below_sub (uh B4) hb3);have L5:=hide (Nat.lt_of_lt_of_le (uh L4) hb2.size);obtain ⟨y0,y1,y2,y3,y4,y5,y6,y7⟩:=of8' (uh X5);clear hb hb2 hb3)
  | (go_at_call 15;refine (fxC2 b _ (Lx.G_below (uh HG) (uh B3)) (uh S3)).mono ?_;rintro e w4 ⟨rfl,hb⟩;have X4:=hide (bl_on (uh X3) hb);have I4:=hide ((uh I3).keep hb);have S4:=hide ((uh S3).below hb);have B4:=hide (below_sub (uh B3) hb);have L4:=hide (Array.getElem?_eq_some_iff.1 (uh X4)).1;clear hb;unfold zVal)
  | (go_at_call 18;have hk:=kinds_any b _ (by decide) _ _ _ (uh I5) (uh S5) (by decide);rw [knA] at hk;refine hk.mono ?_;rintro e w6 ⟨rfl,hb⟩;have B6:=hide hb;clear hb hk)
 go_ret
 exact ⟨rfl,below_sub (uh B5) (uh B6)⟩
end Go.Proofs.YtencibjmiphinaaGreatDoor
namespace Go.Proofs.YtencibjmiphinaaGreatDoor
open Go.RowKit Go.Sort Go.Shelf
/-- A row of the call's own, whatever it holds. -/
def RawK (e:TypeId) (B:Nat) (w:World) (q:Option Addr) (n cap:Nat):Prop:=∃ xs,w.ownsRow B e 1 (.slice q n cap) n xs
theorem RawK.cell {e:TypeId} {B:Nat} {w:World} {g n cap:Nat} (h:RawK e B w (some ⟨g,0,none⟩) n cap) (t:Nat) (ht:t < n):(∃ v,w.cell? ⟨g,t,none⟩=some v)/\w.frozen? ⟨g,t,none⟩=false:=by
 obtain ⟨xs,h⟩:=h
 rcases h.2 with ⟨h0,_⟩ | ⟨g',cap',cur,hv,_,hblk,hc,_,hs,_⟩
 ·cases h0
 ·injection hv with h1 h2 h3
  cases h1
  have hlt:t < cur.size:=by rw [hs];omega
  exact ⟨⟨cur[t],by rw [cell_of_row w g t cur e (0,0) hblk];exact Array.getElem?_eq_getElem hlt⟩,frozen_free hblk⟩
theorem RawK.set {e:TypeId} {B:Nat} {w:World} {g n cap:Nat} (h:RawK e B w (some ⟨g,0,none⟩) n cap) (j:Nat) (u:Value):RawK e B (w.setCell ⟨g,j,none⟩ u) (some ⟨g,0,none⟩) n cap:=by
 obtain ⟨xs,h⟩:=h
 exact ⟨_,(h.stored j u).1⟩
theorem grown_set {w w':World} {g:Nat} (h:w.grownBy w' (some g)) (o:Nat) (v:Value):w.grownBy (w'.setCell ⟨g,o,none⟩ v) (some g):=by
 have hb:=(Below.refl 0 w').setCell (p:=⟨g,o,none⟩) (Nat.zero_le _) v
 exact ⟨hb.os.trans h.os,hb.tape.trans h.tape,hb.output.trans h.output,Nat.le_trans h.size hb.size,fun k hk hne=>(Below.heap_setCell _ _ _ _ (fun e=>hne (by rw [e]))).trans (h.block k hk hne)⟩
theorem grown_two {w w1 w2:World} {r r2:Option Nat} (h:w.grownBy w1 r) (h2:w1.grownBy w2 r2) (hr:∀ k,r2=some k->r=some k ∨ w.heap.size<=k):w.grownBy w2 r :=
 ⟨h2.os.trans h.os,h2.tape.trans h.tape,h2.output.trans h.output,Nat.le_trans h.size h2.size,fun k hk hne=>(h2.block k (Nat.lt_of_lt_of_le hk h.size) (fun e=>by
  rcases hr k e.symm with h3 | h3
  ·exact hne h3.symm
  ·omega)).trans (h.block k hk hne)⟩
theorem grown_refl (w:World) (r:Option Nat):w.grownBy w r:=⟨rfl,rfl,rfl,Nat.le_refl _,fun _ _ _=>rfl⟩
theorem grown_alloc (w:World) (o:Obj) (r:Option Nat):w.grownBy (w.alloc o) r:=World.grownBy_alloc w o r
def nw2I:Array Value:=#[.int .i64 (-5),.int .i64 (-6)]
set_option maxHeartbeats 2000000 in
set_option maxRecDepth 100000 in
theorem overI (B g n cap:Nat) (w:World) (hl:n * 8 + 64<=140737488355328) (hB:B<=w.heap.size) (hR:RawK 3 B w (some ⟨g,0,none⟩) n cap) :
  Calls Tryz.prog 89 #[.slice (some ⟨g,0,none⟩) n cap] w fun e w'=>e=.returned (.tuple #[])/\w.grownBy w' (some g):=by
 have mixed:Tryz.prog.follows .mixedOrders=true:=by kernel_rfl
 have HR:=hide hR
 have n0:(0:Int)<=(n:Int):=by omega
 have n9:(n:Int)<=140737488355328:=by omega
 obtain ⟨i0,hi,hz0,hz1,hz2⟩:=info_parts Tryz.info3
 have Hi:=hide hi
 have Hz:=hide (And.intro hz0 (And.intro hz1 hz2))
 clear hR hi hz0 hz1 hz2
 go_enter Tryz.func89,Tryz.ntmps89
 go_wp2
 go_loopw [6] (fun i wr=>∃ k:Nat,k<=n/\i=.int .i64 k/\Hid (RawK 3 B wr (some ⟨g,0,none⟩) n cap)/\Hid (w.grownBy wr (some g))) (fun i _=>n - (intOf i).toNat)
 case atStart=>exact ⟨0,by omega,rfl,HR,hide (grown_refl _ _)⟩
 case round =>
  obtain ⟨k,hk,rfl,Hrow,Hgr⟩:=hrel
  by_cases hlt:k < n
  ·have k0:(0:Int)<=(k:Int):=by omega
   have k1:(k:Int) < (n:Int):=by omega
   obtain ⟨⟨v0,cc0⟩,ff0⟩:=(uh Hrow).cell k hlt
   go_wp2
   exact ⟨⟨k + 1,by omega,congrArg (Value.int .i64) (by omega),hide ((uh Hrow).set _ _),hide (grown_set (uh Hgr) _ _)⟩,by simp [intOf];omega⟩
  ·obtain rfl:k=n:=by omega
   have n1:(k:Int) < (k:Int) + 2:=by omega
   obtain ⟨xs,hxs⟩:=uh Hrow
   have Hxs:=hide hxs
   clear hxs
   go_wp2_with (at_builtin;refine wpList_append_own_at _ rfl _ _ 23 rfl B 3 i0 (.int .i64 0) 1 8 Tryz.underlying23 (uh Hi) (uh Hz).1 (uh Hz).2.1 (uh Hz).2.2 rfl (by decide) _ k xs rfl (World.ownsRow.alloc (uh Hxs) _) ⟨wr.heap.size,0,none⟩ 2 2 nw2I.toList rfl rfl (World.news_of_block (heap_alloc_new wr _)) (by decide) (by unfold maxLen;omega) (by omega) (by have:=(uh Hgr).size;simp;omega) ?_;intro v' w2 hown hgrow hnil hat;(obtain ⟨g2,cp2,rfl,hB2,hlt2⟩:=hown.form (by omega));(obtain ⟨⟨vv,cc⟩,ff⟩:=RawK.cell ⟨_,hown⟩ k (by omega));have Hgrow:=hide hgrow;have Hat:=hide hat;clear hown hgrow hnil hat)
   have Hend:Hid (w.grownBy (w2.setCell ⟨g2,k,none⟩ (.int .i64 (-7))) (some g)):=hide (by
    have h1:=grown_two (uh Hgr) (grown_alloc wr (.cells nw2I 3) none) (fun j hj=>by cases hj)
    have h2:=grown_two h1 (uh Hgrow) (fun j hj=>Or.inl hj)
    refine grown_two h2 (grown_set (grown_refl w2 (some g2)) _ _) (fun j hj=>?_)
    cases hj
    rcases uh Hat with h | h
    ·exact Or.inl h.symm
    ·have h3:g2=(wr.alloc (.cells nw2I 3)).heap.size:=by simpa [Value.ownBlock] using h
     exact Or.inr (by rw [h3];have:=(uh Hgr).size;simp;omega))
   go_wp2
   exact bodyPost_end (v:=.tuple #[]) (by simp [results,Tryz.results89,go_sem]) rfl ⟨rfl,uh Hend⟩
def nw2S:Array Value:=#[.string ⟨#[103,114,111,119,110]⟩,.string ⟨#[109,111,114,101]⟩]
set_option maxHeartbeats 2000000 in
set_option maxRecDepth 100000 in
theorem overS (B g n cap:Nat) (w:World) (hl:n * 16 + 64<=140737488355328) (hB:B<=w.heap.size) (hR:RawK 9 B w (some ⟨g,0,none⟩) n cap) :
  Calls Tryz.prog 90 #[.slice (some ⟨g,0,none⟩) n cap] w fun e w'=>e=.returned (.tuple #[])/\w.grownBy w' (some g):=by
 have mixed:Tryz.prog.follows .mixedOrders=true:=by kernel_rfl
 have HR:=hide hR
 have n0:(0:Int)<=(n:Int):=by omega
 have n9:(n:Int)<=140737488355328:=by omega
 obtain ⟨i0,hi,hz0,hz1,hz2⟩:=info_parts Tryz.info9
 have Hi:=hide hi
 have Hz:=hide (And.intro hz0 (And.intro hz1 hz2))
 clear hR hi hz0 hz1 hz2
 go_enter Tryz.func90,Tryz.ntmps90
 go_wp2
 go_loopw [6] (fun i wr=>∃ k:Nat,k<=n/\i=.int .i64 k/\Hid (RawK 9 B wr (some ⟨g,0,none⟩) n cap)/\Hid (w.grownBy wr (some g))) (fun i _=>n - (intOf i).toNat)
 case atStart=>exact ⟨0,by omega,rfl,HR,hide (grown_refl _ _)⟩
 case round =>
  obtain ⟨k,hk,rfl,Hrow,Hgr⟩:=hrel
  by_cases hlt:k < n
  ·have k0:(0:Int)<=(k:Int):=by omega
   have k1:(k:Int) < (n:Int):=by omega
   obtain ⟨⟨v0,cc0⟩,ff0⟩:=(uh Hrow).cell k hlt
   go_wp2
   exact ⟨⟨k + 1,by omega,congrArg (Value.int .i64) (by omega),hide ((uh Hrow).set _ _),hide (grown_set (uh Hgr) _ _)⟩,by simp [intOf];omega⟩
  ·obtain rfl:k=n:=by omega
   have n1:(k:Int) < (k:Int) + 2:=by omega
   obtain ⟨xs,hxs⟩:=uh Hrow
   have Hxs:=hide hxs
   clear hxs
   go_wp2_with (at_builtin;refine wpList_append_own_at _ rfl _ _ 24 rfl B 9 i0 (.string ⟨#[]⟩) 1 16 Tryz.underlying24 (uh Hi) (uh Hz).1 (uh Hz).2.1 (uh Hz).2.2 rfl (by decide) _ k xs rfl (World.ownsRow.alloc (uh Hxs) _) ⟨wr.heap.size,0,none⟩ 2 2 nw2S.toList rfl rfl (World.news_of_block (heap_alloc_new wr _)) (by decide) (by unfold maxLen;omega) (by omega) (by have:=(uh Hgr).size;simp;omega) ?_;intro v' w2 hown hgrow hnil hat;(obtain ⟨g2,cp2,rfl,hB2,hlt2⟩:=hown.form (by omega));(obtain ⟨⟨vv,cc⟩,ff⟩:=RawK.cell ⟨_,hown⟩ k (by omega));have Hgrow:=hide hgrow;have Hat:=hide hat;clear hown hgrow hnil hat)
   have Hend:Hid (w.grownBy (w2.setCell ⟨g2,k,none⟩ (.string ⟨#[103,114,111,119,110,32,115,116,105,108,108]⟩)) (some g)):=hide (by
    have h1:=grown_two (uh Hgr) (grown_alloc wr (.cells nw2S 9) none) (fun j hj=>by cases hj)
    have h2:=grown_two h1 (uh Hgrow) (fun j hj=>Or.inl hj)
    refine grown_two h2 (grown_set (grown_refl w2 (some g2)) _ _) (fun j hj=>?_)
    cases hj
    rcases uh Hat with h | h
    ·exact Or.inl h.symm
    ·have h3:g2=(wr.alloc (.cells nw2S 9)).heap.size:=by simpa [Value.ownBlock] using h
     exact Or.inr (by rw [h3];have:=(uh Hgr).size;simp;omega))
   go_wp2
   exact bodyPost_end (v:=.tuple #[]) (by simp [results,Tryz.results90,go_sem]) rfl ⟨rfl,uh Hend⟩
end Go.Proofs.YtencibjmiphinaaGreatDoor

/- OverNode: it writes over the rows of a tree whose rows are its own, and over nothing else. -/
import Derived.Test.YtencibjmiphinaaGreatDoorEZax
namespace Go.Proofs.YtencibjmiphinaaGreatDoor
open Go.RowKit Go.Sort Go.Shelf
def RawV (w:World) (q:Option Addr) (n cap:Nat):Prop:=∃ xs,w.ownsRow 0 29 8 (.slice q n cap) n xs
theorem RawV.cell {w:World} {g n cap:Nat} (h:RawV w (some ⟨g,0,none⟩) n cap) (t:Nat) (ht:t < n * 8):(∃ v,w.cell? ⟨g,t,none⟩=some v)/\w.frozen? ⟨g,t,none⟩=false:=by
 obtain ⟨xs,h⟩:=h
 rcases h.2 with ⟨h0,_⟩ | ⟨g',cap',cur,hv,_,hblk,hc,_,hs,_⟩
 ·cases h0
 ·injection hv with h1 h2 h3
  cases h1
  have hlt:t < cur.size:=by rw [hs];omega
  exact ⟨⟨cur[t],by rw [cell_of_row w g t cur 29 (0,0) hblk];exact Array.getElem?_eq_getElem hlt⟩,frozen_free hblk⟩
theorem RawV.set {w:World} {g n cap:Nat} (h:RawV w (some ⟨g,0,none⟩) n cap) (j:Nat) (u:Value):RawV (w.setCell ⟨g,j,none⟩ u) (some ⟨g,0,none⟩) n cap:=by
 obtain ⟨xs,h⟩:=h
 exact ⟨_,(World.ownsRow.stored h j u).1⟩
theorem RawV.aw {S:List Nat} {w w':World} {q:Option Addr} {n cap:Nat} (h:RawV w q n cap) (ha:Aw S w w') (hd:∀ b ∈ bk q,b ∉ S):RawV w' q n cap:=by
 obtain ⟨xs,h⟩:=h
 refine ⟨xs,h.1, ?_⟩
 rcases h.2 with h0 | ⟨g,c,cur,h0,h1,h2,h3⟩
 ·exact Or.inl h0
 ·refine Or.inr ⟨g,c,cur,h0,h1, ?_,h3⟩
  injection h0 with h4 h5 h6
  subst h4
  rw [ha.block g (Array.getElem?_eq_some_iff.1 h2).1 (hd g (by simp [bk]))]
  exact h2
theorem ob_bk (q:Option Addr) (n c:Nat):(Value.slice q n c).ownBlock.toList=bk q:=by cases q <;> rfl
/-- The node j of the row at g. -/
def At8 (w:World) (g j:Nat) (v:Nv):Prop:=w.cell? ⟨g,j * 8,none⟩=some (.int .i64 v.kind)/\w.cell? ⟨g,j * 8 + 1,none⟩=some (.string v.attr)/\w.cell? ⟨g,j * 8 + 2,none⟩=some (.slice v.qi v.ni v.ci)/\w.cell? ⟨g,j * 8 + 3,none⟩=some (.slice v.qw v.nw v.cw)/\w.cell? ⟨g,j * 8 + 4,none⟩=some (.int .i64 v.lo)/\w.cell? ⟨g,j * 8 + 5,none⟩=some (.int .i64 v.hi)/\w.cell? ⟨g,j * 8 + 6,none⟩=some (.int .i64 v.op)/\w.cell? ⟨g,j * 8 + 7,none⟩=some (.slice v.qk v.nk v.ck)
theorem At8.same {w w':World} {g j:Nat} {v:Nv} (h:At8 w g j v) (hs:∀ c,c < 8->w'.cell? ⟨g,j * 8 + c,none⟩=w.cell? ⟨g,j * 8 + c,none⟩):At8 w' g j v :=
 ⟨(hs 0 (by omega)).trans h.1,(hs 1 (by omega)).trans h.2.1,(hs 2 (by omega)).trans h.2.2.1,(hs 3 (by omega)).trans h.2.2.2.1,(hs 4 (by omega)).trans h.2.2.2.2.1,(hs 5 (by omega)).trans h.2.2.2.2.2.1,(hs 6 (by omega)).trans h.2.2.2.2.2.2.1,(hs 7 (by omega)).trans h.2.2.2.2.2.2.2⟩
theorem At8.aw {S:List Nat} {w w':World} {g j:Nat} {v:Nv} (h:At8 w g j v) (ha:Aw S w w') (hg:g < w.heap.size) (hd:g ∉ S):At8 w' g j v:=h.same fun c _=>World.cell?_of_block (w:=w) (a:=⟨g,j * 8 + c,none⟩) (ha.block g hg hd)
theorem At8.set {w:World} {g j o:Nat} {v:Nv} (h:At8 w g j v) (ho:o < j * 8) (u:Value):At8 (w.setCell ⟨g,o,none⟩ u) g j v:=h.same fun c _=>World.cell?_setCell_other _ _ _ _ (by intro e;simp only [Addr.mk.injEq] at e;omega)
def nwV:Array Value:=#[.int .i64 0,.string ⟨#[]⟩,.slice none 0 0,.slice none 0 0,.int .i64 0,.int .i64 0,.int .i64 55,.slice none 0 0,.int .i64 0,.string ⟨#[]⟩,.slice none 0 0,.slice none 0 0,.int .i64 0,.int .i64 0,.int .i64 0,.slice none 0 0]
/-- What the loop over the kids keeps. -/
structure Lv (S:List Nat) (X wr:World) (qk:Option Addr) (ck:Nat) (kids:List Nd) (vs:List Nv) (Ss:List (List Nat)) (k:Nat):Prop where
  aw:Aw S X wr
  raw:RawV wr qk kids.length ck
  at8:∀ (j:Nat) (v:Nv),k<=j->vs[j]? = some v->∃ g,qk=some ⟨g,0,none⟩/\g < wr.heap.size/\At8 wr g j v
  own:∀ (j:Nat) (v:Nv) (x:Nd) (T:List Nat),k<=j->vs[j]? = some v->kids[j]? = some x->Ss[j]? = some T->NdOwn wr v x T
/-- One kid behind: its own blocks and its node in the row are written over. -/
theorem Lv.step {A S:List Nat} {X wr w2:World} {g ck:Nat} {kids:List Nd} {vs:List Nv} {Ss:List (List Nat)} {k:Nat} {T:List Nat} (h:Lv S X wr (some ⟨g,0,none⟩) ck kids vs Ss k) (hn:(A ++ [g] ++ Ss.flatten).Nodup) (hT:Ss[k]? = some T) (hsub:∀ b ∈ [g] ++ Ss.flatten,b ∈ S) (ha:Aw T wr w2) (u1 u2:Value) :
    Lv S X ((w2.setCell ⟨g,k * 8 + 6,none⟩ u1).setCell ⟨g,k * 8 + 1,none⟩ u2) (some ⟨g,0,none⟩) ck kids vs Ss (k + 1):=by
  have hgT:g ∉ T:=fun hb=>by
    obtain ⟨_,_,h3⟩:=List.nodup_append.1 hn
    exact h3 g (List.mem_append_right _ (List.mem_singleton.2 rfl)) g (mem_flat hT hb) rfl
  have h2:Aw [g] w2 ((w2.setCell ⟨g,k * 8 + 6,none⟩ u1).setCell ⟨g,k * 8 + 1,none⟩ u2):=(Aw.set w2 g _ u1).trans (Aw.set _ g _ u2)
  refine ⟨(h.aw.more ha (fun b hb=>Or.inl (hsub b (List.mem_append_right _ (mem_flat hT hb))))).more h2 (fun b hb=>Or.inl (hsub b (List.mem_append_left _ hb))),((h.raw.aw ha (fun b hb=>by
    obtain rfl:b=g:=by simpa [bk] using hb
    exact hgT)).set _ _).set _ _,fun j v hj hv=>?_,fun j v x U hj hv hx hU=>?_⟩
  · obtain ⟨g',hq,hlt,h8⟩:=h.at8 j v (by omega) hv
    cases hq
    exact ⟨g,rfl,Nat.lt_of_lt_of_le hlt (Nat.le_trans ha.size h2.size),((h8.aw ha hlt hgT).set (by omega) u1).set (by omega) u2⟩
  · obtain ⟨h5,h6⟩:=own_apart hn hU hT (show j ≠ k by omega)
    exact ((h.own j v x U (by omega) hv hx hU).aw ha h5).aw h2 h6
def OvG (t:Nd):Prop:=∀ (v:Nv) (S:List Nat) (w:World),NdOwn w v t S->wtN t<=1000000000->Calls Tryz.prog 24 #[v.val] w fun e w'=>e=.returned (.tuple #[])/\Aw S w w'
set_option maxRecDepth 100000 in
set_option maxHeartbeats 8000000 in
theorem overN_any:∀ t,OvG t:=by
 intro t
 induction t using Nd.ind with
 | h kind attr ints words lo hi op kids ih =>
  intro v S w hown hwt
  cases hown with
  | @mk _ _ _ _ _ _ _ _ qi ci qw cw qk ck vs Ss O1 O2 O3 hl hs hr hn =>
  simp only [wtN] at hwt
  have hwl:=words_len words
  have hkl:=Nat.le_trans (len_size kids) (sizeL_wt kids)
  have a0:(kids.length:Int)<=1000000000:=by omega
  obtain ⟨X,HX⟩:∃ X,w.alloc (.cells #[.int .i64 kind,.string attr,.slice qi ints.length ci,.slice qw words.length cw,.int .i64 lo,.int .i64 hi,.int .i64 op,.slice qk kids.length ck] 29)=X:=⟨_,rfl⟩
  have hX0:X.heap[w.heap.size]? = some (.cells #[.int .i64 kind,.string attr,.slice qi ints.length ci,.slice qw words.length cw,.int .i64 lo,.int .i64 hi,.int .i64 op,.slice qk kids.length ck] 29 (0,0)):=by rw [<- HX];exact box_nw _ _
  have hwX:Aw [] w X:=by rw [<- HX];exact (Aw.refl _ _).alloc _
  obtain ⟨S,hS⟩:∃ S,bk qi ++ bk qw ++ bk qk ++ Ss.flatten=S:=⟨_,rfl⟩
  have hSlt:∀ b ∈ S,b < w.heap.size:=by rw [<- hS];exact (NdOwn.mk (kind:=kind) (attr:=attr) (lo:=lo) (hi:=hi) (op:=op) O1 O2 O3 hl hs hr hn).lt
  have hz:w.heap.size ∉ S:=fun h=>Nat.lt_irrefl _ (hSlt _ h)
  have hp:=overP_any kind attr qi ci ints qw cw words lo hi X (by omega) (by omega) (O1.aw hwX (fun b _=>by simp)) (O2.aw hwX (fun b _=>by simp))
  -- behind the lists of the node itself
  have hP:∀ W,Aw (bk qi ++ bk qw) X W->Lv S X W qk ck kids vs Ss 0:=fun W hW=>by
   have hd:∀ b ∈ bk qk,b ∉ bk qi ++ bk qw:=fun b hb h=>by
    obtain ⟨h1,_,_⟩:=List.nodup_append.1 hn
    exact (List.nodup_append.1 h1).2.2 b h b hb rfl
   have hO:=(O3.aw hwX (fun b _=>by simp)).aw hW hd
   refine ⟨hW.mono (fun b hb=>Or.inl (by rw [<- hS];exact List.mem_append_left _ (List.mem_append_left _ hb))),(by rw [<- hl];exact ⟨_,hO⟩),fun j v _ hv=>?_,fun j v x T _ hv hx hT=>?_⟩
   ·obtain ⟨b,off,hq,_⟩:=hO.ls.2.2.2 (by have:=(List.getElem?_eq_some_iff.1 hv).1;omega)
    have hb:b ∈ bk qk:=by rw [hq];simp [bk]
    obtain ⟨e1,_⟩:=hO.at_blk hb
    subst e1
    obtain ⟨e2,e3⟩:=spAt hO.ls.2.2.2 hv
    exact ⟨b,rfl,e2,e3⟩
   ·exact ((hr j v x T hv hx hT).aw hwX (fun b _=>by simp)).aw hW (fun b hb h=>by
     obtain ⟨_,_,h3⟩:=List.nodup_append.1 hn
     exact h3 b (List.mem_append_left _ h) b (mem_flat hT hb) rfl)
  have HP:=hide hP
  have HX0:=hide hX0
  have HWX:=hide hwX
  have IH:=hide ih
  have HN:=hide hn
  have HSS:=hide hS
  have HZ:=hide hz
  have HSL:=hide hSlt
  have HR:=hide hr
  have HL:=hide hl
  have HLS:=hide hs
  obtain ⟨x0,x1,x2,x3,x4,x5,x6,x7⟩:=of8' hX0
  obtain ⟨i0,z0,hi0,hz0,hz1,hz2,hz3⟩:=rowV.info
  have Hi:=hide hi0
  have Hz:=hide (And.intro hz0 (And.intro hz1 (And.intro hz2 hz3)))
  clear ih hn hS hz hSlt hr hl hs hP hX0 hwX O1 O2 O3 hi0 hz0 hz1 hz2 hz3
  simp only [Nv.val]
  go_enter Tryz.func24,Tryz.ntmps24
  go_wp2_with (go_at_call 50;refine hp.mono ?_;rintro e w1 ⟨rfl,h1⟩;have L1:=hide (uh HP w1 h1);clear x0 x1 x2 x3 x4 x5 x6 x7;obtain ⟨x0,x1,x2,x3,x4,x5,x6,x7⟩:=of8' (aw_blk (uh L1).aw (uh HX0) (uh HZ));clear h1)
  go_loopw [2,10] (fun i2 i wr=>∃ k:Nat,k<=kids.length/\i=.int .i64 k/\Hid (Lv S X wr qk ck kids vs Ss k)) (fun _ i _=>kids.length - (intOf i).toNat)
  case atStart=>exact ⟨0,by omega,rfl,L1⟩
  case round =>
   obtain ⟨k,hk,rfl,L⟩:=hrel
   clear x0 x1 x2 x3 x4 x5 x6 x7
   obtain ⟨x0,x1,x2,x3,x4,x5,x6,x7⟩:=of8' (aw_blk (uh L).aw (uh HX0) (uh HZ))
   by_cases hlt:k < kids.length
   ·obtain ⟨v,hv⟩:=get_some (j:=k) (uh HL) hlt
    obtain ⟨x,hx⟩:=get_some (l:=kids) (j:=k) rfl hlt
    obtain ⟨T,hT⟩:=get_some (j:=k) (uh HLS) hlt
    obtain ⟨g,hq,hg,c0,c1,c2,c3,c4,c5,c6,c7⟩:=(uh L).at8 k v (Nat.le_refl _) hv
    subst hq
    have hxw:=wtL_mem (List.mem_of_getElem? hx)
    have hC:=uh IH x (List.mem_of_getElem? hx) v T wr ((uh L).own k v x T (Nat.le_refl _) hv hx hT) (by omega)
    have hn2:(bk qi ++ bk qw ++ [g] ++ Ss.flatten).Nodup:=uh HN
    have hsub:∀ b ∈ [g] ++ Ss.flatten,b ∈ S:=fun b hb=>by
     rw [<- uh HSS]
     simp only [List.mem_append] at hb ⊢
     rcases hb with h | h
     ·exact Or.inl (Or.inr h)
     ·exact Or.inr h
    have hgz:g < w.heap.size:=uh HSL g (hsub g (by simp))
    have ne1:¬ w.heap.size=g:=by omega
    have ne2:¬ g=w.heap.size:=by omega
    have hTz:w.heap.size ∉ T:=fun h=>uh HZ (hsub _ (List.mem_append_right _ (mem_flat hT h)))
    have ki0:(0:Int)<=(k:Int):=by omega
    have ki1:(k:Int) < (kids.length:Int):=by omega
    have HT:=hide hT
    have HN2:=hide hn2
    have HSB:=hide hsub
    have HTZ:=hide hTz
    have BB:=hide (aw_blk (uh L).aw (uh HX0) (uh HZ))
    have hgT:g ∉ T:=fun hb=>by
     obtain ⟨_,_,h3⟩:=List.nodup_append.1 hn2
     exact h3 g (List.mem_append_right _ (List.mem_singleton.2 rfl)) g (mem_flat hT hb) rfl
    have HGT:=hide hgT
    simp only [Nv.val] at hC
    clear hv hx hT hn2 hsub hgz hTz hgT hxw
    go_wp2_with (go_at_call 24;refine hC.mono ?_;rintro e w2 ⟨rfl,hA2⟩;have A2:=hide hA2;clear x0 x1 x2 x3 x4 x5 x6 x7 c0 c1 c2 c3 c4 c5 c6 c7;obtain ⟨x0,x1,x2,x3,x4,x5,x6,x7⟩:=of8' (aw_blk hA2 (uh BB) (uh HTZ));have hRW:=(uh L).raw.aw hA2 (fun b hb=>(by obtain rfl:b=g:=(by simpa [bk] using hb);exact uh HGT));obtain ⟨⟨d6,e6⟩,f6⟩:=hRW.cell (k * 8 + 6) (by omega);obtain ⟨⟨d1,e1⟩,f1⟩:=hRW.cell (k * 8 + 1) (by omega);clear hA2 hRW)
    exact ⟨⟨k + 1,by omega,by go_num,hide ((uh L).step (uh HN2) (uh HT) (uh HSB) (uh A2) _ _)⟩,by simp [intOf];omega⟩
   ·have hkl:k=kids.length:=by omega
    subst hkl
    have ki1:¬ (kids.length:Int) < (kids.length:Int):=by omega
    have n1:(kids.length:Int) < (kids.length:Int) + 2:=by omega
    have n0:(0:Int)<=(kids.length:Int):=by omega
    obtain ⟨xs,hxs⟩:=(uh L).raw
    have Hxs:=hide hxs
    have BB:=hide (aw_blk (uh L).aw (uh HX0) (uh HZ))
    have hzk:w.heap.size ∉ bk qk:=fun h=>uh HZ (by rw [<- uh HSS];exact List.mem_append_left _ (List.mem_append_right _ h))
    have HZK:=hide hzk
    clear hxs hzk
    go_wp2_with (at_builtin;refine wpList_append_own_at _ rfl _ _ 27 rfl 0 29 i0 z0 8 120 rowV.und (uh Hi) (uh Hz).1 (uh Hz).2.1 (uh Hz).2.2.1 (uh Hz).2.2.2 (by decide) (.slice qk kids.length ck) kids.length xs rfl (World.ownsRow.alloc (uh Hxs) _) ⟨wr.heap.size,0,none⟩ 2 2 nwV.toList rfl rfl (World.news_of_block (heap_alloc_new wr _)) (by decide) (by unfold maxLen;omega) (by omega) (Nat.zero_le _) ?_;intro v' w2 hown hgrow hnil hat;(obtain ⟨g2,cp2,rfl,hB2,hlt2⟩:=hown.form (by omega));(obtain ⟨⟨vv,cc⟩,ff⟩:=RawV.cell ⟨_,hown⟩ (kids.length * 8 + 6) (by omega));clear x0 x1 x2 x3 x4 x5 x6 x7;have hga:Aw (bk qk) (wr.alloc (.cells nwV 29)) w2:=(by rw [<- ob_bk qk kids.length ck];exact Aw.grown hgrow);obtain ⟨x0,x1,x2,x3,x4,x5,x6,x7⟩:=of8' (aw_blk hga (bl_on (uh BB) ((Below.refl _ _).alloc (Nat.le_refl _) _)) (uh HZK));have Hga:=hide hga;have Hat:=hide hat;clear hown hgrow hnil hat hga)
    have Hend:Hid (Aw S w (w2.setCell ⟨g2,kids.length * 8 + 6,none⟩ (.int .i64 56))):=hide (by
     have h1:=((uh HWX).mono (T:=S) (fun b hb=>by simp at hb)).trans (uh L).aw
     have h2:=(h1.alloc (.cells nwV 29)).more (uh Hga) (fun b hb=>Or.inl (by rw [<- uh HSS];exact List.mem_append_left _ (List.mem_append_right _ hb)))
     refine h2.more (Aw.set w2 g2 _ _) (fun b hb=>?_)
     obtain rfl:b=g2:=by simpa using hb
     rcases uh Hat with h | h
     ·have h3:b ∈ bk qk:=by rw [<- ob_bk qk kids.length ck,<- h];simp [Value.ownBlock]
      exact Or.inl (by rw [<- uh HSS];exact List.mem_append_left _ (List.mem_append_right _ h3))
     ·have h3:b=(wr.alloc (.cells nwV 29)).heap.size:=by simpa [Value.ownBlock] using h
      exact Or.inr (by rw [h3];have:=h1.size;simp;omega))
    go_wp2
    exact bodyPost_end (v:=.tuple #[]) (by simp [results,Tryz.results24,go_sem]) rfl ⟨rfl,by have h:=uh Hend;rw [<- uh HSS] at h;simpa only [List.append_assoc] using h⟩
end Go.Proofs.YtencibjmiphinaaGreatDoor

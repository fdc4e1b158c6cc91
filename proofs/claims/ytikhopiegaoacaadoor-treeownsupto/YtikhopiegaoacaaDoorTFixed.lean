/- The law's fixed calls: they return true. -/
import Derived.Test.YtikhopiegaoacaaDoorTFixPlain
import Derived.Test.YtikhopiegaoacaaDoorTSameTree
namespace Go.Proofs.YtikhopiegaoacaaDoor
open Go.RowKit

theorem fx_ints (w:World):Calls Tryd.prog 12 #[.string ⟨#[97]⟩,.slice (some ⟨w.heap.size,0,none⟩) 2 2] (w.alloc (.cells #[.int .i64 1,.int .i64 (-2)] 3)) fun e w'=>(∃ v,e=.returned (.agg #[.int .i64 v.kind,.string v.attr,.slice v.qi v.ni v.ci,.slice v.qw v.nw v.cw,.int .i64 v.lo,.int .i64 v.hi,.int .i64 v.op,.slice v.qk v.nk v.ck])∧NdIn w' v T1)∧Below w.heap.size w w':=by
  have h:=ints_any ⟨#[97]⟩ (some ⟨w.heap.size,0,none⟩) 2 [1,-2] _ (two_ints (box_new w (.cells #[.int .i64 1,.int .i64 (-2)] 3))) (by simp)
  refine h.mono fun _ _ ⟨⟨v,he,hf⟩,hb⟩=>⟨⟨v,he,hf.toIn⟩,below_sub ((Below.refl _ _).alloc (Nat.le_refl _) _) hb⟩
theorem fx_range (w:World):Calls Tryd.prog 13 #[.string ⟨#[97]⟩,.int .i64 5,.int .i64 3] w fun e w'=>(∃ v,e=.returned (.agg #[.int .i64 v.kind,.string v.attr,.slice v.qi v.ni v.ci,.slice v.qw v.nw v.cw,.int .i64 v.lo,.int .i64 v.hi,.int .i64 v.op,.slice v.qk v.nk v.ck])∧NdIn w' v T2)∧Below w.heap.size w w' :=
  (range_any ⟨#[97]⟩ 5 3 w).mono fun _ _ ⟨⟨v,he,hf⟩,hb⟩=>⟨⟨v,he,hf.toIn⟩,hb⟩
theorem fx_prefix (w:World):Calls Tryd.prog 14 #[.string ⟨#[99]⟩,.string ⟨#[120]⟩] w fun e w'=>(∃ v,e=.returned (.agg #[.int .i64 v.kind,.string v.attr,.slice v.qi v.ni v.ci,.slice v.qw v.nw v.cw,.int .i64 v.lo,.int .i64 v.hi,.int .i64 v.op,.slice v.qk v.nk v.ck])∧NdIn w' v T3)∧Below w.heap.size w w' :=
  (prefix_any ⟨#[99]⟩ ⟨#[120]⟩ w).mono fun _ _ ⟨⟨v,he,hf⟩,hb⟩=>⟨⟨v,he,hf.toIn⟩,hb⟩
theorem fx_not (v0:Nv) (w:World) (h:NdIn w v0 T3):Calls Tryd.prog 8 #[.agg #[.int .i64 v0.kind,.string v0.attr,.slice v0.qi v0.ni v0.ci,.slice v0.qw v0.nw v0.cw,.int .i64 v0.lo,.int .i64 v0.hi,.int .i64 v0.op,.slice v0.qk v0.nk v0.ck]] w fun e w'=>(∃ v,e=.returned (.agg #[.int .i64 v.kind,.string v.attr,.slice v.qi v.ni v.ci,.slice v.qw v.nw v.cw,.int .i64 v.lo,.int .i64 v.hi,.int .i64 v.op,.slice v.qk v.nk v.ck])∧NdIn w' v (notT T3))∧Below w.heap.size w w' :=
  (not_any T3 v0 w h (by decide +kernel)).mono fun _ _ ⟨⟨v,he,hf⟩,hb⟩=>⟨⟨v,he,hf.toIn⟩,hb⟩
theorem one_word {w:World} {M:Nat} {s:ByteArray} (h:w.heap[M]? = some (.cells #[.string s] 9 (0,0))):SlOf encS 1 w (some ⟨M,0,none⟩) 1 [s] :=
  ⟨(fun h=>by cases h),Nat.le_refl _,by unfold maxLen;omega,LsOf.one (heap_lt h) fun c hc=>by
    have h0:c=0:=(by omega)
    rw [h0,Lib.cell_of_heap h];rfl⟩
theorem fx_words (w:World):Calls Tryd.prog 15 #[.string ⟨#[99]⟩,.slice (some ⟨w.heap.size,0,none⟩) 1 1] (w.alloc (.cells #[.string ⟨#[121]⟩] 9)) fun e w'=>(∃ v,e=.returned (.agg #[.int .i64 v.kind,.string v.attr,.slice v.qi v.ni v.ci,.slice v.qw v.nw v.cw,.int .i64 v.lo,.int .i64 v.hi,.int .i64 v.op,.slice v.qk v.nk v.ck])∧NdIn w' v T4)∧Below w.heap.size w w':=by
  have h:=words_any ⟨#[99]⟩ (some ⟨w.heap.size,0,none⟩) 1 [⟨#[121]⟩] _ (one_word (box_new w (.cells #[.string ⟨#[121]⟩] 9))) (by simp)
  refine h.mono fun _ _ ⟨⟨v,he,hf⟩,hb⟩=>⟨⟨v,he,hf.toIn⟩,below_sub ((Below.refl _ _).alloc (Nat.le_refl _) _) hb⟩
theorem fx_or (v1 v2:Nv) (w:World) (h1:NdIn w v1 T1) (h2:NdIn w v2 T2):Calls Tryd.prog 7 #[.slice (some ⟨w.heap.size,0,none⟩) 2 2] (w.alloc (.cells #[.int .i64 v1.kind,.string v1.attr,.slice v1.qi v1.ni v1.ci,.slice v1.qw v1.nw v1.cw,.int .i64 v1.lo,.int .i64 v1.hi,.int .i64 v1.op,.slice v1.qk v1.nk v1.ck,.int .i64 v2.kind,.string v2.attr,.slice v2.qi v2.ni v2.ci,.slice v2.qw v2.nw v2.cw,.int .i64 v2.lo,.int .i64 v2.hi,.int .i64 v2.op,.slice v2.qk v2.nk v2.ck] 29)) fun e w'=>(∃ v,e=.returned (.agg #[.int .i64 v.kind,.string v.attr,.slice v.qi v.ni v.ci,.slice v.qw v.nw v.cw,.int .i64 v.lo,.int .i64 v.hi,.int .i64 v.op,.slice v.qk v.nk v.ck])∧NdIn w' v (joinT 4 [T1,T2]))∧Below w.heap.size w w':=by
  have hb0:=(Below.refl w.heap.size w).alloc (Nat.le_refl _) (.cells #[.int .i64 v1.kind,.string v1.attr,.slice v1.qi v1.ni v1.ci,.slice v1.qw v1.nw v1.cw,.int .i64 v1.lo,.int .i64 v1.hi,.int .i64 v1.op,.slice v1.qk v1.nk v1.ck,.int .i64 v2.kind,.string v2.attr,.slice v2.qi v2.ni v2.ci,.slice v2.qw v2.nw v2.cw,.int .i64 v2.lo,.int .i64 v2.hi,.int .i64 v2.op,.slice v2.qk v2.nk v2.ck] 29)
  have hn:NdsOf (w.alloc (.cells #[.int .i64 v1.kind,.string v1.attr,.slice v1.qi v1.ni v1.ci,.slice v1.qw v1.nw v1.cw,.int .i64 v1.lo,.int .i64 v1.hi,.int .i64 v1.op,.slice v1.qk v1.nk v1.ck,.int .i64 v2.kind,.string v2.attr,.slice v2.qi v2.ni v2.ci,.slice v2.qw v2.nw v2.cw,.int .i64 v2.lo,.int .i64 v2.hi,.int .i64 v2.op,.slice v2.qk v2.nk v2.ck] 29)) (some ⟨w.heap.size,0,none⟩) 2 [T1,T2]:=⟨[v1,v2],of_block (box_new w _) (flat_2 v1 v2) (by simp),rfl,fun j v x hv hx=>by
    match j,hv,hx with
    | 0,hv,hx=>cases hv;cases hx;exact h1.keep hb0
    | 1,hv,hx=>cases hv;cases hx;exact h2.keep hb0⟩
  exact (or_any _ 2 [T1,T2] _ hn (by decide +kernel)).mono fun _ _ ⟨⟨v,he,hf⟩,hb⟩=>⟨⟨v,he,hf.toIn⟩,below_sub hb0 hb⟩
theorem fx_and (v1 v2 v3:Nv) (w:World) (h1:NdIn w v1 (joinT 4 [T1,T2])) (h2:NdIn w v2 (notT T3)) (h3:NdIn w v3 T4):Calls Tryd.prog 6 #[.slice (some ⟨w.heap.size,0,none⟩) 3 3] (w.alloc (.cells #[.int .i64 v1.kind,.string v1.attr,.slice v1.qi v1.ni v1.ci,.slice v1.qw v1.nw v1.cw,.int .i64 v1.lo,.int .i64 v1.hi,.int .i64 v1.op,.slice v1.qk v1.nk v1.ck,.int .i64 v2.kind,.string v2.attr,.slice v2.qi v2.ni v2.ci,.slice v2.qw v2.nw v2.cw,.int .i64 v2.lo,.int .i64 v2.hi,.int .i64 v2.op,.slice v2.qk v2.nk v2.ck,.int .i64 v3.kind,.string v3.attr,.slice v3.qi v3.ni v3.ci,.slice v3.qw v3.nw v3.cw,.int .i64 v3.lo,.int .i64 v3.hi,.int .i64 v3.op,.slice v3.qk v3.nk v3.ck] 29)) fun e w'=>(∃ v,e=.returned (.agg #[.int .i64 v.kind,.string v.attr,.slice v.qi v.ni v.ci,.slice v.qw v.nw v.cw,.int .i64 v.lo,.int .i64 v.hi,.int .i64 v.op,.slice v.qk v.nk v.ck])∧NdIn w' v TA)∧Below w.heap.size w w':=by
  have hb0:=(Below.refl w.heap.size w).alloc (Nat.le_refl _) (.cells #[.int .i64 v1.kind,.string v1.attr,.slice v1.qi v1.ni v1.ci,.slice v1.qw v1.nw v1.cw,.int .i64 v1.lo,.int .i64 v1.hi,.int .i64 v1.op,.slice v1.qk v1.nk v1.ck,.int .i64 v2.kind,.string v2.attr,.slice v2.qi v2.ni v2.ci,.slice v2.qw v2.nw v2.cw,.int .i64 v2.lo,.int .i64 v2.hi,.int .i64 v2.op,.slice v2.qk v2.nk v2.ck,.int .i64 v3.kind,.string v3.attr,.slice v3.qi v3.ni v3.ci,.slice v3.qw v3.nw v3.cw,.int .i64 v3.lo,.int .i64 v3.hi,.int .i64 v3.op,.slice v3.qk v3.nk v3.ck] 29)
  have hn:NdsOf (w.alloc (.cells #[.int .i64 v1.kind,.string v1.attr,.slice v1.qi v1.ni v1.ci,.slice v1.qw v1.nw v1.cw,.int .i64 v1.lo,.int .i64 v1.hi,.int .i64 v1.op,.slice v1.qk v1.nk v1.ck,.int .i64 v2.kind,.string v2.attr,.slice v2.qi v2.ni v2.ci,.slice v2.qw v2.nw v2.cw,.int .i64 v2.lo,.int .i64 v2.hi,.int .i64 v2.op,.slice v2.qk v2.nk v2.ck,.int .i64 v3.kind,.string v3.attr,.slice v3.qi v3.ni v3.ci,.slice v3.qw v3.nw v3.cw,.int .i64 v3.lo,.int .i64 v3.hi,.int .i64 v3.op,.slice v3.qk v3.nk v3.ck] 29)) (some ⟨w.heap.size,0,none⟩) 3 [joinT 4 [T1,T2],notT T3,T4]:=⟨[v1,v2,v3],of_block (box_new w _) (flat_3 v1 v2 v3) (by simp),rfl,fun j v x hv hx=>by
    match j,hv,hx with
    | 0,hv,hx=>cases hv;cases hx;exact h1.keep hb0
    | 1,hv,hx=>cases hv;cases hx;exact h2.keep hb0
    | 2,hv,hx=>cases hv;cases hx;exact h3.keep hb0⟩
  exact (and_any _ 3 [joinT 4 [T1,T2],notT T3,T4] _ hn (by decide +kernel)).mono fun _ _ ⟨⟨v,he,hf⟩,hb⟩=>⟨⟨v,he,hf.toIn⟩,below_sub hb0 hb⟩
theorem fx_text (v0:Nv) (w:World) (hG:G w) (h:NdIn w v0 TA):Calls Tryd.prog 16 #[.agg #[.int .i64 v0.kind,.string v0.attr,.slice v0.qi v0.ni v0.ci,.slice v0.qw v0.nw v0.cw,.int .i64 v0.lo,.int .i64 v0.hi,.int .i64 v0.op,.slice v0.qk v0.nk v0.ck]] w fun e w'=>e=.returned (.tuple #[.string ⟨#[40,97,32,123,49,44,32,45,50,125,32,124,32,97,32,91,53,44,32,51,93,41,32,38,32,33,99,32,34,120,34,42,32,38,32,99,32,123,34,121,34,125]⟩,.int .i64 0])∧Below w.heap.size w w':=by
  have:=textT_any TA v0 w hG h (Nat.le_trans wt_TA (by decide)) (by rw [text_TA];decide)
  rw [textB_TA,chk_TA] at this
  exact this
theorem fx_check (v0:Nv) (w:World) (h:NdIn w v0 TA):Calls Tryd.prog 17 #[.agg #[.int .i64 v0.kind,.string v0.attr,.slice v0.qi v0.ni v0.ci,.slice v0.qw v0.nw v0.cw,.int .i64 v0.lo,.int .i64 v0.hi,.int .i64 v0.op,.slice v0.qk v0.nk v0.ck]] w fun e w'=>e=.returned (.int .i64 0)∧Below w.heap.size w w':=by
  have:=checkT_any TA v0 w h (Nat.le_trans wt_TA (by decide))
  rw [chk_TA] at this;exact this
theorem fx_depth (v0:Nv) (w:World) (h:NdIn w v0 TA):Calls Tryd.prog 18 #[.agg #[.int .i64 v0.kind,.string v0.attr,.slice v0.qi v0.ni v0.ci,.slice v0.qw v0.nw v0.cw,.int .i64 v0.lo,.int .i64 v0.hi,.int .i64 v0.op,.slice v0.qk v0.nk v0.ck]] w fun e w'=>e=.returned (.int .i64 3)∧Below w.heap.size w w':=by
  have:=depth_any TA v0 w h (by rw [size_TA];decide)
  rw [dep_TA] at this;exact this
theorem fx_size (v0:Nv) (w:World) (h:NdIn w v0 TA):Calls Tryd.prog 19 #[.agg #[.int .i64 v0.kind,.string v0.attr,.slice v0.qi v0.ni v0.ci,.slice v0.qw v0.nw v0.cw,.int .i64 v0.lo,.int .i64 v0.hi,.int .i64 v0.op,.slice v0.qk v0.nk v0.ck]] w fun e w'=>e=.returned (.int .i64 7)∧Below w.heap.size w w':=by
  have:=size_any TA v0 w h (by rw [size_TA];decide)
  rw [size_TA] at this;exact this
theorem fx_same (v0:Nv) (w:World) (h:NdIn w v0 TA):Calls Tryd.prog 20 #[.agg #[.int .i64 v0.kind,.string v0.attr,.slice v0.qi v0.ni v0.ci,.slice v0.qw v0.nw v0.cw,.int .i64 v0.lo,.int .i64 v0.hi,.int .i64 v0.op,.slice v0.qk v0.nk v0.ck],.agg #[.int .i64 v0.kind,.string v0.attr,.slice v0.qi v0.ni v0.ci,.slice v0.qw v0.nw v0.cw,.int .i64 v0.lo,.int .i64 v0.hi,.int .i64 v0.op,.slice v0.qk v0.nk v0.ck]] w fun e w'=>e=.returned (.bool true)∧Below w.heap.size w w':=by
  have:=same_all TA TA v0 v0 w h h (Nat.le_trans wt_TA (by decide))
  rw [sameT_yes rfl] at this;exact this
theorem fx_zero (w:World):Calls Tryd.prog 17 #[.agg #[.int .i64 0,.string ⟨#[]⟩,.slice none 0 0,.slice none 0 0,.int .i64 0,.int .i64 0,.int .i64 0,.slice none 0 0]] w fun e w'=>e=.returned (.int .i64 1)∧Below w.heap.size w w':=by
  have:=checkT_any zeroT ⟨0,⟨#[]⟩,none,0,0,none,0,0,0,0,0,none,0,0⟩ w (NdIn.make (ints:=[]) (words:=[]) (kids:=[]) (SlOf.none _) (SlOf.none _) ⟨[],SlOf.none _,rfl,fun j v x h=>by simp at h⟩) (by decide +kernel)
  rw [chk_zero] at this;exact this
/-- The third kid of the tree, and its predicate. -/
theorem fx_kid (v0:Nv) (w:World) (h:NdIn w v0 TA):v0.nk=3∧∃ b off v,v0.qk=some ⟨b,off,none⟩∧b < w.heap.size∧NdIn w v T4∧w.cell? ⟨b,off + 16,none⟩=some (.int .i64 v.kind)∧w.cell? ⟨b,off + 16 + 1,none⟩=some (.string v.attr)∧w.cell? ⟨b,off + 16 + 2,none⟩=some (.slice v.qi v.ni v.ci)∧w.cell? ⟨b,off + 16 + 3,none⟩=some (.slice v.qw v.nw v.cw)∧w.cell? ⟨b,off + 16 + 4,none⟩=some (.int .i64 v.lo)∧w.cell? ⟨b,off + 16 + 5,none⟩=some (.int .i64 v.hi):=by
  have h':NdIn w v0 (.mk 0 ⟨#[]⟩ [] [] 0 0 3 [joinT 4 [T1,T2],notT T3,T4]):=h
  obtain ⟨qi,ci,qw,cw,qk,ck,rfl,s1,t1,n1⟩:=h'.parts
  obtain ⟨b,off,v,hq,hb,hin,c0,c1,c2,c3,c4,c5,_⟩:=n1.at (j:=2) (x:=T4) rfl
  exact ⟨rfl,b,off,v,hq,hb,hin,c0,c1,c2,c3,c4,c5⟩
theorem fx_pred (v0:Nv) (w:World) (h:NdIn w v0 T4):Calls Tryd.prog 21 #[.agg #[.int .i64 v0.kind,.string v0.attr,.slice v0.qi v0.ni v0.ci,.slice v0.qw v0.nw v0.cw,.int .i64 v0.lo,.int .i64 v0.hi]] w fun e w'=>e=.returned (.int .i64 0)∧Below w.heap.size w w':=by
  have h':NdIn w v0 (.mk 2 ⟨#[99]⟩ [] [⟨#[121]⟩] 0 0 1 []):=h
  obtain ⟨qi,ci,qw,cw,qk,ck,rfl,s1,t1,n1⟩:=h'.parts
  have:=pred_any 2 ⟨#[99]⟩ qi ci [] qw cw [⟨#[121]⟩] 0 0 w s1 t1 (by simp) (by simp)
  rw [pred_T4] at this;exact this
set_option maxRecDepth 100000 in
set_option maxHeartbeats 8000000 in
theorem fixed_any (w:World) (hG:G w):Calls Tryd.prog 4 #[] w fun e w'=>e=.returned (.bool true)∧Below w.heap.size w w':=by
  go_enter Tryd.func4,Tryd.ntmps4
  go_wp2_with (first
    | (go_at_call 12;refine (fx_ints w).mono ?_;rintro e u1 ⟨⟨v1,rfl,f1⟩,b1⟩;have B1:=hide b1;have F1:=hide f1;clear f1 b1)
    | (go_at_call 13;refine (fx_range u1).mono ?_;rintro e u2 ⟨⟨v2,rfl,f2⟩,b2⟩;have B2:=hide (below_sub (uh B1) b2);have F2:=hide f2;have F12:=hide ((uh F1).keep b2);clear f2 b2)
    | (go_at_call 7;refine (fx_or v1 v2 u2 (uh F12) (uh F2)).mono ?_;rintro e u3 ⟨⟨v3,rfl,f3⟩,b3⟩;have B3:=hide (below_sub (uh B2) b3);have F3:=hide f3;clear f3 b3)
    | (go_at_call 14;refine (fx_prefix u3).mono ?_;rintro e u4 ⟨⟨v4,rfl,f4⟩,b4⟩;have B4:=hide (below_sub (uh B3) b4);have F4:=hide f4;have F34:=hide ((uh F3).keep b4);clear f4 b4)
    | (go_at_call 8;refine (fx_not v4 u4 (uh F4)).mono ?_;rintro e u5 ⟨⟨v5,rfl,f5⟩,b5⟩;have B5:=hide (below_sub (uh B4) b5);have F5:=hide f5;have F35:=hide ((uh F34).keep b5);clear f5 b5)
    | (go_at_call 15;refine (fx_words u5).mono ?_;rintro e u6 ⟨⟨v6,rfl,f6⟩,b6⟩;have B6:=hide (below_sub (uh B5) b6);have F6:=hide f6;have F36:=hide ((uh F35).keep b6);have F56:=hide ((uh F5).keep b6);clear f6 b6)
    | (go_at_call 6;refine (fx_and v3 v5 v6 u6 (uh F36) (uh F56) (uh F6)).mono ?_;rintro e u7 ⟨⟨v7,rfl,f7⟩,b7⟩;have B7:=hide (below_sub (uh B6) b7);have F7:=hide f7;clear f7 b7)
    | (go_at_call 16;refine (fx_text v7 _ (by exact G_alloc (G_below hG (uh B7)) _) (by exact (uh F7).keep ((Below.refl _ _).alloc (Nat.le_refl _) _))).mono ?_;rintro e u8 ⟨rfl,b8⟩;have hh:=(b8.block _ (by simp)).trans (box_new u7 _);obtain ⟨c0,c1,c2,c3,c4,c5,c6,c7⟩:=of8 hh;have H8:=hide hh;have F8:=hide (((uh F7).keep ((Below.refl _ _).alloc (Nat.le_refl _) _)).keep b8);have B8:=hide (below_sub ((uh B7).alloc (uh B7).size _) b8);clear b8 hh)
    | (go_at_call 21;refine (fx_pred vk _ (uh FK)).mono ?_;rintro e u13 ⟨rfl,b13⟩;have B13:=hide (below_sub (uh B12) b13);clear b13)
    | (go_at_call 17;have hB:=uh B13;clear hB;refine (fx_zero _).mono ?_;rintro e u14 ⟨rfl,b14⟩;have B14:=hide (below_sub (uh B13) b14);clear b14)
    | (go_at_call 17;refine (fx_check v7 _ (uh F8)).mono ?_;rintro e u9 ⟨rfl,b9⟩;have hh:=(b9.block _ (heap_lt (uh H8))).trans (uh H8);obtain ⟨d0,d1,d2,d3,d4,d5,d6,d7⟩:=of8 hh;have H9:=hide hh;have F9:=hide ((uh F8).keep b9);have B9:=hide (below_sub (uh B8) b9);clear b9 hh)
    | (go_at_call 18;refine (fx_depth v7 _ (uh F9)).mono ?_;rintro e u10 ⟨rfl,b10⟩;have hh:=(b10.block _ (heap_lt (uh H9))).trans (uh H9);obtain ⟨e0,e1,e2,e3,e4,e5,e6,e7⟩:=of8 hh;have H10:=hide hh;have F10:=hide ((uh F9).keep b10);have B10:=hide (below_sub (uh B9) b10);clear b10 hh)
    | (go_at_call 19;refine (fx_size v7 _ (uh F10)).mono ?_;rintro e u11 ⟨rfl,b11⟩;have hh:=(b11.block _ (heap_lt (uh H10))).trans (uh H10);obtain ⟨g0,g1,g2,g3,g4,g5,g6,g7⟩:=of8 hh;have H11:=hide hh;have F11:=hide ((uh F10).keep b11);have B11:=hide (below_sub (uh B10) b11);clear b11 hh)
    | (go_at_call 20;refine (fx_same v7 _ (uh F11)).mono ?_;rintro e u12 ⟨rfl,b12⟩;have hh:=(b12.block _ (heap_lt (uh H11))).trans (uh H11);obtain ⟨i0,i1,i2,i3,i4,i5,i6,i7⟩:=of8 hh;obtain ⟨hn3,kb,ko,vk,hkq,hkb,hkin,k0,k1,k2,k3,k4,k5⟩:=fx_kid v7 _ ((uh F11).keep b12);rw [hn3,hkq] at i7;have FK:=hide hkin;have B12:=hide (below_sub (uh B11) b12);clear b12 hh hkin hn3 hkq))
  go_ret
  exact ⟨rfl,uh B14⟩
end Go.Proofs.YtikhopiegaoacaaDoor

/- Rows of spreads. -/
import Derived.Test.YtikhopiegaoacacDDnfMeas
namespace Go.Proofs.Ytikhopiegaoacac
open Go.RowKit Go.Sort

theorem gset {w w':World} {g:Nat} (h:w.grownBy w' (some g)) (o:Nat) (v:Value):w.grownBy (w'.setCell ⟨g,o,none⟩ v) (some g):=by
 have hb:=(Below.refl 0 w').setCell (p:=⟨g,o,none⟩) (Nat.zero_le _) v
 exact ⟨hb.os.trans h.os,hb.tape.trans h.tape,hb.output.trans h.output,Nat.le_trans h.size hb.size,fun k hk hne=>(Below.heap_setCell _ _ _ _ (fun e=>hne (by rw [e]))).trans (h.block k hk hne)⟩
theorem grefl (w:World) (r:Option Nat):w.grownBy w r:=⟨rfl,rfl,rfl,Nat.le_refl _,fun _ _ _=>rfl⟩
theorem row_below {B n m k:Nat} {e:TypeId} {g:Nat} {xs:List Value} {w w':World} (h:w.ownsRow B e k (.slice (some ⟨g,0,none⟩) n m) n xs) (hb:Below w.heap.size w w'):w'.ownsRow B e k (.slice (some ⟨g,0,none⟩) n m) n xs :=
 World.ownsRow.kept h (row:=none) ⟨hb.os,hb.tape,hb.output,hb.size,fun j hj _=>hb.block j hj⟩ (Or.inr (by simp [Value.ownBlock]))
theorem rowOf10 {W:World} {g B n k:Nat} {cur:Array Value} {T:TypeId} (h:W.heap[g]? = some (.cells cur T (0,0))) (hB:B≤g) (hs:cur.size=n * k) (hm:n≤maxLen):W.ownsRow B T k (.slice (some ⟨g,0,none⟩) n n) n cur.toList :=
 ⟨by simp [hs],.inr ⟨g,n,cur,rfl,hB,h,Nat.le_refl _,hm,hs,by rw [List.take_of_length_le (by simp [hs])]⟩⟩
theorem row_off {B n m k:Nat} {e:TypeId} {g:Nat} {xs:List Value} {w w':World} {r:Nat} (h:w.ownsRow B e k (.slice (some ⟨g,0,none⟩) n m) n xs) (hg:w.grownBy w' (some r)) (hne:g ≠ r):w'.ownsRow B e k (.slice (some ⟨g,0,none⟩) n m) n xs :=
 World.ownsRow.kept h hg (Or.inr (by simp [Value.ownBlock,hne]))
theorem g10 (w:World) (g o:Nat) (a0 a1 a2 a3 a4 a5 a6 a7 a8 a9:Value):w.grownBy ((((((((((w.setCell ⟨g,o,none⟩ (a0)).setCell ⟨g,o + 1,none⟩ (a1)).setCell ⟨g,o + 2,none⟩ (a2)).setCell ⟨g,o + 3,none⟩ (a3)).setCell ⟨g,o + 4,none⟩ (a4)).setCell ⟨g,o + 5,none⟩ (a5)).setCell ⟨g,o + 6,none⟩ (a6)).setCell ⟨g,o + 7,none⟩ (a7)).setCell ⟨g,o + 8,none⟩ (a8)).setCell ⟨g,o + 9,none⟩ (a9)) (some g):=gset (gset (gset (gset (gset (gset (gset (gset (gset (gset (grefl w (some g)) _ _) _ _) _ _) _ _) _ _) _ _) _ _) _ _) _ _) _ _
theorem ags10 {A C:Nat} {w0 w:World} (h:Ags A C w0 w) {g:Nat} (o:Nat) (h1:A≤g) (h2:g < C) (a0 a1 a2 a3 a4 a5 a6 a7 a8 a9:Value):Ags A C w0 ((((((((((w.setCell ⟨g,o,none⟩ (a0)).setCell ⟨g,o + 1,none⟩ (a1)).setCell ⟨g,o + 2,none⟩ (a2)).setCell ⟨g,o + 3,none⟩ (a3)).setCell ⟨g,o + 4,none⟩ (a4)).setCell ⟨g,o + 5,none⟩ (a5)).setCell ⟨g,o + 6,none⟩ (a6)).setCell ⟨g,o + 7,none⟩ (a7)).setCell ⟨g,o + 8,none⟩ (a8)).setCell ⟨g,o + 9,none⟩ (a9)):=((((((((((h.set (p:=⟨g,o,none⟩) h1 h2 a0)).set (p:=⟨g,o + 1,none⟩) h1 h2 a1).set (p:=⟨g,o + 2,none⟩) h1 h2 a2).set (p:=⟨g,o + 3,none⟩) h1 h2 a3).set (p:=⟨g,o + 4,none⟩) h1 h2 a4).set (p:=⟨g,o + 5,none⟩) h1 h2 a5).set (p:=⟨g,o + 6,none⟩) h1 h2 a6).set (p:=⟨g,o + 7,none⟩) h1 h2 a7).set (p:=⟨g,o + 8,none⟩) h1 h2 a8).set (p:=⟨g,o + 9,none⟩) h1 h2 a9
theorem row10 {B n m:Nat} {e:TypeId} {g:Nat} {p d:List Value} {w:World} {o:Nat} (z0 z1 z2 z3 z4 z5 z6 z7 z8 z9 a0 a1 a2 a3 a4 a5 a6 a7 a8 a9:Value) (h:w.ownsRow B e 10 (.slice (some ⟨g,0,none⟩) n m) n (p ++ [z0,z1,z2,z3,z4,z5,z6,z7,z8,z9] ++ d)) (ho:p.length=o):((((((((((w.setCell ⟨g,o,none⟩ (a0)).setCell ⟨g,o + 1,none⟩ (a1)).setCell ⟨g,o + 2,none⟩ (a2)).setCell ⟨g,o + 3,none⟩ (a3)).setCell ⟨g,o + 4,none⟩ (a4)).setCell ⟨g,o + 5,none⟩ (a5)).setCell ⟨g,o + 6,none⟩ (a6)).setCell ⟨g,o + 7,none⟩ (a7)).setCell ⟨g,o + 8,none⟩ (a8)).setCell ⟨g,o + 9,none⟩ (a9)).ownsRow B e 10 (.slice (some ⟨g,0,none⟩) n m) n (p ++ [a0,a1,a2,a3,a4,a5,a6,a7,a8,a9] ++ d):=by
 have h2:=((((((((((h.stored o a0).1.stored (o + 1) a1).1.stored (o + 2) a2).1.stored (o + 3) a3).1.stored (o + 4) a4).1.stored (o + 5) a5).1.stored (o + 6) a6).1.stored (o + 7) a7).1.stored (o + 8) a8).1.stored (o + 9) a9).1
 subst ho
 simpa [List.set_append,List.append_assoc] using h2
theorem row1 {B n m:Nat} {e:TypeId} {g:Nat} {p d:List Value} {w:World} {o:Nat} (z a:Value) (h:w.ownsRow B e 1 (.slice (some ⟨g,0,none⟩) n m) n (p ++ [z] ++ d)) (ho:p.length=o):(w.setCell ⟨g,o,none⟩ a).ownsRow B e 1 (.slice (some ⟨g,0,none⟩) n m) n (p ++ [a] ++ d):=by
 have h2:=(h.stored o a).1
 subst ho
 simpa [List.set_append,List.append_assoc] using h2
theorem ten_of {d:List Value} {o:Nat} (h:o + 10≤d.length):∃ z0 z1 z2 z3 z4 z5 z6 z7 z8 z9,d.drop o=[z0,z1,z2,z3,z4,z5,z6,z7,z8,z9] ++ d.drop (o + 10):=by
 refine ⟨d[o],d[o + 1],d[o + 2],d[o + 3],d[o + 4],d[o + 5],d[o + 6],d[o + 7],d[o + 8],d[o + 9], ?_⟩
 rw [List.drop_eq_getElem_cons (i:=o) (by omega),List.drop_eq_getElem_cons (i:=o + 1) (by omega),List.drop_eq_getElem_cons (i:=o + 2) (by omega),List.drop_eq_getElem_cons (i:=o + 3) (by omega),List.drop_eq_getElem_cons (i:=o + 4) (by omega),List.drop_eq_getElem_cons (i:=o + 5) (by omega),List.drop_eq_getElem_cons (i:=o + 6) (by omega),List.drop_eq_getElem_cons (i:=o + 7) (by omega),List.drop_eq_getElem_cons (i:=o + 8) (by omega),List.drop_eq_getElem_cons (i:=o + 9) (by omega)]
 rfl
theorem flat_len10 (us:List Sv):(flatK encSd 10 us.toArray).toList.length=us.length * 10:=by simp [flatK]
theorem flat_one10 (s:Sv):(flatK encSd 10 [s].toArray).toList=[.int .i64 s.lit.kind,.string s.lit.attr,.slice s.lit.qi s.lit.ni s.lit.ci,.slice s.lit.qw s.lit.nw s.lit.cw,.int .i64 s.lit.lo,.int .i64 s.lit.hi,.bool s.lit.neg,.int .i64 s.op,.int .i64 s.width,.slice s.qk s.nk s.ck]:=by
 apply List.ext_getElem?
 intro j
 by_cases hj:j < 10
 ·have:=flat_at (enc:=encSd) (k:=10) (l:=[s]) (j:=0) (x:=s) rfl j hj
  rw [Nat.zero_mul,Nat.zero_add] at this
  rw [this]
  have hm:j=0 ∨ j=1 ∨ j=2 ∨ j=3 ∨ j=4 ∨ j=5 ∨ j=6 ∨ j=7 ∨ j=8 ∨ j=9:=by omega
  rcases hm with e | e | e | e | e | e | e | e | e | e <;> rw [e] <;> rfl
 ·rw [List.getElem?_eq_none (by simp [flatK];omega),List.getElem?_eq_none (by simp;omega)]
theorem NdsOf.on2 {w wr:World} {q:Option Addr} {c:Nat} {l:List Nd} {j:Nat} {x:Nd} (h:NdsOf w q c l) (hj:l[j]? = some x) (hbel:Below w.heap.size w wr) :
  ∃ b off v,q=some ⟨b,off,none⟩∧NdIn w v x∧wr.cell? ⟨b,off + j * 8,none⟩=some (.int .i64 v.kind)∧wr.cell? ⟨b,off + j * 8 + 1,none⟩=some (.string v.attr)∧wr.cell? ⟨b,off + j * 8 + 2,none⟩=some (.slice v.qi v.ni v.ci)∧wr.cell? ⟨b,off + j * 8 + 3,none⟩=some (.slice v.qw v.nw v.cw)∧wr.cell? ⟨b,off + j * 8 + 4,none⟩=some (.int .i64 v.lo)∧wr.cell? ⟨b,off + j * 8 + 5,none⟩=some (.int .i64 v.hi)∧wr.cell? ⟨b,off + j * 8 + 6,none⟩=some (.int .i64 v.op)∧wr.cell? ⟨b,off + j * 8 + 7,none⟩=some (.slice v.qk v.nk v.ck):=by
 obtain ⟨b,off,v,hq,hb,hin,c0,c1,c2,c3,c4,c5,c6,c7⟩:=h.at hj
 exact ⟨b,off,v,hq,hin,(hbel.cell hb).trans c0,(hbel.cell hb).trans c1,(hbel.cell hb).trans c2,(hbel.cell hb).trans c3,(hbel.cell hb).trans c4,(hbel.cell hb).trans c5,(hbel.cell hb).trans c6,(hbel.cell hb).trans c7⟩
end Go.Proofs.Ytikhopiegaoacac

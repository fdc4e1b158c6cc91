/- dnf's oneOf: the kid in whose part the place lies. -/
import Derived.Test.YtikhopiegaoacacDDnfConj
namespace Go.Proofs.Ytikhopiegaoacac
open Go.RowKit Go.Sort

/-- conj of the tree t, at any of its places. -/
def ConjAny (t:Nd):Prop:=∀ (s:Sv) (w0:World) (p:Nat) (cj:List Lt) (q:Option Addr) (c n B:Nat) (ls:List Lt) (w:World),SdIn w0 s t→Below w0.heap.size w0 w→w0.heap.size≤B→B≤w.heap.size→GrowL B w q c n ls→(cjN t)[p]? = some cj→n + cj.length≤1000000000→Calls Try.prog 24 #[s.val,.int .i64 p,.slice q n c] w (ConjEnd B w ls cj)
theorem sum_drop {kids:List Nd} {k p:Nat} {x:Nd} {cj:List Lt} (hx:kids[k]? = some x) (h:(cjSum (kids.drop k))[p]? = some cj) (hp:¬ p < (cjN x).length):(cjSum (kids.drop (k + 1)))[p - (cjN x).length]? = some cj:=by
 obtain ⟨hk,rfl⟩:=List.getElem?_eq_some_iff.1 hx
 rw [List.drop_eq_getElem_cons hk,sum_get,if_neg hp] at h
 exact h
theorem sum_here {kids:List Nd} {k p:Nat} {x:Nd} {cj:List Lt} (hx:kids[k]? = some x) (h:(cjSum (kids.drop k))[p]? = some cj) (hp:p < (cjN x).length):(cjN x)[p]? = some cj:=by
 obtain ⟨hk,rfl⟩:=List.getElem?_eq_some_iff.1 hx
 rw [List.drop_eq_getElem_cons hk,sum_get,if_pos hp] at h
 exact h
theorem of10' {w:World} {M:Nat} {a0 a1 a2 a3 a4 a5 a6 a7 a8 a9:Value} {T:TypeId} (h:w.heap[M]? = some (.cells #[a0,a1,a2,a3,a4,a5,a6,a7,a8,a9] T (0,0))):w.cell? ⟨M,0,none⟩=some a0∧w.cell? ⟨M,1,none⟩=some a1∧w.cell? ⟨M,2,none⟩=some a2∧w.cell? ⟨M,3,none⟩=some a3∧w.cell? ⟨M,4,none⟩=some a4∧w.cell? ⟨M,5,none⟩=some a5∧w.cell? ⟨M,6,none⟩=some a6∧w.cell? ⟨M,7,none⟩=some a7∧w.cell? ⟨M,8,none⟩=some a8∧w.cell? ⟨M,9,none⟩=some a9:=by
 refine ⟨?_, ?_, ?_, ?_, ?_, ?_, ?_, ?_, ?_, ?_⟩ <;> (unfold World.cell?;simp [h])
set_option maxRecDepth 100000 in
set_option maxHeartbeats 8000000 in
theorem oneOf_any (kids:List Nd) (hK:∀ x ∈ kids,ConjAny x) (hC:∀ x ∈ kids,chkN x=true∧atN x=true) (s:Sv) (w0:World) (qk:Option Addr) (ck P:Nat) (cj:List Lt) (q:Option Addr) (c n B:Nat) (ls:List Lt) (w:World) (hs:SdsOf w0 qk ck kids) (hb:Below w0.heap.size w0 w) (hB0:w0.heap.size≤B) (hB:B≤w.heap.size) (hg:GrowL B w q c n ls) (hcj:(cjSum kids)[P]? = some cj) (ln:n + cj.length≤1000000000) (lP:P≤1000000000000) (lk:kids.length≤1000000000) :
  Calls Try.prog 42 #[.agg #[.int .i64 s.lit.kind,.string s.lit.attr,.slice s.lit.qi s.lit.ni s.lit.ci,.slice s.lit.qw s.lit.nw s.lit.cw,.int .i64 s.lit.lo,.int .i64 s.lit.hi,.bool s.lit.neg,.int .i64 s.op,.int .i64 s.width,.slice qk kids.length ck],.int .i64 P,.slice q n c] w (ConjEnd B w ls cj):=by
 obtain ⟨X,HX⟩:∃ X,w.alloc (.cells #[.int .i64 s.lit.kind,.string s.lit.attr,.slice s.lit.qi s.lit.ni s.lit.ci,.slice s.lit.qw s.lit.nw s.lit.cw,.int .i64 s.lit.lo,.int .i64 s.lit.hi,.bool s.lit.neg,.int .i64 s.op,.int .i64 s.width,.slice qk kids.length ck] 62)=X:=⟨_,rfl⟩
 have bX:Below w.heap.size w X:=by rw [← HX];exact (Below.refl _ _).alloc (Nat.le_refl _) _
 have xk:X.heap[w.heap.size]? = some (.cells #[.int .i64 s.lit.kind,.string s.lit.attr,.slice s.lit.qi s.lit.ni s.lit.ci,.slice s.lit.qw s.lit.nw s.lit.cw,.int .i64 s.lit.lo,.int .i64 s.lit.hi,.bool s.lit.neg,.int .i64 s.op,.int .i64 s.width,.slice qk kids.length ck] 62 (0,0)):=by rw [← HX];exact box_nw _ _
 obtain ⟨x0,x1,x2,x3,x4,x5,x6,x7,x8,x9⟩:=of10' xk
 have b0X:Below w0.heap.size w0 X:=below_sub hb bX
 have HG:=hide (hg.below bX)
 have HS0:=hide hs
 have HBX:=hide bX
 have HB0X:=hide b0X
 have HKK:=hide hK
 have HCC:=hide hC
 have HCJ:=hide hcj
 clear hs hg bX b0X hK hC hcj xk hb
 go_enter Try.func42,Try.ntmps42
 go_wp2
 go_loopw [1,7] (fun pv i wr=>∃ k p:Nat,k≤kids.length∧p≤P∧i=.int .i64 k∧pv=.int .i64 p∧(cjSum (kids.drop k))[p]? = some cj∧wr=X) (fun _ i _=>kids.length - (intOf i).toNat)
 case atStart=>exact ⟨0,P,by omega,Nat.le_refl _,rfl,rfl,uh HCJ,rfl⟩
 case round =>
  obtain ⟨k,p,hkk,hpP,rfl,rfl,hat,rfl⟩:=hrel
  have hlt:k < kids.length:=by
   by_cases h:k < kids.length
   ·exact h
   ·rw [List.drop_eq_nil_of_le (by omega)] at hat;simp [cjSum] at hat
  obtain ⟨x,hx,hxd⟩:=get_at hlt
  clear hxd
  obtain ⟨b,off,v,hq,hbb,hin,f0,f1,f2,f3,f4,f5,f6,f7,f8,f9⟩:=(uh HS0).at hx
  have g0:=((uh HB0X).cell (p:=⟨b,off + k * 10,none⟩) hbb).trans f0
  have g1:=((uh HB0X).cell (p:=⟨b,off + k * 10 + 1,none⟩) hbb).trans f1
  have g2:=((uh HB0X).cell (p:=⟨b,off + k * 10 + 2,none⟩) hbb).trans f2
  have g3:=((uh HB0X).cell (p:=⟨b,off + k * 10 + 3,none⟩) hbb).trans f3
  have g4:=((uh HB0X).cell (p:=⟨b,off + k * 10 + 4,none⟩) hbb).trans f4
  have g5:=((uh HB0X).cell (p:=⟨b,off + k * 10 + 5,none⟩) hbb).trans f5
  have g6:=((uh HB0X).cell (p:=⟨b,off + k * 10 + 6,none⟩) hbb).trans f6
  have g7:=((uh HB0X).cell (p:=⟨b,off + k * 10 + 7,none⟩) hbb).trans f7
  have g8:=((uh HB0X).cell (p:=⟨b,off + k * 10 + 8,none⟩) hbb).trans f8
  have g9:=((uh HB0X).cell (p:=⟨b,off + k * 10 + 9,none⟩) hbb).trans f9
  clear f0 f1 f2 f3 f4 f5 f6 f7 f8 f9
  subst hq
  have hmx:=List.mem_of_getElem? hx
  have hw:v.width=((cjN x).length:Nat):=(hin.wide (uh HCC x hmx).1 (uh HCC x hmx).2).trans (cj_all [] x (uh HCC x hmx).1 (uh HCC x hmx).2).1.symm
  obtain ⟨W,hW⟩:∃ W,(cjN x).length=W:=⟨_,rfl⟩
  rw [hW] at hw
  rw [hw] at g8
  have ki0:(0:Int)≤(k:Int):=by omega
  have ki1:(k:Int) < (kids.length:Int):=by omega
  have HAT:=hide hat
  have HX2:=hide hx
  have HW2:=hide hW
  have HIN:=hide hin
  have HVW:=hide hw
  clear hat hx hW hin hw hmx
  by_cases hge:W≤p
  ·have ge1:decide ((p:Int) ≥ (W:Int))=true:=by simp;omega
   have ge2:(W:Int)≤(p:Int):=by omega
   go_wp2
   go_roundw
   case rel =>
    refine ⟨k + 1,p - W,by omega,by omega,by go_num,by go_num, ?_,trivial⟩
    have:=sum_drop (uh HX2) (uh HAT) (by have:=uh HW2;omega)
    rw [uh HW2] at this
    exact this
   case measure=>simp [intOf];omega
  ·have ge1:decide ((p:Int) ≥ (W:Int))=false:=by simp;omega
   have ge2:¬ (W:Int)≤(p:Int):=by omega
   have hC6:=uh HKK x (List.mem_of_getElem? (uh HX2)) v w0 p cj q c n B ls wr (uh HIN) (uh HB0X) hB0 (Nat.le_trans hB (uh HBX).size) (uh HG) (sum_here (uh HX2) (uh HAT) (by have:=uh HW2;omega)) ln
   unfold Sv.val at hC6
   rw [uh HVW] at hC6
   go_wp2_with (go_at_call 24;refine hC6.mono ?_;rintro e w2 ⟨q',c',N,rfl,h1,h2⟩;have HE1:=hide h1;have HE2:=hide h2;clear h1 h2)
   go_ret
   exact ⟨q',c',N,rfl,uh HE1,((uh HBX).mono hB).trans (uh HE2)⟩
end Go.Proofs.Ytikhopiegaoacac
